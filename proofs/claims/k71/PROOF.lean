import PyProof.Rows.All
import Wide.All
import OpenK.AllK
import Wide.FinOn
import Lean
import PyProof.EqAt
import PyProof.EqKinds
import PyProof.TupleCall
import OpenK.KOwn
import PyProof.Rows.FStr
import PyProof.FString
import PyProof.NsDelKeeps
import KE.KIsAll
import PyProof.ExcArgs
import KE.KLam
import KE.KNestM
import PyProof.Rows.SetFrom
import PyProof.ListMulRoad
import PyProof.FactsAll.set_1
import PyProof.FactsAll.set_2
import PyProof.CollectIter
import PyProof.TupleIter
import PyProof.CollectWalk
import PyProof.Rows.SortShell
import PyProof.SumAny
import PyProof.ListOps
import KE.KDictList
import PyProof.NoPylong
import KE.KUnpack
import KE.KSortTup
import KE.KIntText
import PyProof.Rows.TupDisplay
import PyProof.AttrMiss
import PyProof.IsiH_list
import KE.KDictOf
import PySem.Challenge.RW_nearkinds_k71_partings_that_keep_steady
noncomputable section
open PySem.W (Frag)
open List (all_eq_true drop_length ext_getElem? find?_cons foldl_append foldl_cons forIn_cons forIn_nil head?_append length_drop lookup_cons map_const' map_id map_nil mem_cons mem_filter mem_range not_mem_nil of_mem_zip pairwise_map take_length)
open Nat (add_comm le_add_right le_succ lt_or_ge lt_trans not_lt_zero zero_add zero_lt_succ)
open Int (emod_nonneg)
open Option (any_eq_true getD_none isSome_some)
open PySem.W (CodeHd callWith_K cellsFrom_some codeHdIn codeHd_of_K codeIn envX fnOf hideAll hideAll_none hideAll_size instObj keepIn kitAny kitOne kitx_bool kitx_dict kitx_float kitx_int kitx_list kitx_none kitx_str kitx_tuple kla_fn kla_obj lookIn methodObj nsIn of_hideAll plainGet tabIn tabObj)
open PySem.F (args_tuple_add_2 entry_tuple_add plain_sum_loop slot_set_iter slot_tuple_add)
abbrev aa:=@List.getElem?_eq_getElem
abbrev ae:=@List.getD_eq_getElem?_getD
abbrev af:=@PySem.Heap.get?_push_of_some
abbrev ag:=@if_pos
abbrev ah:=@List.getElem?_append_left
abbrev ai:=@List.length_map
abbrev aj:=@if_neg
abbrev ak:=@decide_eq_true_iff
abbrev ao:=@List.getElem?_map
abbrev aq:=@List.getElem?_append_right
abbrev ar:=@Nat.le_refl
abbrev au:=@List.mem_cons_of_mem
abbrev av:=@PySem.Heap.get?_push_size
abbrev aw:=@Bool.and_eq_true
abbrev ax:=@List.mem_cons_self
abbrev ay:=@List.length_append
abbrev az:=@Bool.false_ne_true
abbrev aA:=@Option.some.inj
abbrev aB:=@decide_eq_true
abbrev aC:=@decide_eq_false
abbrev aD:=@Nat.lt_of_lt_of_le
abbrev aE:=@List.getElem?_eq_none
abbrev aF:=@List.size_toArray
abbrev aG:=@PySem.Heap.lt_size
abbrev aH:=@List.getElem?_set_ne
abbrev aI:=@Int.toNat_natCast
abbrev aJ:=@List.getElem?_set_self
abbrev aK:=@beq_iff_eq
abbrev aL:=@List.map_cons
abbrev aM:=@Nat.ne_of_lt
abbrev aN:=@List.append_assoc
abbrev aO:=@List.map_map
abbrev aP:=@List.getElem_mem
abbrev aQ:=@PySem.Heap.get?_update_other
abbrev aR:=@List.mem_append_right
abbrev aS:=@Array.length_toList
abbrev aT:=@List.getElem?_range
abbrev aU:=@List.length_singleton
abbrev aV:=@List.length_cons
abbrev aW:=@Nat.lt_irrefl
abbrev aX:=@List.map_append
abbrev aY:=@List.length_range
abbrev aZ:=@Int.eq_ofNat_of_zero_le
abbrev a5:=@List.mem_append_left
abbrev a6:=@List.flatten_cons
abbrev a7:=@PySem.W.mg_none_of
abbrev a8:=@PySem.W.mg_of
abbrev a9:=@Bool.false_eq_true
abbrev ba:=@List.map_congr_left
abbrev bb:=@PySem.Heap.get?_update_self
abbrev bc:=@Nat.lt_succ_of_lt
abbrev bf:=@PySem.Heap.size_push
abbrev bg:=@List.drop_eq_getElem_cons
abbrev bh:=@List.replicate_succ
abbrev bj:=@List.length_replicate
abbrev bo:=@List.getElem_of_mem
abbrev bp:=@List.nil_append
abbrev bq:=@Nat.ne_of_gt
abbrev br:=@beq_self_eq_true
abbrev bt:=@Nat.le_trans
abbrev bw:=@List.filterMap_cons
abbrev bx:=@List.ext_getElem
abbrev bz:=@Nat.lt_succ_self
abbrev bA:=@Nat.le_of_lt
abbrev bB:=@List.mem_of_getElem?
abbrev bC:=@List.getElem?_replicate
abbrev bD:=@PySem.W.kia_one
abbrev bE:=@List.range_succ
abbrev bF:=@List.length_nil
abbrev bG:=@List.length_filter_le
abbrev bH:=@List.append_nil
abbrev bI:=@Int.toNat_of_nonneg
abbrev bJ:=@List.range_eq_range'
abbrev bK:=@Nat.zero_le
abbrev bL:=@PySem.W.hideAll_get
abbrev bM:=@Array.getElem?_toList
abbrev bN:=@Int.emod_lt_of_pos
abbrev bO:=@Bool.or_eq_true
abbrev bP:=@List.length_set
abbrev bQ:=@List.flatMap_append
abbrev bR:=@List.any_cons
abbrev bS:=@List.all_append
abbrev bT:=@List.range'_succ
abbrev bU:=@List.length_take
abbrev bV:=List (List Int)
abbrev bX:=List Int
abbrev bY:=List PySem.Value
abbrev bZ:=List PySem.Addr
abbrev b8:=List (PySem.Addr×PySem.Obj)
abbrev b9:=List Nat
abbrev cb:=Option PySem.Value
abbrev cc:=List PySem.Str
abbrev cf:=PySem.Value->PySem.Shared->Prop
abbrev cg:=List PySem.Expr
abbrev ck:=Option Int
abbrev cm:=PySem.Str->Option PySem.Value
abbrev cn:=List PySem.Env
abbrev cq:=List (PySem.Str×PySem.Addr)
abbrev cu:=List PySem.Keyword
abbrev cw:=Option PySem.Addr
abbrev cx:=List PySem.Stmt
abbrev cy:=@PySem.wpAny_bind
abbrev cz:=@PySem.wpAny_pure
abbrev cB:=@List.getElem?_eq_some_iff
abbrev cA:=@List.mem_cons
abbrev cF:=@List.all_eq_true
abbrev cC:=@List.mem_range
abbrev cD:=@List.mem_map
abbrev cE:=@List.mem_singleton
abbrev cG:=@List.mem_append
set_option Elab.async false
set_option linter.all false
set_option maxRecDepth 1000000
set_option maxHeartbeats 4000000
variable {D Pt a b c f it:PySem.Addr}{osl:Array (Option PySem.Value)}{items:Array PySem.Value}{led:Bool}{op:PySem.CmpOp}{env:PySem.Env}{e elt tg:PySem.Expr}{fd:PySem.FuncData}{base h h':PySem.Heap}{pins:List (PySem.Addr×PySem.Obj)}{es:List (Int×PySem.Value)}{ks t:bV}{cells:List (PySem.Str×PySem.Addr)}{fp φ:List PySem.Addr}{gens gs:List PySem.Comprehension}{elts ifs:List PySem.Expr}{l ns:bX}{cap:b9}{body:List PySem.Stmt}{N ps:List PySem.Str}{its us vs:List PySem.Value}{M:PySem.Model}{i j kk n t':Nat}{μ:Nat->Nat->Int}{cpos p pos tpos:PySem.Pos}{P:PySem.Program}{sc scope:PySem.Scope}{s s':PySem.Shared}{qual x:PySem.Str}{mg:PySem.Str->Option PySem.Value}{α:Type}{u:PySem.Value}{E Q:PySem.Value->PySem.Shared->Prop}{w:PySem.World}
namespace L2
open PySem PySem.Spec PyProof.Rows
noncomputable abbrev Key:=Sum Int Str
noncomputable def Ji:Key->Value->Bool
 |.inl k,v=>Value.isInt k v|.inr x,v=>Value.isStrOf x v
noncomputable def cH (w:World):Key->Int
 |.inl k=>hashInt k|.inr x=>hashStr w x
theorem gZ:∀{k:Key}{v:Value},Ji k v=true->(∃i t,k=Sum.inl i/\v=Value.int i t)∨(∃x t,k=Sum.inr x/\v=Value.str x t)
 |.inl i,v,h=>by
  obtain⟨t,e⟩:=Value.isInt_shape (k:=i) (v:=v) h;exact .inl ⟨i,t,rfl,e⟩
 |.inr x,v,h=>by
  obtain⟨t,e⟩:=Value.isStrOf_shape (x:=x) (v:=v) h;exact .inr ⟨x,t,rfl,e⟩
def F3 (i:Int)(t:Tok):Ji (.inl i) (.int i t)=true:=by simp[Ji,Value.isInt]
def Et (x:Str)(t:Tok):Ji (.inr x) (.str x t)=true:=by simp[Ji,Value.isStrOf]
def cI (a b:Int):decide ((Sum.inl a:Key)=Sum.inl b)=(a==b):=by
 by_cases e:a=b
 ·subst e;simp
 ·have h:¬(Sum.inl a:Key)=Sum.inl b:=λq=>e (Sum.inl.inj q)
  rw[aC h];exact(beq_eq_false_iff_ne.mpr e).symm
def cJ (a b:Str):decide ((Sum.inr a:Key)=Sum.inr b)=decide (a=b):=by
 by_cases e:a=b
 ·subst e;simp
 ·have h:¬(Sum.inr a:Key)=Sum.inr b:=λq=>e (Sum.inr.inj q)
  rw[aC h,aC e]
def cK (a:Int)(b:Str):decide ((Sum.inl a:Key)=Sum.inr b)=false:=aC (λq=>nomatch q)
def cL (a:Str)(b:Int):decide ((Sum.inr a:Key)=Sum.inl b)=false:=aC (λq=>nomatch q)
def yB (prog:Program)(w:World):PySem.KeyKind prog w Key where
 is:=Ji
 hash:=cH w
 inj:=λv a b f c=>by
  rcases gZ f with ⟨i,t,rfl,rfl⟩|⟨x,t,rfl,rfl⟩
  ·rcases gZ c with ⟨j,u,rfl,e⟩|⟨y,u,rfl,e⟩
   ·injection e with E _;rw[E]
   ·exact nomatch e
  ·rcases gZ c with ⟨j,u,rfl,e⟩|⟨y,u,rfl,e⟩
   ·exact nomatch e
   ·injection e with E _;rw[E]
 byValue:=λk v h=>by
  rcases gZ h with ⟨i,t,rfl,rfl⟩|⟨x,t,rfl,rfl⟩<;>rfl
 pyHash:=λH h=>by
  rcases gZ H with ⟨i,t,rfl,rfl⟩|⟨x,t,rfl,rfl⟩
  ·exact wpAny_pyHash_int h
  ·exact wpAny_pyHash_str h
 eqBool:=λd H h=>by
  rcases gZ d with ⟨i,t,rfl,rfl⟩|⟨x,t,rfl,rfl⟩
  ·rcases gZ H with ⟨j,u,rfl,rfl⟩|⟨y,u,rfl,rfl⟩
   ·rw[cI]at h;exact wpAny_eqBool_int h
   ·rw[cK]at h;exact SeqAt.EqAt.int_str i t y u _ _ _ _ h
  ·rcases gZ H with ⟨j,u,rfl,rfl⟩|⟨y,u,rfl,rfl⟩
   ·rw[cL]at h;exact SeqAt.EqAt.str_int x t j u _ _ _ _ h
   ·rw[cJ]at h;exact wpAny_eqBool_str h
 «strs»:=λk x t v h=>by
  rcases gZ h with ⟨i,u,rfl,e⟩|⟨y,u,rfl,e⟩
  ·exact nomatch e
  ·injection e with E _
   subst E;cases v<;>rfl
def Hz (prog:Program)(w:World)(k:Key)(v:Value):(yB prog w).is k v=Ji k v:=rfl
def IY (prog:Program)(w:World)(i:Int)(t:Tok):(yB prog w).is (.inl i) (.int i t)=true:=F3 i t
def Ha (prog:Program)(w:World)(x:Str)(t:Tok):(yB prog w).is (.inr x) (.str x t)=true:=Et x t
inductive V where
 |non|bl (b:Bool)|int (i:Int)|str (x:Str)|byt (b:Array UInt8)|flt (b:UInt64)|ref (a:Addr)|ty (n:String)
 deriving DecidableEq
noncomputable def RelV:V->Value->Prop
 |.non,u=>u=Value.none|.bl b,u=>u=Value.bool b|.int i,u=>∃t,u=Value.int i t|.str x,u=>∃t,u=Value.str x t|.byt b,u=>∃t,u=Value.bytes b t|.flt b,u=>∃t,u=Value.float b t|.ref a,u=>u=Value.ref a|.ty n,u=>u=Value.type n
abbrev Vals:List V->List Value->Prop:=Paired RelV
theorem Vals.length {xs:List V}(r:Vals xs us):xs.length=us.length:=Paired.length r
theorem Vals.get:∀{xs:List V}{us:bY}{i:Nat}{x:V},Vals xs us->xs[i]? =some x->∃u,us[i]? =some u/\RelV x u
 |_,_,_,_,.nil,e=>by simp at e|_,_,0,_,.cons r _,e=>by simp at e;subst e;exact⟨_,rfl,r⟩|_,_,i+1,x,.cons _ t,e=>by
  obtain⟨u,H,h⟩:=Vals.get (i:=i) (x:=x) t (by simpa using e)
  exact⟨u,by simpa using H,h⟩
theorem Vals.set {x:V}(r:RelV x u):∀{xs:List V}{us:bY}(i:Nat),Vals xs us->Vals (xs.set i x) (us.set i u)
 |_,_,_,.nil=>.nil|_,_,0,.cons _ t=>.cons r t|_,_,i+1,.cons q t=>.cons q (Vals.set r i t)
theorem Vals.append:∀{xs ys:List V}{us ws:bY},Vals xs us->Vals ys ws->Vals (xs++ys) (us++ws)
 |_,_,_,_,.nil,s=>s|_,_,_,_,.cons r t,s=>.cons r (Vals.append t s)
theorem Vals.take:∀{xs:List V}{us:bY}(n:Nat),Vals xs us->Vals (xs.take n) (us.take n)
 |_,_,0,_=>.nil|_,_,_+1,.nil=>.nil|_,_,n+1,.cons r t=>.cons r (Vals.take n t)
theorem Vals.drop:∀{xs:List V}{us:bY}(n:Nat),Vals xs us->Vals (xs.drop n) (us.drop n)
 |_,_,0,r=>r|_,_,_+1,.nil=>.nil|_,_,n+1,.cons _ t=>Vals.drop n t
def Vals.none_of:∀{xs:List V}{us:bY}{i:Nat},Vals xs us->xs[i]? =none->us[i]? =none:=λ {xs us i} r e=>by
 have H:=r.length;have h:xs.length<=i:=List.getElem?_eq_none_iff.mp e;exact List.getElem?_eq_none_iff.mpr (by omega)
def gN:Option V->Option Value->Prop
 |some v,some u=>RelV v u|none,none=>True|_,_=>False
def KV {κ:Type}:List (κ×V)->List (κ×Value)->Prop:=Paired λ(p:κ×V) (q:κ×Value)=>p.1=q.1/\RelV p.2 q.2
noncomputable def kV:Key->V
 |.inl i=>.int i|.inr x=>.str x
inductive HO where
 |lst (xs:List V)
 |tup (xs:List V)
 |dK (kvs:List (Key×V))|dT (kvs:List (List Key×V))
 |set (S:Int->Bool) (n:Nat)
 |ins (C dx:Addr) (fs:List (Str×V))
 |own (x:Addr)
 |xd (fs:List (Str×V))
 |met (f x:Addr)
 |rng (lo hi:Int)
 |frz (o:Obj) (u:HO)
 |tbl (ps:Array Value)
 |ext (φ:Heap->Prop)
noncomputable abbrev Hp:=Addr->Option HO
noncomputable def upd (H:Hp)(a:Addr)(o:HO):Hp:=λb=>if b=a then some o else H b
def jD {H:Hp}{o:HO}:upd H a o a=some o:=by unfold upd;rw[ag rfl]
def qh {H:Hp}{o:HO}(h:b≠a):upd H a o b=H b:=by unfold upd;rw[aj h]
def Jh {H:Hp}{o u:HO}(h:H a=some o)(h':H b=some u)(d:o≠u):a≠b:=by
 intro e;subst e;rw[h]at h';exact d (aA h')
def kD {H:Hp}{o:HO}(h:H a=some o)(h':H b=none):a≠b:=by
 intro e;subst e;rw[h]at h';cases h'
def Q6 (h:Heap)(a:Addr)(items:Array Value):Prop:=∃o,h.get? a=some o/\(o.cls=.type "tuple" /\ o.dict=none)/\∃n,o.data=.seq items n
def Q6.tup {h:Heap}{a:Addr}{items:Array Value}(x:Q6 h a items):IsTup h a items:=let ⟨o,e,c,d⟩:=x;⟨o,e,c.1,d⟩
def Q6.new (h:Heap)(items:Array Value):Q6 (h.push { cls:=.type "tuple",data:=.seq items }) h.objs.size items:=⟨_,av h rfl,⟨rfl,rfl⟩,0,rfl⟩
section
variable (P:Program)(w:World)
def jd (H:Hp)(h:Heap)(a:Addr):HO->Prop
 |.lst xs=>xs.length<=sizeLine/\∃(its:bY) (n:Nat),Vals xs its/\h.get? a=some { cls:=.type "list",data:=.seq its.toArray n }
 |.tup xs=>xs.length<=sizeLine/\∃its:bY,Vals xs its/\Q6 h a its.toArray|.dK kvs=>kvs.length<=sizeLine/\(a==sysModules)=false/\∃vs,KV kvs vs/\h.DictOf (yB P w) a vs|.dT kvs=>kvs.length<=sizeLine/\(a==sysModules)=false/\∃xs:List (List Key×Addr×Value),
   Paired (λ(p:List Key×V) (q:List Key×Addr×Value)=>p.1=q.1/\H q.2.1=some (.tup (p.1.map kV))/\RelV p.2 q.2.2) kvs xs/\
   ∃o e E,h.get? a=some o/\o.ExactDict/\o.data=.dict e E/\e.toList=xs.map (entryOfKey (tupleKind (yB P w)))/\(xs.map (·.1)).Nodup
 |.set S n=>h.SetOf (intKind P w) a S n|.ins C d fs=>H d=some (.own a)/\fs.length<=1000/\d≠a/\h.get? a=some (instObj C d)/\
   ∃M,h.Ns1 d M/\(∀f,gN (fs.lookup f) (M f))/\PySem.Within M (fs.map (·.1))
 |.own _=>∃o,h.get? a=some o|.xd fs=>∃M,h.Ns1 a M/\∀f,gN (fs.lookup f) (M f)|.rng lo i=>∃t u v,h.get? a=some { cls:=.type "range",data:=.fields #[.int lo t,.int i u,.int 1 v] }
 |.frz o u=>h.get? a=some o/\jd H h a u|.tbl ps=>h.get? a=some { cls:=.none,data:=.fields ps }|.met f x=>h.get? a=some (methodObj (.ref f) (.ref x))|.ext φ=>φ h/\(∃o,h.get? a=some o)/\∀c b:Heap,φ c->(∀o,c.get? a=some o->b.get? a=some o)->φ b
def jL (H:Hp)(h:Heap):Prop:=∀a o,H a=some o->jd P w H h a o
end
section
variable {H H':Hp}{o:HO}
theorem jd.lt (x:jd P w H h a o):a<h.objs.size:=by
 cases o with
 |lst xs=>obtain⟨_,_,_,_,e⟩:=x;exact aG e|tup xs=>obtain⟨_,_,_,p⟩:=x;exact p.tup.lt|dK kvs=>obtain⟨_,_,_,_,o,_,_,e,_⟩:=x;exact aG e|dT kvs=>obtain⟨_,_,_,_,o,_,_,e,_⟩:=x;exact aG e|set S n=>obtain⟨o,_,_,_,e,_⟩:=x;exact aG e|ins C d fs=>obtain⟨_,_,_,e,_⟩:=x;exact aG e|own y=>obtain⟨_,e⟩:=x;exact aG e|xd fs=>obtain⟨_,⟨_,_,_,e,_⟩,_⟩:=x;exact aG e|rng lo i=>obtain⟨_,_,_,e⟩:=x;exact aG e|frz ob u=>obtain⟨e,_⟩:=x;exact aG e|tbl ps=>exact aG (show h.get? a=some _ from x)|met f y=>exact aG (show h.get? a=some _ from x)|ext φ=>obtain⟨_,⟨_,e⟩,_⟩:=x;exact aG e
theorem Paired.mapP {β:Type}{F G:α->β->Prop}:∀{L:List α}{l:List β},Paired F L l->(∀a b,F a b->G a b)->Paired G L l
 |_,_,.nil,_=>.nil|_,_,.cons r t,f=>.cons (f _ _ r) (Paired.mapP t f)
def jd.stay (x:jd P w H h a o)(k:∀b u,(b=a∨H b=some (.own a))->h.get? b=some u->h'.get? b=some u)
  (s:∀b,H b=some (.own a)->H' b=some (.own a))(l:∀b xs,H b=some (.tup xs)->H' b=some (.tup xs)):jd P w H' h' a o:=by
 induction o with
 |lst xs=>obtain⟨z,i,n,r,e⟩:=x;exact⟨z,i,n,r,k _ _ (.inl rfl) e⟩|tup xs=>obtain⟨z,i,r,ob,e,c⟩:=x;exact⟨z,i,r,ob,k _ _ (.inl rfl) e,c⟩|dK kvs=>obtain⟨z,y,vs,r,ob,E,g,e,c⟩:=x;exact⟨z,y,vs,r,ob,E,g,k _ _ (.inl rfl) e,c⟩|dT kvs=>
  obtain⟨z,y,xs,r,ob,E,g,e,c⟩:=x;exact⟨z,y,xs,Paired.mapP r λp q z=>⟨z.1,l _ _ z.2.1,z.2.2⟩,ob,E,g,k _ _ (.inl rfl) e,c⟩
 |set S n=>obtain⟨ob,E,g,t,e,c⟩:=x;exact⟨ob,E,g,t,k _ _ (.inl rfl) e,c⟩|ins C D fs=>
  obtain⟨d,z,ne,e,M,⟨j,E,g,A,c⟩,r⟩:=x;exact⟨s _ d,z,ne,k _ _ (.inl rfl) e,M,⟨j,E,g,k _ _ (.inr d) A,c⟩,r⟩
 |own y=>obtain⟨ob,e⟩:=x;exact⟨ob,k _ _ (.inl rfl) e⟩|xd fs=>obtain⟨M,⟨j,E,g,e,c⟩,r⟩:=x;exact⟨M,⟨j,E,g,k _ _ (.inl rfl) e,c⟩,r⟩|rng lo B=>obtain⟨t,u,v,e⟩:=x;exact⟨t,u,v,k _ _ (.inl rfl) e⟩|frz ob u I=>obtain⟨e,q⟩:=x;exact⟨k _ _ (.inl rfl) e,I q⟩|tbl ps=>
  have e:h.get? a=some { cls:=.none,data:=.fields ps }:=x;show h'.get? a=some { cls:=.none,data:=.fields ps };exact k a _ (.inl rfl) e
 |met f y=>
  have e:h.get? a=some (methodObj (.ref f) (.ref y)):=x;show h'.get? a=some (methodObj (.ref f) (.ref y));exact k a _ (.inl rfl) e
 |ext φ=>obtain⟨p,⟨o,e⟩,st⟩:=x;exact⟨st _ _ p λo q=>k _ _ (.inl rfl) q,⟨o,k _ _ (.inl rfl) e⟩,st⟩
theorem jL.lt (x:jL P w H h)(e:H a=some o):a<h.objs.size:=(x a o e).lt
def jL.fresh (x:jL P w H h)(e:h.objs.size<=a):H a=none:=by
 cases q:H a with
 |none=>rfl|some u=>exact absurd (aD (x.lt q) e) (aW _)
def jL.kept (x:jL P w H h)(k:∀b u,h.get? b=some u->h'.get? b=some u):jL P w H h':=λa o e=>
 (x a o e).stay (λb u _ q=>k b u q) (λ_ q=>q) λ_ _ q=>q
def jL.laid (x:jL P w H h)(k:∀b u,h.get? b=some u->h'.get? b=some u)(p:h.objs.size<=a)(new:jd P w (upd H a o) h' a o):jL P w (upd H a o) h':=λb u e=>by
 have hn:=x.fresh p
 by_cases d:b=a
 ·subst d;rw[jD]at e;cases e;exact new
 ·rw[qh d]at e
  exact(x b u e).stay (λc v _ q=>k c v q) (λc q=>by rw[qh (kD q hn)];exact q) λc xs q=>by rw[qh (kD q hn)];exact q
end
def Rd (H:Hp)(a:Addr)(u:HO):Prop:=H a=some u∨∃o,H a=some (.frz o u)
def Rd.ok {H:Hp}{u:HO}(r:Rd H a u)(x:jL P w H h):jd P w H h a u:=by
 rcases r with r|⟨o,r⟩
 ·exact x a u r
 ·obtain⟨_,q⟩:=x a _ r
  exact q
noncomputable def KP:Option HO->Prop
 |some (.lst _)=>True|some (.dK _)=>True|some (.dT _)=>True|some (.set _ _)=>True|some (.ins _ _ _)=>True|some (.ext _)=>True|_=>False
section
variable {H:Hp}{x e:Addr}{o':HO}
def jL.write (ok:jL P w H h)(M:KP (H x))(he:e=x∨H e=some (.own x))(k:∀b u,b≠e->h.get? b=some u->h'.get? b=some u)(o:∃u,h'.get? e=some u)
  (new:jd P w (upd H x o') h' x o'):jL P w (upd H x o') h':=λb u q=>by
 have n:∀c y,H c=some (.own y)->c≠x:=λc y r z=>by subst z;rw[r]at M;exact M
 have N:∀c xs,H c=some (.tup xs)->c≠x:=λc xs r z=>by subst z;rw[r]at M;exact M
 by_cases f:b=x
 ·subst f;rw[jD]at q;cases q;exact new
 ·rw[qh f]at q
  by_cases a:b=e
  ·have Q:H b=some (.own x):=by
    rcases he with z|z
    ·exact absurd (a.trans z) f
    ·rw[a];exact z
   rw[q]at Q;cases Q;obtain⟨v,g⟩:=o;exact⟨v,by rw[a];exact g⟩
  ·refine(ok b u q).stay (λc v d r=>k c v ?_ r) (λc r=>by rw[qh (n c b r)];exact r) λc xs r=>by rw[qh (N c xs r)];exact r
   rcases d with rfl|d
   ·exact a
   ·rintro rfl
    rcases he with z|z
    ·exact n c b d z
    ·rw[d]at z;cases z;exact f rfl
end
structure Un (fs ex:bZ)(H H':Hp)(h h':Heap):Prop where
 keep:∀b o,h.get? b=some o->H b=none->b∉fs->b∉ex->h'.get? b=some o
 slot:∀b o,h.get? b=some o->H b=none->b∈fs->b∉ex->∃sl,h'.get? b=some { o with slots:=sl }
 free:∀b o,h.get? b=some o->H b=none->b∉ex->H' b=none
 there:∀b o,h.get? b=some o->b∉ex->∃o',h'.get? b=some o'
 tups:∀b xs,H b=some (.tup xs)->H' b=some (.tup xs)
 frzs:∀b o u,H b=some (.frz o u)->H' b=some (.frz o u)
 tbls:∀b ps,H b=some (.tbl ps)->∃more,H' b=some (.tbl (ps++more))
section
variable {fs ex:bZ}{H H1:Hp}{h1:Heap}{x e:Addr}{o:HO}
def Un.any (u:Un fs ex H H1 h h1){ob:Obj}(q:h.get? b=some ob)(n:H b=none)(x:b∉ex):∃s,h1.get? b=some { ob with slots:=s }:=by
 by_cases a:b∈fs
 ·exact u.slot b ob q n a x
 ·exact⟨ob.slots,u.keep b ob q n a x⟩
def Un.kept (k:∀b u,h.get? b=some u->h'.get? b=some u):Un fs ex H H h h':=
 ⟨λb ob q _ _ _=>k b ob q,λb ob q _ _ _=>⟨ob.slots,k b ob q⟩,λ_ _ _ n _=>n,λb ob q _=>⟨ob,k b ob q⟩,λ_ _ q=>q,λ_ _ _ q=>q,λ_ ps q=>⟨#[],by rw[q];simp⟩⟩
def Un.refl:Un fs ex H H h h:=Un.kept λ_ _ q=>q
def Un.laid (k:∀b u,h.get? b=some u->h'.get? b=some u)(p:h.objs.size<=a)(hn:H a=none):Un fs ex H (upd H a o) h h' where
 keep:=λb u q _ _ _=>k b u q
 slot:=λb u q _ _ _=>⟨u.slots,k b u q⟩
 free:=λb u q n _=>by rw[qh (aM (aD (aG q) p))];exact n
 there:=λb u q _=>⟨u,k b u q⟩
 tups:=λb xs q=>by rw[qh (kD q hn)];exact q
 frzs:=λb u xs q=>by rw[qh (kD q hn)];exact q
 tbls:=λb ps q=>⟨#[],by rw[qh (kD q hn),q];simp⟩
def Un.write (M:KP (H x))(he:e=x∨H e=some (.own x))(k:∀b u,b≠e->h.get? b=some u->h'.get? b=some u)(c:∃u,h'.get? e=some u):Un fs ex H (upd H x o) h h':=by
 have d:∀b,H b=none->b≠x:=λb n z=>by subst z;rw[n]at M;exact M
 have f:∀b,H b=none->b≠e:=λb n z=>by
  subst z;rcases he with r|r
  ·exact d b n r
  ·rw[n]at r;cases r
 have hm:∀b u,H b=some u->¬KP (some u)->b≠x:=λb u q nm z=>by subst z;rw[q]at M;exact nm M
 refine⟨λb u q n _ _=>k b u (f b n) q,λb u q n _ _=>⟨u.slots,k b u (f b n) q⟩,λb u q n _=>by rw[qh (d b n)];exact n,λb u q _=>?_,
  λb xs q=>by rw[qh (hm b _ q λz=>z)];exact q,λb u xs q=>by rw[qh (hm b _ q λz=>z)];exact q,λb ps q=>⟨#[],by rw[qh (hm b _ q λz=>z),q];simp⟩⟩
 by_cases a:b=e
 ·subst a;exact c
 ·exact⟨u,k b u a q⟩
end
noncomputable def GW (h:Heap)(H:Hp):bZ:=(List.range h.objs.size).filter λa=>(H a).isSome
def Zt (h:Heap)(H:Hp):Heap:=hideAll h (GW h H)
def EC (h:Heap)(H:Hp):(Zt h H).objs.size=h.objs.size:=hideAll_size _ _
def Ct {H:Hp}{o:Obj}(e:h.get? b=some o)(n:H b=none):(Zt h H).get? b=some o:=
 bL _ e λhm=>by
  have q:(H b).isSome=true:=(List.mem_filter.mp hm).2;rw[n]at q;simp at q
def Aj {H:Hp}{o:Obj}(e:(Zt h H).get? b=some o):h.get? b=some o/\H b=none:=by
 have E:h.get? b=some o:=of_hideAll (GW h H) e;refine⟨E,?_⟩;cases q:H b with
 |none=>rfl|some x=>
  have hm:b∈GW h H:=List.mem_filter.mpr ⟨cC.mpr (aG E),by simp[q]⟩
  have z:(Zt h H).get? b=none:=hideAll_none (GW h H) hm;rw[z]at e;cases e
structure Mod (K:Frag)(mg:cm)(base:Heap):Prop where
 kin:K.In base
 glob:base.Ns mainGlobals mg
 blt:∃mb,base.Ns builtinsNs mb/\∀x:Str,x ≠ "__name__" -> mb x=bootBuiltins x
 nolimit:base.NoLimit
structure Cx where
 prog:Program
 w:World
 K:Frag
 mg:Str->Option Value
 base:Heap
 A:Around
 N:cc
 s0:Shared
 H0:Hp
 env:Env
 outer:cn
 stack:cn
 ex:bZ
 fn:Str->Bool
 calm:Bool
 pn:b8
 xe:Value->Shared->Prop
noncomputable def qK (l:cn):bZ:=l.filterMap (·.frame)
abbrev Cx.fs (X:Cx):bZ:=qK X.outer
def Xa (sc:Scope)(x:Str):Prop:=sc.names.lookup x=some .local∨sc.names.lookup x=some .cell∨sc.names.lookup x=some .free
def Loc (sc:Scope)(x:Str):Prop:=sc.names.lookup x=some .local∨sc.names.lookup x=some .cell
def Look (env:Env)(h:Heap)(m:cm)(x:Str)(u:Value):Prop:=
 (env.kindOf x=some .local/\m x=some u)∨((env.kindOf x=some .cell∨env.kindOf x=some .free)/\∃c,env.cells.lookup x=some c/\h.IsCell c (some u))
structure Cx.Ok (X:Cx):Prop where
 mod:Mod X.K X.mg X.base
 kind:X.env.scope.kind=.function
 glob:X.env.globals=mainGlobals
 blt:X.env.builtins=builtinsNs
 above:X.s0.heap.objs.size<=X.env.locals
 inj:∀x y c,X.env.cells.lookup x=some c->X.env.cells.lookup y=some c->x=y
 has:∀x,(X.env.kindOf x=some .cell∨X.env.kindOf x=some .free)->∃c,X.env.cells.lookup x=some c
 cab:∀x c,X.fn x=true->X.env.cells.lookup x=some c->X.s0.heap.objs.size<=c
 hd:X.calm=true->X.A.handled=none
 frames:X.A.frames=some X.stack
 stk:X.stack=X.outer∨(X.stack=X.env::X.outer/\X.env.frame=some X.env.locals)
 exf:∀b∈X.ex,b≠X.env.locals/\∀x c,X.env.cells.lookup x=some c->c≠b
 bs:∀b o,X.base.get? b=some o->X.s0.heap.get? b=some o/\X.H0 b=none
 bsz:X.base.objs.size<=X.s0.heap.objs.size
 noex:∀b o,X.base.get? b=some o->b∉X.ex
 exfs:∀b∈X.ex,b∉X.fs
 funs:X.s0.heap.FunFrames X.base X.outer
 frf:∀b∈X.fs,X.H0 b=none
structure Inv (X:Cx)(pins:b8)(σ:List (Option V))(H:Hp)(s:Shared):Prop where
 ok:X.Ok
 os:s.os=X.s0.os
 bare:AllBare s.gens
 base:Un X.fs X.ex X.H0 H X.s0.heap s.heap
 loc:∃m,s.heap.Ns X.env.locals m/\∀(i:Nat)(x:Str)(v:V),X.N[i]? =some x->σ[i]? =some (some v)->Xa X.env.scope x->∃u,RelV v u/\Look X.env s.heap m x u
 cell:∀x c,X.env.cells.lookup x=some c->∃v,s.heap.IsCell c v
 free:H X.env.locals=none
 freeC:∀x c,X.env.cells.lookup x=some c->H c=none
 pin:∀p∈X.pn++pins,s.heap.get? p.1=some p.2/\H p.1=none/\p.1≠X.env.locals/\p.1∉X.fs/\∀v,p.2.data≠.cell v
 hok:jL X.prog X.w H s.heap
 len:σ.length=X.N.length
section
variable {X:Cx}{σ:List (Option V)}{H H':Hp}
def Cx.Ok.nofr (ok:X.Ok){o:Obj}(e:X.base.get? b=some o):b∉X.fs:=λh=>by
 have:=(ok.funs.mem h).1
 rw[e]at this;cases this
theorem Inv.bs (I:Inv X pins σ H s):∀b o,X.base.get? b=some o->s.heap.get? b=some o/\H b=none:=λb o e=>
 ⟨I.base.keep b o (I.ok.bs b o e).1 (I.ok.bs b o e).2 (I.ok.nofr e) (I.ok.noex b o e),I.base.free b o (I.ok.bs b o e).1 (I.ok.bs b o e).2 (I.ok.noex b o e)⟩
def Inv.bk (I:Inv X pins σ H s):∀b o,X.base.get? b=some o->s.heap.get? b=some o:=λb o e=>(I.bs b o e).1
theorem Inv.mod (I:Inv X pins σ H s):Mod X.K X.mg X.base:=I.ok.mod
def Inv.kIn (I:Inv X pins σ H s):X.K.In s.heap:=I.ok.mod.kin.keeps I.bk
theorem Inv.lt (I:Inv X pins σ H s):X.env.locals<s.heap.objs.size:=let ⟨_,hn,_⟩:=I.loc;hn.lt
def Inv.sz (I:Inv X pins σ H s):X.s0.heap.objs.size<=s.heap.objs.size:=bt I.ok.above (bA I.lt)
def Inv.nofs (I:Inv X pins σ H s)(h:s.heap.objs.size<=a):a∉X.fs:=λc=>by
 obtain⟨_,o,b,_⟩:=I.ok.funs.mem c;exact absurd (aD (aG b) (bt I.sz h)) (aW _)
def Inv.cne (I:Inv X pins σ H s):∀x c,X.env.cells.lookup x=some c->c≠X.env.locals:=λx c e z=>by
 obtain⟨v,o,b,hd⟩:=I.cell x c e;obtain⟨m,⟨o',E,p,h,a,_⟩,_⟩:=I.loc;rw[z,h]at b;cases b;rw[a]at hd;cases hd
theorem Inv.funs (I:Inv X pins σ H s):s.heap.FunFrames X.base X.outer:=by
 have all:∀(l:cn),(∀b∈qK l,b∈X.fs)->X.s0.heap.FunFrames X.base l->s.heap.FunFrames X.base l:=by
  intro l
  induction l with
  |nil=>intro _ _;trivial|cons env r i=>
   intro c g;obtain⟨j,⟨L,o,hf,hn,f,hd⟩,d⟩:=g;have a:L∈X.fs:=c L (by unfold qK;rw[bw,hf];exact ax)
   obtain⟨S,e⟩:=I.base.slot L o f (I.ok.frf L a) a λz=>I.ok.exfs L z a;exact⟨j,⟨L,_,hf,hn,e,hd⟩,i (λb h=>c b (by unfold qK;rw[bw,hf];exact au _ h)) d⟩
 exact all X.outer (λ_ h=>h) I.ok.funs
theorem Inv.stack (I:Inv X pins σ H s):s.heap.FunFrames X.base X.stack:=by
 rcases I.ok.stk with e|⟨e,hf⟩
 ·rw[e];exact I.funs
 ·rw[e]
  obtain⟨m,hn,_⟩:=I.loc;refine .cons (by rw[I.ok.kind];decide) hf hn ?_ I.funs
  exact Heap.get?_none_of_le (bt I.ok.bsz I.ok.above)
def Inv.stkSub (I:Inv X pins σ H s):∀b∈qK X.stack,b∈X.env.locals::X.fs:=λb h=>by
 rcases I.ok.stk with e|⟨e,hf⟩
 ·rw[e]at h;exact au _ h
 ·rw[e]at h
  unfold qK at h;rw[bw,hf]at h;exact h
def Inv.stkFree (I:Inv X pins σ H s):∀b∈qK X.stack,H b=none:=λb h=>by
 rcases cA.mp (I.stkSub b h) with e|h
 ·rw[e];exact I.free
 ·obtain⟨_,o,a,_⟩:=I.ok.funs.mem h
  exact I.base.free b o a (I.ok.frf b h) λz=>I.ok.exfs b z h
def Inv.step {g':Array GenState}{d':Drawn}{ch:bZ}(I:Inv X pins σ H s)
  (a:∀b∈ch,(b∈X.ex∨X.s0.heap.objs.size<=b)/\b≠X.env.locals/\(∀x c,X.env.cells.lookup x=some c->c≠b)/\∀p∈X.pn++pins,p.1≠b)
  (keep:∀b o,b≠X.env.locals->b∉X.fs->b∉ch->s.heap.get? b=some o->H b=none->h'.get? b=some o)
  (slot:∀b o,b≠X.env.locals->b∈X.fs->b∉ch->s.heap.get? b=some o->H b=none->∃t,h'.get? b=some { o with slots:=t })(free:∀b o,b∉ch->s.heap.get? b=some o->H b=none->H' b=none)
  (there:∀b o,b∉ch->s.heap.get? b=some o->∃o',h'.get? b=some o')
  (tups:∀b xs,H b=some (.tup xs)->H' b=some (.tup xs))(frzs:∀b o u,H b=some (.frz o u)->H' b=some (.frz o u))(tbls:∀b ps,H b=some (.tbl ps)->∃more,H' b=some (.tbl (ps++more)))
  (ns:∀m,s.heap.Ns X.env.locals m->h'.Ns X.env.locals m)(hok:jL X.prog X.w H' h')(J:AllBare g'):
  Inv X pins σ H' { s with heap:=h',gens:=g',drawn:=d',toks:=t' }:=by
 have Yr:∀b o,X.s0.heap.get? b=some o->b≠X.env.locals:=λb o e=>aM (aD (aG e) I.ok.above);have C:∀b o,X.s0.heap.get? b=some o->b∉X.ex->b∉ch:=λb o e h f=>by
  rcases(a b f).1 with z|z
  ·exact h z
  ·exact absurd (aD (aG e) z) (aW _)
 have cellK:∀x c,X.env.cells.lookup x=some c->∀v,s.heap.IsCell c v->h'.IsCell c v:=λx c e v ⟨o,g,hd⟩=>by
  have N:c∉ch:=λz=>(a c z).2.2.1 x c e rfl
  by_cases B:c∈X.fs
  ·obtain⟨t,q⟩:=slot c o (I.cne x c e) B N g (I.freeC x c e)
   exact⟨_,q,hd⟩
  ·exact⟨o,keep c o (I.cne x c e) B N g (I.freeC x c e),hd⟩
 refine⟨I.ok,I.os,J,⟨λb o e n f h=>?_,λb o e n f h=>?_,λb o e n h=>?_,λb o e h=>?_,λb xs e=>tups b xs (I.base.tups b xs e),λb o xs e=>frzs b o xs (I.base.frzs b o xs e),λb ps e=>?_⟩,?_,λx c e=>?_,?_,λx c e=>?_,λp A=>?_,hok,I.len⟩
 ·exact keep b o (Yr b o e) f (C b o e h) (I.base.keep b o e n f h) (I.base.free b o e n h)
 ·obtain⟨t,E⟩:=I.base.slot b o e n f h
  obtain⟨S,j⟩:=slot b _ (Yr b o e) f (C b o e h) E (I.base.free b o e n h);exact⟨S,j⟩
 ·obtain⟨o',E⟩:=I.base.there b o e h
  exact free b o' (C b o e h) E (I.base.free b o e n h)
 ·obtain⟨o',E⟩:=I.base.there b o e h
  exact there b o' (C b o e h) E
 ·obtain⟨m1,E⟩:=I.base.tbls b ps e
  obtain⟨m2,j⟩:=tbls b _ E;exact⟨m1++m2,by rw[j,Array.append_assoc]⟩
 ·obtain⟨m,hn,D⟩:=I.loc
  refine⟨m,ns m hn,λi x v E j K=>?_⟩;obtain⟨u,r,l⟩:=D i x v E j K;refine⟨u,r,?_⟩;rcases l with l|⟨k,c,e,z⟩
  ·exact .inl l
  ·exact .inr ⟨k,c,e,cellK x c e _ z⟩
 ·obtain⟨v,z⟩:=I.cell x c e
  exact⟨v,cellK x c e v z⟩
 ·obtain⟨m,⟨o,_,_,g,_⟩,_⟩:=I.loc
  exact free _ o (λz=>(a _ z).2.1 rfl) g I.free
 ·obtain⟨v,o,g,hd⟩:=I.cell x c e
  exact free c o (λz=>(a c z).2.2.1 x c e rfl) g (I.freeC x c e)
 ·obtain⟨e,n,ne,y,d⟩:=I.pin p A
  have N:p.1∉ch:=λz=>(a p.1 z).2.2.2 p A rfl;exact⟨keep p.1 p.2 ne y N e n,free p.1 p.2 N e n,ne,y,d⟩
def Inv.un (I:Inv X pins σ H s)(u:Un X.fs [] H H' s.heap h')(hok:jL X.prog X.w H' h'):Inv X pins σ H' { s with heap:=h',toks:=t' }:=by
 obtain⟨m,⟨o,f,p,c,r⟩,_⟩:=id I.loc;obtain⟨S,L⟩:=u.any c I.free (by simp)
 exact I.step (g':=s.gens) (d':=s.drawn) (ch:=[]) (λ_ z=>nomatch z) (λb o _ a _ e n=>u.keep b o e n a (by simp)) (λb o _ a _ e n=>u.slot b o e n a (by simp)) (λb o _ e n=>u.free b o e n (by simp)) (λb o _ e=>u.there b o e (by simp)) u.tups u.frzs u.tbls (λM hm=>by
  obtain⟨o',es',E,h,d⟩:=hm;rw[c]at h;cases h;exact⟨_,es',E,L,d⟩) hok I.bare
def Inv.call {g':Array GenState}{d':Drawn}{ch:bZ}(I:Inv X pins σ H s)(u:Un (qK X.stack) ch H H' s.heap h')(hok:jL X.prog X.w H' h')(i:AllBare g')
  (d:∀b∈ch,(b∈X.ex∨X.s0.heap.objs.size<=b)/\b≠X.env.locals/\(∀x c,X.env.cells.lookup x=some c->c≠b)/\∀p∈X.pn++pins,p.1≠b):
  Inv X pins σ H' { s with heap:=h',gens:=g',drawn:=d',toks:=t' }:=by
 obtain⟨m,⟨o,l,q,f,r⟩,_⟩:=id I.loc;obtain⟨S,L⟩:=u.any f I.free λz=>(d _ z).2.1 rfl;exact I.step (ch:=ch) d (λb o L j h e n=>u.keep b o e n (λz=>(cA.mp (I.stkSub b z)).elim L j) h) (λb o _ _ h e n=>u.any e n h) (λb o h e n=>u.free b o e n h) (λb o h e=>u.there b o e h) u.tups u.frzs u.tbls (λM hm=>by
  obtain⟨o',es',E,a,g⟩:=hm;rw[f]at a;cases a;exact⟨_,es',E,L,g⟩) hok i
def Inv.turned (I:Inv X pins σ H s)(k:∀b o,b≠it->s.heap.get? b=some o->h'.get? b=some o)(hn:H it=none)(L:it≠X.env.locals)
  (i:it∈X.ex∨X.s0.heap.objs.size<=it)(g:∀x c,X.env.cells.lookup x=some c->c≠it)(f:∀p∈X.pn++pins,p.1≠it):Inv X pins σ H { s with heap:=h',toks:=t' }:=by
 have N:∀b u,H b=some u->b≠it:=λb u e z=>by rw[z,hn]at e;cases e
 refine I.step (g':=s.gens) (d':=s.drawn) (ch:=[it]) (λb d=>?_) (λb o _ _ h e _=>k b o (λz=>h (by simp[z])) e) (λb o _ _ h e _=>⟨o.slots,k b o (λz=>h (by simp[z])) e⟩) (λ_ _ _ _ n=>n)
  (λb o h e=>⟨o,k b o (λz=>h (by simp[z])) e⟩) (λ_ _ e=>e) (λ_ _ _ e=>e) (λb ps e=>⟨#[],by rw[e];simp⟩) (λm hm=>?_) (λb u e=>?_) I.bare
 ·have e:b=it:=by simpa using d
  subst e;exact⟨i,L,g,f⟩
 ·obtain⟨o,E,j,a,r⟩:=hm
  exact⟨o,E,j,k _ o (Ne.symm L) a,r⟩
 ·refine(I.hok b u e).stay (λc v h q=>k c v ?_ q) (λ_ q=>q) λ_ _ q=>q
  rcases h with z|z
  ·rw[z];exact N b u e
  ·exact N c _ z
def Inv.tok (I:Inv X pins σ H s)(t:Nat):Inv X pins σ H { s with toks:=t }:=I.un (h':=s.heap) (t':=t) Un.refl I.hok
theorem Inv.kept (I:Inv X pins σ H s)(k:∀b u,s.heap.get? b=some u->h'.get? b=some u):Inv X pins σ H { s with heap:=h',toks:=t' }:=I.un (Un.kept k) (I.hok.kept k)
theorem Inv.laid {o:HO}(I:Inv X pins σ H s)(k:∀b u,s.heap.get? b=some u->h'.get? b=some u)(h:s.heap.objs.size<=a)(new:jd X.prog X.w (upd H a o) h' a o):
  Inv X pins σ (upd H a o) { s with heap:=h',toks:=t' }:=I.un (Un.laid k h (I.hok.fresh h)) (I.hok.laid k h new)
theorem Inv.write {x e:Addr}{o:HO}(I:Inv X pins σ H s)(M:KP (H x))(he:e=x∨H e=some (.own x))(k:∀b u,b≠e->s.heap.get? b=some u->h'.get? b=some u)(h:∃u,h'.get? e=some u)
  (new:jd X.prog X.w (upd H x o) h' x o):Inv X pins σ (upd H x o) { s with heap:=h',toks:=t' }:=I.un (Un.write M he k h) (I.hok.write M he k h new)
def Inv.pins_of {P:b8}(I:Inv X pins σ H s)(h:∀p∈P,s.heap.get? p.1=some p.2/\H p.1=none/\p.1≠X.env.locals/\p.1∉X.fs/\∀v,p.2.data≠.cell v):Inv X P σ H s:=
 ⟨I.ok,I.os,I.bare,I.base,I.loc,I.cell,I.free,I.freeC,λp a=>(cG.mp a).elim (λz=>I.pin p (a5 _ z)) (h p),I.hok,I.len⟩
def Vg (h:N.Nodup)(a:N[i]? =some x)(b:N[j]? =some x):i=j:=by
 obtain⟨c,E⟩:=cB.mp a;obtain⟨H,e⟩:=cB.mp b;exact(List.getElem_inj h).mp (E.trans e.symm)
def Pf {A:Around}{v:V}{Q:Unit->Shared->Prop}(I:Inv X pins σ H s)(hN:X.N.Nodup)(U:X.N[i]? =some x)(t:Loc X.env.scope x)(r:RelV v u)
  (h:∀s',Inv X pins (σ.set i (some v)) H s'->(∃a,Heap.SameBut a s.heap s'.heap/\(a=X.env.locals∨X.env.cells.lookup x=some a))->Q () s')(hf:X.fn x=true∨X.env.scope.names.lookup x=some .local:=by first|exact .inl rfl|exact .inr rfl|assumption):wpAny M A (storeName X.env x u) Q E s:=by
 obtain⟨m,hn,hl⟩:=id I.loc;have Y:(X.env.scope.kind==.class || (X.env.scope.kind==.module&&X.env.locals != X.env.globals))=false:=by rw[I.ok.kind];rfl
 have J:i < σ.length:=by rw[I.len];exact(cB.mp U).1
 have cne:=I.cne;have tracked:∀{a:Addr}{h':Heap},(∃o,s.heap.get? a=some o/\H a=none)->Heap.SameBut a s.heap h'->jL X.prog X.w H h':=λ {a h'} ha f b ob e=>by
  obtain⟨_,_,B⟩:=ha;refine(I.hok b ob e).stay (λc w' l q=>(f.2 c ?_).trans q) (λ_ q=>q) λ_ _ q=>q
  rintro rfl
  rcases l with rfl|l
  ·rw[B]at e;cases e
  ·rw[B]at l;cases l
 rcases t with D|D
 ·refine wpAny_storeName_local D hn (λh' hn' f=>?_) Y
  obtain⟨oL,_,_,hoL,_⟩:=id hn;refine h _ ⟨I.ok,I.os,I.bare,⟨λb o e n P t=>?_,λb o e n P t=>?_,I.base.free,λb o e t=>?_,I.base.tups,I.base.frzs,I.base.tbls⟩,⟨_,hn',λj y v' g C e3=>?_⟩,λy c e=>?_,I.free,I.freeC,λp hp=>?_,tracked ⟨oL,hoL,I.free⟩ f,by simpa using I.len⟩ ⟨_,f,.inl rfl⟩
  ·exact(f.2 b (aM (aD (aG e) I.ok.above))).trans (I.base.keep b o e n P t)
  ·obtain⟨sl,g⟩:=I.base.slot b o e n P t
   exact⟨sl,(f.2 b (aM (aD (aG e) I.ok.above))).trans g⟩
  ·obtain⟨o',g⟩:=I.base.there b o e t
   exact⟨o',(f.2 b (aM (aD (aG e) I.ok.above))).trans g⟩
  ·by_cases K:j=i
   ·subst K
    rw[U]at g;cases g;rw[aJ J]at C;cases C;exact⟨u,r,.inl ⟨D,by simp⟩⟩
   ·rw[aH (Ne.symm K)]at C
    obtain⟨u',r',q⟩:=hl j y v' g C e3;refine⟨u',r',?_⟩;rcases q with ⟨k,e⟩|⟨k,c,e,z⟩
    ·refine .inl ⟨k,?_⟩
     have:y≠x:=λe=>K (Vg hN g (e ▸ U))
     simp[this,e]
    ·exact .inr ⟨k,c,e,z.sameBut f (cne y c e)⟩
  ·obtain⟨w',z⟩:=I.cell y c e
   exact⟨w',z.sameBut f (cne y c e)⟩
  ·obtain⟨e,n,ne,nf,d⟩:=I.pin p hp
   exact⟨(f.2 p.1 ne).trans e,n,ne,nf,d⟩
 ·have L:X.fn x=true:=by
   rcases hf with z|z
   ·exact z
   ·rw[z]at D;cases D
  obtain⟨c,l⟩:=I.ok.has x (.inl D);obtain⟨w',z⟩:=I.cell x c l;refine wpAny_storeName_cell I.ok.kind D l z (λh' hc' f=>?_);obtain⟨oc,T,S⟩:=id z;refine h { s with heap:=h' } ⟨I.ok,I.os,I.bare,⟨λb o e n P t=>?_,λb o e n P t=>?_,I.base.free,λb o e t=>?_,I.base.tups,I.base.frzs,I.base.tbls⟩,⟨m,hn.sameBut f (Ne.symm (cne x c l)),λj y v' g C e3=>?_⟩,λy c' e=>?_,I.free,I.freeC,λp hp=>?_,tracked ⟨oc,T,I.freeC x c l⟩ f,by simpa using I.len⟩ ⟨c,f,.inr l⟩
  ·exact(f.2 b (aM (aD (aG e) (I.ok.cab x c L l)))).trans (I.base.keep b o e n P t)
  ·obtain⟨sl,g⟩:=I.base.slot b o e n P t
   exact⟨sl,(f.2 b (aM (aD (aG e) (I.ok.cab x c L l)))).trans g⟩
  ·obtain⟨o',g⟩:=I.base.there b o e t
   exact⟨o',(f.2 b (aM (aD (aG e) (I.ok.cab x c L l)))).trans g⟩
  ·by_cases K:j=i
   ·subst K
    rw[U]at g;cases g;rw[aJ J]at C;cases C;exact⟨u,r,.inr ⟨.inl D,c,l,hc'⟩⟩
   ·rw[aH (Ne.symm K)]at C
    obtain⟨u',r',q⟩:=hl j y v' g C e3;refine⟨u',r',?_⟩;rcases q with q|⟨k,c',e,z'⟩
    ·exact .inl q
    ·refine .inr ⟨k,c',e,z'.sameBut f ?_⟩
     rintro rfl
     exact K (Vg hN g (I.ok.inj _ _ _ e l ▸ U))
  ·by_cases Z:c'=c
   ·subst Z;exact⟨_,hc'⟩
   ·obtain⟨w2,z2⟩:=I.cell y c' e
    exact⟨w2,z2.sameBut f Z⟩
  ·obtain⟨e,n,ne,nf,d⟩:=I.pin p hp
   refine⟨(f.2 p.1 ?_).trans e,n,ne,nf,d⟩;intro q;rw[q,T]at e;have q':oc=p.2:=aA e;exact d w' (by rw[<- q'];exact S)
def WK {A:Around}{v:V}{Q:Unit->Shared->Prop}(I:Inv X pins σ H s)(c:X.N.Nodup)(b:X.N[i]? =some x)(a:Loc X.env.scope x)(r:RelV v u)
  (h:∀s',Inv X pins (σ.set i (some v)) H s'->Q () s')(hf:X.fn x=true∨X.env.scope.names.lookup x=some .local:=by first|exact .inl rfl|exact .inr rfl|assumption):wpAny M A (storeName X.env x u) Q E s:=
 Pf I c b a r (λs' d _=>h s' d) hf
def Inv.call' {ch:bZ}(I:Inv X pins σ H s)(o:s'.os=s.os)(u:Un (qK X.stack) ch H H' s.heap s'.heap)(hok:jL X.prog X.w H' s'.heap)(g:AllBare s'.gens)
  (h:∀b∈ch,(b∈X.ex∨X.s0.heap.objs.size<=b)/\b≠X.env.locals/\(∀x c,X.env.cells.lookup x=some c->c≠b)/\∀p∈X.pn++pins,p.1≠b):Inv X pins σ H' s':=by
 obtain⟨h',g',d',t',o'⟩:=s';have e:o'=s.os:=o;subst e;exact I.call (g':=g') (t':=t') (d':=d') u hok g h
end
abbrev XK:=Value->Option Addr->Hp->Prop
noncomputable abbrev St:=List (Option V)
abbrev VK:=V->Hp->Prop
abbrev TE:=St->Hp->VK->Prop
abbrev TT:=St->Hp->(Bool->Hp->Prop)->Prop
abbrev TA:=St->Hp->(List V->Hp->Prop)->Prop
structure Ends where
 nx:St->Hp->Prop
 rt:VK
 bk:St->Hp->Prop:=λ_ _=>False
 ct:St->Hp->Prop:=λ_ _=>False
abbrev TS:=Ends->St->Hp->Prop
inductive EP (X:Cx)(pins:b8)(σ:St)(Q:VK)(u:Value)(s':Shared):Prop
 |mk (v:V) (H':Hp) (I:Inv X pins σ H' s') (r:RelV v u) (q:Q v H')
def TP (X:Cx)(pins:b8)(σ:St)(Q:Bool->Hp->Prop)(b:Bool)(s':Shared):Prop:=∃H,Inv X pins σ H s'/\Q b H
inductive AP (X:Cx)(pins:b8)(σ:St)(Q:List V->Hp->Prop)(us:bY)(s':Shared):Prop
 |mk (vs:List V) (H':Hp) (I:Inv X pins σ H' s') (r:Vals vs us) (q:Q vs H')
def SP (X:Cx)(pins:b8)(D:Ends)(f:Flow)(s':Shared):Prop:=
 match f with
 |.next=>∃a H,Inv X pins a H s'/\D.nx a H|.brk=>∃a H,Inv X pins a H s'/\D.bk a H|.cont=>∃a H,Inv X pins a H s'/\D.ct a H|.ret u=>∃v a H,Inv X pins a H s'/\RelV v u/\D.rt v H
def PE (X:Cx)(e:Expr)(t:TE):Prop:=
 ∀(pins:b8)(s:Shared)(σ:St)(H:Hp)(Q:VK),Inv X pins σ H s->t σ H Q->wpAny (model X.prog X.w) X.A (eval e X.env) (EP X pins σ Q) X.xe s
def PT (X:Cx)(e:Expr)(t:TT):Prop:=
 ∀(pins:b8)(s:Shared)(σ:St)(H:Hp)(Q:Bool->Hp->Prop),Inv X pins σ H s->t σ H Q->wpAny (model X.prog X.w) X.A (isTrue e X.env (eval e X.env)) (TP X pins σ Q) X.xe s
def PW (X:Cx)(e:Expr)(t:TT):Prop:=
 ∀(whole:Sem Value)(pins:b8)(s:Shared)(σ:St)(H:Hp)(Q:Bool->Hp->Prop),Inv X pins σ H s->t σ H Q->wpAny (model X.prog X.w) X.A (isTrue e X.env whole) (TP X pins σ Q) X.xe s
def PW.pt {X:Cx}{t:TT}(h:PW X e t):PT X e t:=h _
def PA (X:Cx)(e:cg)(t:TA):Prop:=
 ∀(pos:Pos)(pins:b8)(s:Shared)(σ:St)(H:Hp)(Q:List V->Hp->Prop),Inv X pins σ H s->t σ H Q->wpAny (model X.prog X.w) X.A (spliced (backTo pos (starEach e X.env))) (AP X pins σ Q) X.xe s
def PS (X:Cx)(st:Stmt)(t:TS):Prop:=
 ∀(pins:b8)(s:Shared)(σ:St)(H:Hp)(D:Ends),Inv X pins σ H s->t D σ H->wpAny (model X.prog X.w) X.A (exec st X.env) (SP X pins D) X.xe s
def yT (X:Cx)(st:cx)(t:TS):Prop:=
 ∀(pins:b8)(s:Shared)(σ:St)(H:Hp)(D:Ends),Inv X pins σ H s->t D σ H->wpAny (model X.prog X.w) X.A (execs st X.env) (SP X pins D) X.xe s
def zU {t:Sem α}{Q Q':α->Shared->Prop}{A:Around}(h:wpAny M A t Q E s)(H:∀a s,Q a s->Q' a s):wpAny M A t Q' E s:=wpAny_mono h H λ_ _ x=>x
section
variable {X:Cx}
noncomputable def cM (i:Nat):TE:=λσ H Q=>∃v,σ[i]? =some (some v)/\Q v H
noncomputable def tC (v:V):TE:=λ_ H Q=>Q v H
def AQ (n:X.N[i]? =some x)(g:Xa X.env.scope x)(hd:(x==("__debug__":Str))=false:=by decide)(d:(x==("__classdict__":Str))=false:=by decide):PE X (.Name x pos) (cM i):=by
 intro pins s σ H Q I h;obtain⟨v,e,h⟩:=h;obtain⟨m,hn,j⟩:=I.loc;obtain⟨u,r,l⟩:=j i x v n e g;have fin:EP X pins σ Q u s:=⟨v,H,I,r,h⟩;rcases l with ⟨b,hm⟩|⟨b,c,f,a⟩
 ·exact wpAny_Name (wpAny_loadName_local I.ok.kind b hn hm fin) hd
 ·rcases b with b|b
  ·exact wpAny_Name (wpAny_loadName_cell I.ok.kind b f a fin) hd
  ·exact wpAny_Name (wpAny_loadName_free I.ok.kind b f a fin d) hd
def As {i j pos}:PE X (.Constant (.int i) j pos) (tC (.int i)):=λ_ _ _ H _ I h=>wpAny_Constant_int ⟨.int i,H,I.tok _,⟨_,rfl⟩,h⟩
def cN {b j pos}:PE X (.Constant (.bool b) j pos) (tC (.bl b)):=λ_ _ _ H _ I h=>Constant_bool ⟨.bl b,H,I,rfl,h⟩
def Aq {j pos}:PE X (.Constant .none j pos) (tC .non):=λ_ _ _ H _ I h=>Constant_none ⟨.non,H,I,rfl,h⟩
def Au {x j pos}:PE X (.Constant (.str x) j pos) (tC (.str x)):=λ_ _ _ H _ I h=>Calls.Constant_str ⟨.str x,H,I.tok _,⟨_,rfl⟩,h⟩
def Gl (X:Cx)(x:Str):Prop:=X.env.kindOf x=some .globalImplicit
def Y2 {σ:St}{H:Hp}(I:Inv X pins σ H s)(g:Gl X x)(hm:X.mg x=some u)(h:Q u s)
  (hd:(x==("__debug__":Str))=false:=by decide):wpAny (model X.prog X.w) X.A (eval (.Name x pos) X.env) Q E s:=
 Calls.Name_function_global I.ok.kind g (Calls.loadGlobal_global (by rw[I.ok.glob];exact I.mod.glob.keeps I.bk) hm h) hd
def Zg {σ:St}{H:Hp}(I:Inv X pins σ H s)(g:Gl X x)(hm:X.mg x=none)(v:bootBuiltins x=some u)(h:Q u s)
  (hn:x ≠ "__name__":=by decide)(hd:(x==("__debug__":Str))=false:=by decide):wpAny (model X.prog X.w) X.A (eval (.Name x pos) X.env) Q E s:=by
 obtain⟨mb,b,a⟩:=I.mod.blt;exact Calls.Name_function_global I.ok.kind g (Calls.loadGlobal_builtin (by rw[I.ok.glob];exact I.mod.glob.keeps I.bk) hm (by rw[I.ok.blt];exact b.keeps I.bk) ((a x hn).trans v) h) hd
def BH {v:V}(g:Gl X x)(hm:X.mg x=some u)(r:RelV v u)(hd:(x==("__debug__":Str))=false:=by decide):PE X (.Name x pos) (tC v):=
 λ_ _ _ H _ I h=>Y2 I g hm ⟨v,H,I,r,h⟩ hd
def W3 {v:V}(g:Gl X x)(hm:X.mg x=none)(a:bootBuiltins x=some u)(r:RelV v u)(hn:x ≠ "__name__":=by decide)(hd:(x==("__debug__":Str))=false:=by decide):PE X (.Name x pos) (tC v):=
 λ_ _ _ H _ I h=>Zg I g hm a ⟨v,H,I,r,h⟩ hn hd
variable {a b:Expr}{ta tb:TE}
def E6 (b:Expr)(h:op≠.In)(H:op≠.NotIn):behindInMarks op b=false:=by
 have E:(op==CmpOp.In)=false:=by cases op<;>first|rfl|exact absurd rfl h
 have e:(op==CmpOp.NotIn)=false:=by cases op<;>first|rfl|exact absurd rfl H
 cases b<;>simp[behindInMarks,E,e]
noncomputable def tB (t:TE):TT:=λσ H Q=>t σ H λx H1=>∃c,x=.bl c/\Q c H1
def Ay {t:TE}(h:PE X e t)(he:∀whole,isTrue e X.env whole=(do let v <- whole;standAt e.pos;holding [v] (truthy v)):=by intro _;rfl):PT X e (tB t):=by
 intro pins s σ H Q I hw;refine isTrue_plain (zU (h pins s σ H _ I hw) λv s1 ⟨x,H1,i,r,a⟩=>?_) (he _);obtain⟨d,rfl,q⟩:=a;cases r;exact wpAny_truthy_bool ⟨H1,i,q⟩
variable {tA tB':TT}{rest:cg}
noncomputable def cO (t u:TT):TT:=λσ H Q=>t σ H λc H1=>if c=true then u σ H1 Q else Q false H1
noncomputable def cP (t u:TT):TT:=λσ H Q=>t σ H λc H1=>if c=true then Q true H1 else u σ H1 Q
noncomputable def cQ (t:TT):TT:=λσ H Q=>t σ H λc H1=>Q (!c) H1
def pw_and1 (b:PT X a tA):PW X (.BoolOp .And [a] pos) tA:=by
 intro w pins s σ H Q I h;refine isTrue_and (zU (b pins s σ H Q I h) λc s1 e=>?_);cases c with
 |true=>exact isTrue_and_nil e|false=>exact e
def pw_or1 (b:PT X a tA):PW X (.BoolOp .Or [a] pos) tA:=by
 intro w pins s σ H Q I h;refine isTrue_or (zU (b pins s σ H Q I h) λc s1 e=>?_);cases c with
 |false=>exact isTrue_or_nil e|true=>exact e
def pw_and (e:PT X a tA)(d:PW X (.BoolOp .And (b::rest) pos) tB'):PW X (.BoolOp .And (a::b::rest) pos) (cO tA tB'):=by
 intro w pins s σ H Q I h;refine isTrue_and (zU (e pins s σ H _ I h) λc s1 ⟨H1,i,q⟩=>?_);cases c with
 |true=>exact d w pins s1 σ H1 Q i q|false=>exact⟨H1,i,q⟩
def pw_or (e:PT X a tA)(d:PW X (.BoolOp .Or (b::rest) pos) tB'):PW X (.BoolOp .Or (a::b::rest) pos) (cP tA tB'):=by
 intro w pins s σ H Q I h;refine isTrue_or (zU (e pins s σ H _ I h) λc s1 ⟨H1,i,q⟩=>?_);cases c with
 |true=>exact⟨H1,i,q⟩|false=>exact d w pins s1 σ H1 Q i q
def cR (b:PT X a tA):PT X (.UnaryOp .Not a pos) (cQ tA):=by
 intro pins s σ H Q I h;exact isTrue_not (b pins s σ H (λc H1=>Q (!c) H1) I h)
noncomputable def cS (T t:TE):TE:=λσ H Q=>T σ H λx H1=>∃c,x=.bl c/\if c=true then t σ H1 Q else Q (.bl false) H1
noncomputable def cT (t:TE):TE:=λσ H Q=>t σ H λx H1=>∃c,x=.bl c/\Q (.bl (!c)) H1
def AJ {op}{t:TE}(h:PE X a t):PE X (.BoolOp op [a] pos) t:=λpins s σ H Q I hw=>BoolOp_one (h pins s σ H Q I hw)
def AW (e:PE X a ta)(d:PE X (.BoolOp .And (b::rest) pos) tb):PE X (.BoolOp .And (a::b::rest) pos) (cS ta tb):=by
 intro pins s σ H Q I h;refine BoolOp_and (zU (e pins s σ H _ I h) λv s1 ⟨x,H1,i,r,q⟩=>?_);obtain⟨c,rfl,q⟩:=q;cases r;refine wpAny_truthy_bool ?_;cases c with
 |true=>exact d pins s1 σ H1 Q i q|false=>exact⟨.bl false,H1,i,rfl,q⟩
def cU (b:PE X a ta):PE X (.UnaryOp .Not a pos) (cT ta):=by
 intro pins s σ H Q I h;refine UnaryOp_ (zU (b pins s σ H _ I h) λv s1 ⟨x,H1,i,r,q⟩=>?_);obtain⟨c,rfl,q⟩:=q;cases r;exact not_of (wpAny_truthy_bool ⟨.bl (!c),H1,i,rfl,q⟩)
noncomputable def cV (t:TT)(a T:TE):TE:=λσ H Q=>t σ H λc H1=>if c=true then a σ H1 Q else T σ H1 Q
def Cm {c:Expr}(e:PT X c tA)(g:PE X a ta)(f:PE X b tb):PE X (.IfExp c a b pos) (cV tA ta tb):=by
 intro pins s σ H Q I h;refine wpAny_IfExp (zU (e pins s σ H _ I h) λd s1 ⟨H1,i,q⟩=>?_);cases d with
 |true=>exact g pins s1 σ H1 Q i q|false=>exact f pins s1 σ H1 Q i q
end
def qW (K:Frag)(H:Hp)(a:Addr)(xs:List V):Prop:=
 Rd H a (.lst xs)∨
  ∃(o:Obj) (its:Array Value) (n:Nat),K.lookup a=some o/\o.cls=.type "list" /\ o.dict=none/\o.data=.seq its n/\its.size<=sizeLine/\Vals xs its.toList
def qM (K:Frag)(H:Hp)(a:Addr)(xs:List V):Prop:=
 Rd H a (.tup xs)∨
  ∃(o:Obj) (its:Array Value) (n:Nat),K.lookup a=some o/\(o.cls=.type "tuple" /\ o.dict=none)/\o.data=.seq its n/\its.size<=sizeLine/\Vals xs its.toList
noncomputable def cW:Value->Option V
 |.none=>some .non|.bool b=>some (.bl b)|.int i _=>some (.int i)|.str x _=>some (.str x)|.bytes b _=>some (.byt b)|.float b _=>some (.flt b)|.ref a=>some (.ref a)|.type n=>some (.ty n)|_=>none
def RelV.abs {x:V}(r:RelV x u):cW u=some x:=by
 cases x with
 |non=>cases r;rfl|bl _=>cases r;rfl|int _=>obtain⟨t,rfl⟩:=r;rfl|str _=>obtain⟨t,rfl⟩:=r;rfl|byt _=>obtain⟨t,rfl⟩:=r;rfl|flt _=>obtain⟨t,rfl⟩:=r;rfl|ref _=>cases r;rfl|ty _=>cases r;rfl
def RelV.inj {x y:V}(r:RelV x u)(q:RelV y u):x=y:=aA (r.abs.symm.trans q.abs)
theorem Vals.inj:∀{xs ys:List V}{us:bY},Vals xs us->Vals ys us->xs=ys
 |_,_,_,.nil,.nil=>rfl|_,_,_,.cons r t,.cons a t'=>by rw[r.inj a,Vals.inj t t']
section
variable {X:Cx}{σ:St}{H:Hp}{xs ys:List V}
def qW.of {K:Frag}(h:H a=some (.lst xs)):qW K H a xs:=.inl (.inl h)
def qM.of {K:Frag}(h:H a=some (.tup xs)):qM K H a xs:=.inl (.inl h)
def Inv.list (I:Inv X pins σ H s)(h:qW X.K H a xs):∃i:bY,Vals xs i/\PlainL s.heap a i.toArray/\xs.length<=sizeLine:=by
 rcases h with h|⟨o,i,n,c,d,hd,b,f,r⟩
 ·obtain⟨z,i,n,r,e⟩:=h.ok I.hok
  exact⟨i,r,⟨_,n,e,rfl,rfl,rfl⟩,z⟩
 ·refine⟨i.toList,r,⟨o,n,I.kIn a o c,d,hd,by simpa using b⟩,?_⟩
  have e:=r.length;simp only[aS]at e;omega
def Inv.tuple (I:Inv X pins σ H s)(h:qM X.K H a xs):∃i:bY,Vals xs i/\IsTup s.heap a i.toArray/\xs.length<=sizeLine:=by
 rcases h with h|⟨o,i,n,c,d,b,f,r⟩
 ·obtain⟨z,i,r,p⟩:=h.ok I.hok
  exact⟨i,r,p.tup,z⟩
 ·refine⟨i.toList,r,⟨o,I.kIn a o c,d.1,n,by simpa using b⟩,?_⟩
  have e:=r.length;simp only[aS]at e;omega
def Inv.list_inj (I:Inv X pins σ H s)(h:qW X.K H a xs)(h':qW X.K H a ys):xs=ys:=by
 obtain⟨i,r,⟨o,n,e,_,_,d⟩,_⟩:=I.list h;obtain⟨its',b,⟨o',N,E,_,_,d'⟩,_⟩:=I.list h';rw[e]at E;cases E;rw[d]at d';injection d' with D _
 have:i=its':=by simpa using congrArg Array.toList D
 subst this;exact r.inj b
def Inv.tuple_inj (I:Inv X pins σ H s)(h:qM X.K H a xs)(h':qM X.K H a ys):xs=ys:=by
 obtain⟨i,r,⟨o,e,_,n,d⟩,_⟩:=I.tuple h;obtain⟨its',b,⟨o',E,_,N,d'⟩,_⟩:=I.tuple h';rw[e]at E;cases E;rw[d]at d';injection d' with D _
 have:i=its':=by simpa using congrArg Array.toList D
 subst this;exact r.inj b
end
noncomputable abbrev Cx.wish (X:Cx)(E:cf):Cx:={ X with xe:=E }
noncomputable abbrev Cx.nox (X:Cx):Cx:=X.wish λ_ _=>False
theorem Cx.Ok.wish {X:Cx}(ok:X.Ok)(E:cf):(X.wish E).Ok:=
 ⟨ok.mod,ok.kind,ok.glob,ok.blt,ok.above,ok.inj,ok.has,ok.cab,ok.hd,ok.frames,ok.stk,ok.exf,ok.bs,ok.bsz,ok.noex,ok.exfs,ok.funs,ok.frf⟩
def Cx.Ok.unwish {X:Cx}(ok:(X.wish E).Ok):X.Ok:=
 ⟨ok.mod,ok.kind,ok.glob,ok.blt,ok.above,ok.inj,ok.has,ok.cab,ok.hd,ok.frames,ok.stk,ok.exf,ok.bs,ok.bsz,ok.noex,ok.exfs,ok.funs,ok.frf⟩
section
variable {X:Cx}{σ:St}{H:Hp}
theorem Inv.wish (I:Inv X pins σ H s)(E:cf):Inv (X.wish E) pins σ H s:=⟨I.ok.wish E,I.os,I.bare,I.base,I.loc,I.cell,I.free,I.freeC,I.pin,I.hok,I.len⟩
theorem Inv.unwish (I:Inv (X.wish E) pins σ H s):Inv X pins σ H s:=⟨I.ok.unwish,I.os,I.bare,I.base,I.loc,I.cell,I.free,I.freeC,I.pin,I.hok,I.len⟩
theorem SP.unwish {D:Ends}{f:Flow}(h:SP (X.wish E) pins D f s'):SP X pins D f s':=by
 cases f with
 |next=>obtain⟨a,H,I,q⟩:=h;exact⟨a,H,I.unwish,q⟩|brk=>obtain⟨a,H,I,q⟩:=h;exact⟨a,H,I.unwish,q⟩|cont=>obtain⟨a,H,I,q⟩:=h;exact⟨a,H,I.unwish,q⟩|ret u=>obtain⟨v,a,H,I,r,q⟩:=h;exact⟨v,a,H,I.unwish,r,q⟩
theorem PE.nox {t:TE}(h:PE X.nox e t):PE X e t:=λpins s σ H Q I hw=>
 wpAny_mono (h pins s σ H Q (I.wish _) hw) (λ_ _ ⟨v,a,i,r,q⟩=>⟨v,a,i.unwish,r,q⟩) λ_ _ z=>False.elim z
theorem PT.nox {t:TT}(h:PT X.nox e t):PT X e t:=λpins s σ H Q I hw=>
 wpAny_mono (h pins s σ H Q (I.wish _) hw) (λ_ _ ⟨a,i,q⟩=>⟨a,i.unwish,q⟩) λ_ _ z=>False.elim z
theorem yT.nox {st:cx}{t:TS}(h:yT X.nox st t):yT X st t:=λpins s σ H D I hw=>
 wpAny_mono (h pins s σ H D (I.wish _) hw) (λ_ _ q=>q.unwish) λ_ _ z=>False.elim z
end
section
variable {X:Cx}{st:Stmt}{rest:cx}{t u:TS}{te:TE}
noncomputable def cX:TS:=λD σ H=>D.nx σ H
noncomputable def cY (t u:TS):TS:=λD σ H=>t { D with nx:=u D } σ H
def BA:yT X [] cX:=λ_ _ σ H _ I h=>wpAny_execs_nil ⟨σ,H,I,h⟩
def Cw (c:PS X st t)(b:yT X rest u):yT X (st::rest) (cY t u):=by
 intro pins s σ H D I h;refine wpAny_execs_cons (zU (c pins s σ H { D with nx:=u D } I h) λf s1 q=>?_)
 cases f with
 |next=>
  obtain⟨a,d,i,q⟩:=q;exact b pins s1 a d D i q
 |ret v=>exact q|brk=>exact q|cont=>exact q
def Inv.quiet {σ:St}{H:Hp}(I:Inv X pins σ H s):interactive X.env=false:=by simp[interactive,I.ok.kind]
noncomputable def cZ (t:TE):TS:=λD σ H=>t σ H λ_ H1=>D.nx σ H1
def Ag (he:PE X e te)(a:swapsWith e none pos.line X.env=pure false:=by rfl):PS X (.Expr e pos) (cZ te):=by
 intro pins s σ H D I h;exact wpAny_Expr_any (zU (he pins s σ H _ I h) λv s1 ⟨x,H1,i,r,q⟩=>⟨σ,H1,i,q⟩) I.quiet a
noncomputable def c3 (t:TE):TS:=λD σ H=>t σ H D.rt
def AA (he:PE X e te):PS X (.Return (some e) pos) (c3 te):=by
 intro pins s σ H D I h;exact wpAny_Return_some (zU (he pins s σ H _ I h) λv s1 ⟨x,H1,i,r,q⟩=>⟨x,σ,H1,i,r,q⟩)
noncomputable def c4 (c:TT)(t u:TS):TS:=λD σ H=>c σ H λb H1=>if b=true then t D σ H1 else u D σ H1
def c5 {c:Expr}{a b:cx}{T:TT}(e:PT X c T)(g:yT X a t)(f:yT X b u):PS X (.If c a b pos) (c4 T t u):=by
 intro pins s σ H D I h;refine wpAny_If (zU (e pins s σ H _ I h) λd s1 ⟨H1,i,q⟩=>?_);cases d with
 |true=>exact g pins s1 σ H1 D i q|false=>exact f pins s1 σ H1 D i q
end
abbrev TG:=V->St->Hp->(St->Hp->Prop)->Prop
abbrev JA:=List V->St->Hp->(St->Hp->Prop)->Prop
def PG (X:Cx)(target:Expr)(t:TG):Prop:=
 ∀(pins:b8)(s:Shared)(σ:St)(H:Hp)(v:V)(u:Value)(Q:St->Hp->Prop),Inv X pins σ H s->RelV v u->t v σ H Q->
  wpAny (model X.prog X.w) X.A (assign target X.env u) (λ_ s'=>∃a h,Inv X pins a h s'/\Q a h) X.xe s
def Xc (X:Cx)(T:cg)(t:JA):Prop:=
 ∀(pins:b8)(s:Shared)(σ:St)(H:Hp)(vs:List V)(us:bY)(Q:St->Hp->Prop),Inv X pins σ H s->Vals vs us->t vs σ H Q->
  wpAny (model X.prog X.w) X.A (assignInOrder ((assignEach T X.env).map (·.2)) us) (λ_ s'=>∃a h,Inv X pins a h s'/\Q a h) X.xe s
abbrev QF:=V->V->V->Hp->(Hp->Prop)->Prop
def Kw (X:Cx)(t:QF):Prop:=
 ∀(pins:b8)(s:Shared)(σ:St)(H:Hp)(o i v:V)(a I u:Value)(Q:Hp->Prop),Inv X pins σ H s->RelV o a->RelV i I->RelV v u->t o i v H Q->
  wpAny (model X.prog X.w) X.A (setItem a I u) (λ_ s'=>∃h,Inv X pins σ h s'/\Q h) X.xe s
abbrev G2:=V->V->Hp->VK->Prop
def Mk (X:Cx)(op:Operator)(t:G2):Prop:=
 ∀(pins:b8)(s:Shared)(σ:St)(H:Hp)(x y:V)(v u:Value)(Q:VK),Inv X pins σ H s->RelV x v->RelV y u->t x y H Q->
  wpAny (model X.prog X.w) X.A (inplaceOp op v u) (EP X pins σ Q) X.xe s
section
variable {X:Cx}
noncomputable def Gs (i:Nat):TG:=λv σ H Q=>Q (σ.set i (some v)) H
def JT (c:X.N.Nodup)(b:X.N[i]? =some x)(a:Loc X.env.scope x)(hf:X.fn x=true∨X.env.scope.names.lookup x=some .local:=by first|exact .inl rfl|exact .inr rfl|assumption):PG X (.Name x pos) (Gs i):=by
 intro pins s σ H v u Q I r h;exact wpAny_assign_Name (WK I c b a r (λs' d=>⟨_,H,d,h⟩) hf)
noncomputable def c6:JA:=λvs σ H Q=>vs=[]/\Q σ H
noncomputable def c7 (t:TG)(u:JA):JA:=λvs σ H Q=>∃v r,vs=v::r/\t v σ H λa h=>u r a h Q
def Vu:Xc X [] c6:=by
 intro pins s σ H vs us Q I r h;obtain⟨e,h⟩:=h;subst e;cases r;exact assignInOrder_nil ⟨σ,H,I,h⟩
def JP {E:cg}{t:TG}{u:JA}(f:PG X e t)(d:Xc X E u)
  (c:(assignEach (e::E) X.env).map (·.2)=assign e X.env::(assignEach E X.env).map (·.2):=by rfl):Xc X (e::E) (c7 t u):=by
 intro pins s σ H vs us Q I r h;obtain⟨v,j,g,h⟩:=h;subst g;cases r with
 |cons r b=>
  rw[c];refine assignInOrder_cons (zU (f pins s σ H _ _ _ I r h) λ_ s1 ⟨a,H1,i,q⟩=>?_);exact d pins s1 a H1 _ _ Q i b q
noncomputable def jm (K:Frag)(n:Nat)(t:JA):TG:=λv σ H Q=>∃a xs,v=.ref a/\qM K H a xs/\xs.length=n/\t xs σ H Q
def V7 {E:cg}{k:Nat}{t:JA}(g:X.calm=true)(h:Xc X E t)
  (hn:(assignEach E X.env).length=n:=by rfl)(c:(assignEach E X.env).findIdx? (·.1)=none:=by rfl):PG X (.Tuple E k pos) (jm X.K n t):=by
 intro pins s σ H v u Q I r hw;obtain⟨a,xs,j,q,l,hw⟩:=hw;subst j;cases r;obtain⟨i,d,f,z⟩:=I.tuple q;refine assign_Tuple_tuple (I.ok.hd g) f (by simp[hn,<- l,d.length]) c λh' x=>?_
 have p:Inv X pins σ H { s with heap:=h' }:=I.kept (t':=s.toks) λb o e=>x b o (aM (aG e)) e
 exact h pins _ σ H xs _ Q p (by simpa using d) hw
noncomputable def kq (to ti:TE)(t:QF):TG:=λv σ H Q=>to σ H λo H1=>ti σ H1 λi a=>t o i v a λh=>Q σ h
def Az {o i:Expr}{to ti:TE}{t:QF}(f:PE X o to)(g:PE X i ti)(e:Kw X t)
  (j:∀v,assign (.Subscript o i pos) X.env v=(do
   let ov <- holding [v] (eval o X.env)
   let iv <- holding [v,ov] (eval i X.env)
   standAt pos
   holding [v,ov,iv] (setItem ov iv v)
   release [v,ov,iv] []):=by intro _;rfl):PG X (.Subscript o i pos) (kq to ti t):=by
 intro pins s σ H v u Q I r h;rw[j];refine cy (wpAny_holding (zU (f pins s σ H _ I h) λov s1 ⟨x,H1,p,b,d⟩=>?_));refine cy (wpAny_holding (zU (g pins s1 σ H1 _ p d) λiv s2 ⟨y,z,n,a,c⟩=>?_));refine cy (wpAny_standAt (cy (wpAny_holding (zU (e pins s2 σ z x y v ov iv u _ n b a r c) λ_ s3 ⟨w,l,q⟩=>?_))));exact wpAny_release ⟨σ,w,l,q⟩
noncomputable def GO (t:TE)(g:TG):TS:=λD σ H=>t σ H λx H1=>g x σ H1 D.nx
def Nh {t:TE}{g:TG}(he:PE X e t)(b:PG X tg g)(a:swapsWithSole [tg] e pos.line X.env=pure false:=by rfl)(hw:swappedStores [tg] e X.env=pure none:=by rfl)
  (c:(assignEach [tg] X.env).map (·.2)=[assign tg X.env]:=by rfl):PS X (.Assign [tg] e pos) (GO t g):=by
 intro pins s σ H D I h;refine wpAny_Assign_stores (zU (he pins s σ H _ I h) λv s1 ⟨x,H1,i,r,Q⟩=>?_) a hw;rw[c];exact zU (b pins s1 σ H1 x v _ i r Q) λ_ s2 q=>q
def AD {t:TE}{pos':Pos}(d:X.N.Nodup)(c:X.N[i]? =some x)(a:Loc X.env.scope x)(he:PE X e t)(b:swapsWith e (some (.Name x pos')) pos.line X.env=pure false:=by rfl)(hf:X.fn x=true∨X.env.scope.names.lookup x=some .local:=by first|exact .inl rfl|exact .inr rfl|assumption):
  PS X (.Assign [.Name x pos'] e pos) (GO t (Gs i)):=by
 intro pins s σ H D I h;refine wpAny_Assign_Name (zU (he pins s σ H _ I h) λv s1 ⟨y,H1,g,r,q⟩=>?_) b;exact WK g d c a r (λs2 f=>⟨_,H1,f,q⟩) hf
noncomputable def c8 (to ti e:TE)(T:V->V->Hp->VK->Prop)(p:G2)(t:QF):TS:=λD σ H=>to σ H λo H1=>ti σ H1 λi d=>T o i d λx c=>e σ c λy b=>p x y b λz a=>t o i z a λh=>D.nx σ h
def Mb (X:Cx)(t:V->V->Hp->VK->Prop):Prop:=
 ∀(pins:b8)(s:Shared)(σ:St)(H:Hp)(o i:V)(v I:Value)(Q:VK),Inv X pins σ H s->RelV o v->RelV i I->t o i H Q->
  wpAny (model X.prog X.w) X.A (getItem v I) (EP X pins σ Q) X.xe s
def Ac {o i:Expr}{to ti c:TE}{T:V->V->Hp->VK->Prop}{p:G2}{t:QF}{op:Operator}(z:PE X o to)(A:PE X i ti)(B:Mb X T)(he:PE X e c)(y:Mk X op p)(x:Kw X t)
  (C:∀a b new,augStore i a b new=(do holding [new,a,b] (setItem a b new);release [new,a,b] [];pure .next):=by intros;rfl):PS X (.AugAssign (.Subscript o i tpos) op e pos) (c8 to ti c T p t):=by
 intro pins s σ H D I h;refine wpAny_AugAssign_SubscriptAny (zU (z pins s σ H _ I h) λa s1 ⟨x1,H1,N,d,w⟩=>?_) C;refine zU (A pins s1 σ H1 _ N w) λb s2 ⟨x2,Z,M,r,u⟩=>?_;refine zU (B pins s2 σ Z x1 x2 a b _ M d r u) λold s3 ⟨x3,Y,L,j,n⟩=>?_;refine zU (he pins s3 σ Y _ L n) λv s4 ⟨x4,U,K,g,l⟩=>?_;refine zU (y pins s4 σ U x3 x4 old v _ K j g l) λnew s5 ⟨x5,S,J,f,Q⟩=>?_;exact zU (x pins s5 σ S x1 x2 x5 a b new _ J d r f Q) λ_ s6 ⟨P,E,q⟩=>⟨σ,P,E,q⟩
noncomputable def c9 (f:Int->Int->Int):G2:=λx y H Q=>∃i j,x=.int i/\y=.int j/\Q (.int (f i j)) H
def da:Mk X .Add (c9 λi j=>i+j):=by
 intro pins s σ H x y v u Q I a r h;obtain⟨i,j,E,e,q⟩:=h;subst E;subst e;obtain⟨t,rfl⟩:=a;obtain⟨t',rfl⟩:=r;exact iadd_int ⟨.int _,H,I.tok _,⟨_,rfl⟩,q⟩
def A8 (c:TT)(t:TS):TS:=λD σ H=>∃W:Nat->St->Hp->Prop,(∃m,W m σ H)/\∀m σ H,W m σ H->
 c σ H λb H1=>if b=true then ∃N:St->Hp->Prop,(∀a h,N a h->∃M,M<m/\W M a h)/\t { D with nx:=N,ct:=N,bk:=D.nx } σ H1 else D.nx σ H1
def Dp {c:Expr}{t:TT}{T:TS}(p:PassesOwn (model X.prog X.w) X.A X.env X.xe)(B:PT X c t)(C:yT X body T):PS X (.While c body [] pos) (A8 t T):=by
 intro pins s σ H D I h;obtain⟨W,⟨m0,z⟩,turn⟩:=h;refine wpAny_While (codeAny_whileLoop (λn s'=>∃e x,Inv X pins e x s'/\W n e x) ?_ m0 ⟨σ,H,I,z⟩)
 rintro n s1 ⟨d,H1,E,y⟩
 refine wpAny_passesOwn p (zU (B pins s1 d H1 _ E (turn n d H1 y)) λb s2 ⟨u,r,Q⟩=>?_);cases b with
 |true=>
  obtain⟨N,o,Q⟩:=Q;rw[ag rfl];refine wpAny_passesOwn p (zU (C pins s2 d u _ r Q) λf s3 q=>?_);cases f with
  |next=>
   obtain⟨a,g,l,j⟩:=q;obtain⟨M,hm,i⟩:=o a g j;exact⟨M,hm,a,g,l,i⟩
  |cont=>
   obtain⟨a,g,l,j⟩:=q;obtain⟨M,hm,i⟩:=o a g j;exact⟨M,hm,a,g,l,i⟩
  |brk=>exact q|ret v=>exact q
 |false=>
  rw[aj az];exact wpAny_execs_nil ⟨d,u,r,Q⟩
end
structure It where
 go:Nat->Hp->Prop
 yld:Nat->Hp->V->Hp->Prop
 stop:Nat->Hp->Prop
def wg (X:Cx)(pins:b8)(H:Hp)(b:Addr):Prop:=
 H b=none/\b≠X.env.locals/\b∉X.fs/\(b∈X.ex∨X.s0.heap.objs.size<=b)/\(∀x c,X.env.cells.lookup x=some c->c≠b)/\∀p∈X.pn++pins,p.1≠b
def Inv.fpOk {X:Cx}{σ:St}{H a:Hp}(I:Inv X pins σ H s)(h:s.heap.objs.size<=b)(hn:a b=none):wg X pins a b:=by
 refine⟨hn,bq (aD I.lt h),I.nofs h,.inr (bt I.sz h),λx c e z=>?_,λp d z=>?_⟩
 ·obtain⟨v,q⟩:=I.cell x c e
  exact absurd (aD q.lt (by rw[z];exact h)) (aW _)
 ·exact absurd (aD (aG (I.pin p d).1) (by rw[z];exact h)) (aW _)
structure Turn (P:Program)(w:World)(K:Frag)(tg:Expr)(J:It)(fp:bZ)(it:Addr)(tn:Nat->Heap->Prop):Prop where
 mem:it∈fp
 obj:∀i h,tn i h->∀b∈fp,∃o,h.get? b=some o/\∀v,o.data≠.cell v
 keep:∀i h h',tn i h->(∀b∈fp,∀o,h.get? b=some o->h'.get? b=some o)->tn i h'
 item:∀(X:Cx),X.prog=P->X.w=w->X.K=K->X.calm=true->∀(i:Nat)(pins:b8)(s:Shared)(σ:St)(H:Hp)(E:cf),Inv X pins σ H s->(∀b∈fp,wg X pins H b)->tn i s.heap->J.go i H->
  wpAny (model P w) X.A (pyNext (.ref it)) (λr s1=>∃u,r=some u/\
   wpAny (model P w) X.A (letOwnedTupleGo tg (.ref it) u) (λ_ s2=>∃x H',Inv X pins σ H' s2/\RelV x u/\J.yld i H x H'/\tn (i+1) s2.heap/\∀b∈fp,H' b=none) E s1) E s
 done:∀(X:Cx),X.prog=P->X.w=w->X.K=K->X.calm=true->∀(i:Nat)(pins:b8)(s:Shared)(σ:St)(H:Hp)(E:cf),Inv X pins σ H s->(∀b∈fp,wg X pins H b)->tn i s.heap->J.stop i H->
  wpAny (model P w) X.A (pyNext (.ref it)) (λr s1=>r=none/\Inv X pins σ H s1) E s
 self:∀(A:Around)(i:Nat)(s:Shared)(Q:cf)(E:cf),tn i s.heap->Q (.ref it) s->wpAny (model P w) A (pyIter (.ref it)) Q E s
abbrev TI:=St->Hp->(It->Hp->Prop)->Prop
inductive Mz (X:Cx)(pins:b8)(σ:St)(tg:Expr)(R:It->Hp->Prop)(itv:Value)(s2:Shared):Prop
 |mk (it:Addr) (fp:bZ) (tn:Nat->Heap->Prop) (J:It) (H':Hp) (e:itv=.ref it) (I:Inv X pins σ H' s2) (T:Turn X.prog X.w X.K tg J fp it tn) (t0:tn 0 s2.heap) (f:(∀b∈fp,wg X pins H' b)) (q:R J H')
def PI (X:Cx)(t iter:Expr)(i:TI):Prop:=
 ∀(pins:b8)(s:Shared)(σ:St)(H:Hp)(R:It->Hp->Prop),Inv X pins σ H s->i σ H R->
  wpAny (model X.prog X.w) X.A (eval iter X.env) (λv s1=>wpAny (model X.prog X.w) X.A (pyIter v) (Mz X pins σ t R) X.xe s1) X.xe s
def Uy {A:Around}{o:Obj}{n:String}{vs:Array Value}{Q:Unit->Shared->Prop}(a:s.heap.get? it=some o)(c:o.cls=.type n)(hd:o.data=.fields vs)
  (hn:["enumerate","zip","dict_itemiterator","dict_reverseitemiterator","odict_iterator","itertools.zip_longest","itertools.pairwise"].contains n=false)(H:Q () s):wpAny M A (letOwnedTupleGo tg (.ref it) u) Q E s:=by
 unfold letOwnedTupleGo;cases tg<;>first
  |exact cz H
  |(cases u<;>first
    |exact cz H
    |(
      refine cy (wpAny_load a ?_);rw[c,hd];show wpAny M A (if (["enumerate","zip","dict_itemiterator","dict_reverseitemiterator","odict_iterator","itertools.zip_longest","itertools.pairwise"].contains n&&vs[0]?==some (rawInt _))=true then _ else _) Q E s;rw[aj (by intro h;rw[hn,Bool.false_and]at h;cases h)]
      exact cz H))
noncomputable def Mt (K:Frag)(a:Addr):It:=
 ⟨λi H=>∃xs x,qW K H a xs/\xs[i]? =some x,λi H x h=>h=H/\∀xs,qW K H a xs->xs[i]? =some x,λi H=>∃xs,qW K H a xs/\xs.length<=i⟩
noncomputable def Mr (K:Frag)(a:Addr):It:=
 ⟨λi H=>∃xs x,qM K H a xs/\xs[i]? =some x,λi H x h=>h=H/\∀xs,qM K H a xs->xs[i]? =some x,λi H=>∃xs,qM K H a xs/\xs.length<=i⟩
noncomputable def KQ (lo:Int)(n:Nat):It:=⟨λi _=>i<n,λi H x h=>h=H/\x=.int (lo+i),λi _=>n<=i⟩
def El {K:Frag}(a it:Addr):Turn P w K tg (Mt K a) [it] it (λi h=>h.IsListIter it a i) where
 mem:=by simp
 obj:=λi h st b f=>by
  have e:b=it:=by simpa using f
  subst e;obtain⟨o,e,c,d⟩:=st;exact⟨o,e,λv z=>by rw[d]at z;cases z⟩
 keep:=λi h h' st k=>st.at λo e=>k it (by simp) o e
 item:=by
  intro X n hw t B i pins s σ H E I hf st l;subst n hw t;obtain⟨xs,x,q,j⟩:=l;obtain⟨g,r,p,J⟩:=I.list q;obtain⟨u,M,D⟩:=r.get j;obtain⟨f0,f1,f2,A,f4,y⟩:=hf it (by simp)
  refine wpAny_pyNext_list_item st p.isList (x:=u) (by simpa using M) λh' S C=>?_
  have Q:Inv X pins σ H { s with heap:=h' }:=I.turned (t':=s.toks) (λb o f e=>(C.2 b f).trans e) f0 f1 A f4 y
  obtain⟨o,e,c,d⟩:=id S;exact⟨u,rfl,Uy (s:={ s with heap:=h' }) e c d (by decide) ⟨x,H,Q,D,⟨rfl,λys L=>by rw[I.list_inj L q];exact j⟩,S,λb f=>(hf b f).1⟩⟩
 done:=by
  intro X n hw t B i pins s σ H E I hf st l;subst n hw t;obtain⟨xs,q,j⟩:=l;obtain⟨g,r,p,J⟩:=I.list q;obtain⟨f0,f1,f2,A,f4,y⟩:=hf it (by simp)
  have T:=r.length;exact wpAny_pyNext_list_end (I.ok.hd B) st p.isList (by simp;omega) λh' N=>⟨rfl,I.turned (t':=s.toks) (λb o f e=>N b o f e) f0 f1 A f4 y⟩
 self:=λ_ _ _ _ _ st h=>wpAny_pyIter_listiter st h
def HL {K:Frag}(a it:Addr):Turn P w K tg (Mr K a) [it] it (λi h=>h.IsTupleIter it a i) where
 mem:=by simp
 obj:=λi h st b g=>by
  have e:b=it:=by simpa using g
  subst e;obtain⟨o,e,c,d⟩:=st;exact⟨o,e,λv z=>by rw[d]at z;cases z⟩
 keep:=λi h h' st k=>st.at λo e=>k it (by simp) o e
 item:=by
  intro X n hw t B i pins s σ H E I hf st l;subst n hw t;obtain⟨xs,x,q,j⟩:=l;obtain⟨f,r,p,J⟩:=I.tuple q;obtain⟨u,M,D⟩:=r.get j;obtain⟨f0,f1,f2,A,f4,y⟩:=hf it (by simp)
  refine wpAny_pyNext_tuple_item st (show s.heap.IsTuple a f.toArray from p) (x:=u) (by simpa using M) λh' S C=>?_
  have Q:Inv X pins σ H { s with heap:=h' }:=I.turned (t':=s.toks) (λb o g e=>(C.2 b g).trans e) f0 f1 A f4 y
  obtain⟨o,e,c,d⟩:=id S;exact⟨u,rfl,Uy (s:={ s with heap:=h' }) e c d (by decide) ⟨x,H,Q,D,⟨rfl,λys L=>by rw[I.tuple_inj L q];exact j⟩,S,λb g=>(hf b g).1⟩⟩
 done:=by
  intro X n hw t B i pins s σ H E I hf st l;subst n hw t;obtain⟨xs,q,j⟩:=l;obtain⟨f,r,p,J⟩:=I.tuple q;obtain⟨f0,f1,f2,A,f4,y⟩:=hf it (by simp)
  have T:=r.length;exact wpAny_pyNext_tuple_end (I.ok.hd B) st (show s.heap.IsTuple a f.toArray from p) (by simp;omega) λh' N=>⟨rfl,I.turned (t':=s.toks) (λb o g e=>N b o g e) f0 f1 A f4 y⟩
 self:=λ_ _ _ _ _ st h=>wpAny_pyIter_tupleiter st h
def H9 {K:Frag}(it:Addr)(lo:Int)(n:Nat):Turn P w K tg (KQ lo n) [it] it (λi h=>IsRangeIter h it (lo+(i:Nat) * 1) ((n:Int)-(i:Nat)) 1) where
 mem:=by simp
 obj:=λi h st b a=>by
  have e:b=it:=by simpa using a
  subst e;exact⟨_,st,λv z=>by
   have Z:Data.fields _=Data.cell v:=z;cases Z⟩
 keep:=λi h h' st k=>k it (by simp) _ st
 item:=by
  intro X d hw f c i pins s σ H E I hf st g;subst d hw f;obtain⟨f0,f1,f2,l,f4,j⟩:=hf it (by simp)
  have W:=Walks.range (prog:=X.prog) (w:=X.w) (I.ok.hd c) it lo 1 n;refine W.item i s _ _ g st λv h' tk p S kk=>?_;obtain⟨t,rfl⟩:=p;have r:Inv X pins σ H { s with heap:=h',toks:=tk }:=I.turned (λb o a e=>kk b o (by simpa using a) e) f0 f1 l f4 j
  refine⟨_,rfl,Uy (s:={ s with heap:=h',toks:=tk }) (n := "range_iterator") S rfl rfl (by decide) ⟨.int (lo+i),H,r,⟨t,?_⟩,⟨rfl,rfl⟩,S,λb a=>(hf b a).1⟩⟩
  rw[Int.mul_one]
 done:=by
  intro X d hw f c i pins s σ H E I hf st g;subst d hw f;obtain⟨f0,f1,f2,l,f4,j⟩:=hf it (by simp)
  exact wpAny_pyNext_range_end (I.ok.hd c) st (by have:n<=i:=g;omega) λh' q=>⟨rfl,I.turned (t':=s.toks) (λb o a e=>q b o a e) f0 f1 l f4 j⟩
 self:=λ_ _ _ _ _ st h=>wpAny_pyIter_rangeiter st h
section
variable {X:Cx}
def PU {σ:St}{H:Hp}{R:It->Hp->Prop}{lo h:Int}{t u v:Tok}{tk:Nat}(I:Inv X pins σ H s)(g:-(2 ^ 62)<=lo)(f:lo<2 ^ 62)(d:-(2 ^ 62)<=h)(c:h<2 ^ 62)
  (q:R (KQ lo (h-lo).toNat) H):wpAny (model X.prog X.w) X.A (pyIter (.ref s.heap.objs.size)) (Mz X pins σ tg R) E { s with heap:=s.heap.push { cls:=.type "range",data:=.fields #[.int lo t,.int h u,.int 1 v] },toks:=tk }:=by
 refine wpAny_pyIter_range (IsRange.new ..) (small_one g f d c) ?_;have i:Inv X pins σ H { s with heap:=s.heap.push { cls:=.type "range",data:=.fields #[.int lo t,.int h u,.int 1 v] },toks:=tk }:=I.kept λb o e=>af _ e
 refine⟨(s.heap.push { cls:=.type "range",data:=.fields #[.int lo t,.int h u,.int 1 v] }).objs.size,[(s.heap.push { cls:=.type "range",data:=.fields #[.int lo t,.int h u,.int 1 v] }).objs.size],_,_,H,rfl,
  i.kept (t':=tk) λb o e=>af _ e,H9 _ lo (h-lo).toNat,?_,λb a=>?_,q⟩
 ·have l:lo+((0:Nat):Int) * 1=lo:=by simp
  have j:(((h-lo).toNat:Nat):Int)-((0:Nat):Int)=Builtin.Range.rangeSize lo h 1:=by rw[rangeSize_one];split<;>omega
  show IsRangeIter _ _ (lo+((0:Nat):Int) * 1) ((((h-lo).toNat:Nat):Int)-((0:Nat):Int)) 1;rw[l,j];exact av _ rfl
 ·have e:b=(s.heap.push { cls:=.type "range",data:=.fields #[.int lo t,.int h u,.int 1 v] }).objs.size:=by simpa using a
  subst e;exact i.fpOk (ar _) (i.hok.fresh (ar _))
def dc (t:TA):TI:=λσ H R=>t σ H λvs H1=>∃j:Int,vs=[.int j]/\-(2 ^ 62)<=j/\j<2 ^ 62/\R (KQ 0 j.toNat) H1
def de (t:TA):TI:=λσ H R=>t σ H λvs H1=>∃i j:Int,vs=[.int i,.int j]/\(-(2 ^ 62)<=i/\i<2 ^ 62/\-(2 ^ 62)<=j/\j<2 ^ 62)/\R (KQ i (j-i).toNat) H1
def Ek {a:Expr}{T:TA}(g:Gl X "range")(hm:X.mg "range"=none)(i:PA X [a] T)(f:starEach [a] X.env=[(false,eval a X.env)]:=by rfl):PI X tg (.Call (.Name "range" p) [a] [] pos) (dc T):=by
 intro pins s σ H R I h;refine Call_ (Zg I g hm boot_range (PyProof.Rows.callWith_type1 (zU (i pos pins s σ H _ I h) λus s1 ⟨vs,H1,l,c,Q⟩=>?_) f rfl));obtain⟨j,e,Q,d,q⟩:=Q;subst e;cases c with
 |cons r b=>
  cases b;obtain⟨t,rfl⟩:=r;exact call_range_1 (PU l (by omega) (by omega) Q d (by simpa using q))
def EM {a b:Expr}{T:TA}(v:Gl X "range")(hm:X.mg "range"=none)(w:PA X [a,b] T)(u:starEach [a,b] X.env=[(false,eval a X.env),(false,eval b X.env)]:=by rfl)(c:starEach [b] X.env=[(false,eval b X.env)]:=by rfl):
  PI X tg (.Call (.Name "range" p) [a,b] [] pos) (de T):=by
 intro pins s σ H R I h;refine Call_ (Zg I v hm boot_range (PyProof.Rows.callWith_type1 (zU (w pos pins s σ H _ I h) λus s1 ⟨vs,H1,x,f,Q⟩=>?_) (by rw[u,c]) (by rw[c];rfl)))
 obtain⟨i,j,e,⟨Q,o,n,l⟩,q⟩:=Q;subst e;cases f with
 |cons r d=>
  cases d with
  |cons g d=>
   cases d;obtain⟨t,rfl⟩:=r;obtain⟨t',rfl⟩:=g;exact call_range_2 (PU x Q o n l q)
def df (w:TI)(g:TG)(t:TS):TS:=λD σ H=>w σ H λJ H1=>∃W:Nat->Nat->St->Hp->Prop,(∃m,W 0 m σ H1)/\∀i m σ H,W i m σ H->
 (J.stop i H/\D.nx σ H)∨(J.go i H/\∃N:St->Hp->Prop,(∀a h,N a h->∃M,M<m/\W (i+1) M a h)/\∀x h,J.yld i H x h->g x σ h λb c=>t { D with nx:=N,ct:=N,bk:=D.nx } b c)
noncomputable def Kb (fp:bZ)(h:Heap):b8:=fp.filterMap λb=>(h.get? b).map λo=>(b,o)
def Ww {o:Obj}(H:b∈fp)(e:h.get? b=some o):(b,o)∈Kb fp h:=List.mem_filterMap.mpr ⟨b,H,by rw[e];rfl⟩
def FC {p:Addr×Obj}(H:p∈Kb fp h):p.1∈fp/\h.get? p.1=some p.2:=by
 obtain⟨b,a,e⟩:=List.mem_filterMap.mp H;cases q:h.get? b with
 |none=>rw[q]at e;cases e|some o=>
  rw[q]at e;have E:(b,o)=p:=aA e;subst E;exact⟨a,q⟩
def Inv.pinned {σ:St}{H:Hp}(I:Inv X pins σ H s)(hf:∀b∈fp,wg X pins H b)(c:∀b∈fp,∃o,s.heap.get? b=some o/\∀v,o.data≠.cell v):Inv X (pins++Kb fp s.heap) σ H s:=
 I.pins_of λp a=>(cG.mp a).elim (λz=>I.pin p (aR _ z)) λz=>by
  obtain⟨h,e⟩:=FC z;obtain⟨f0,f1,f2,_⟩:=hf p.1 h;obtain⟨o,E,d⟩:=c p.1 h;rw[e]at E;cases E;exact⟨e,f0,f1,f2,d⟩
def Inv.unpinned {P:b8}{σ:St}{H:Hp}(I:Inv X (pins++P) σ H s):Inv X pins σ H s:=I.pins_of λp h=>I.pin p (aR _ (a5 _ h))
def dh {iter:Expr}{U:TI}{g:TG}{Z:TS}(z:PassesOwn (model X.prog X.w) X.A X.env X.xe)(hc:X.calm=true)(hi:PI X tg iter U)(hg:PG X tg g)(l:yT X body Z)
  (hs:∀x,foldedSetIterable iter X.env x=pure x:=by intro _;rfl):PS X (.For tg iter body [] pos) (df U g Z):=by
 intro pins s σ H D I h;refine wpAny_For (zU (hi pins s σ H _ I h) λv s1 h1=>zU h1 λitv s2 h2=>?_) hs;obtain⟨it,fp,Y,J,H2,e,I2,T,gu,f2,W,⟨m0,w0⟩,turn⟩:=h2;subst e;have S:∀{H':Hp},(∀b∈fp,H' b=none)->∀b∈fp,wg X pins H' b:=λhn b l=>⟨hn b l,(f2 b l).2⟩;refine codeAny_forLoop_any (λn s'=>∃i j H',Inv X pins j H' s'/\Y i s'.heap/\(∀b∈fp,H' b=none)/\W i n j H') ?_ m0 ⟨0,σ,H2,I2,gu,λb l=>(f2 b l).1,w0⟩
 rintro n s3 ⟨i,c,C,I3,gQ,B,w3⟩
 rcases turn i n c C w3 with ⟨stop,qn⟩|⟨go,N,hN,step⟩
 ·refine wpAny_passesOwn z (zU (T.done X rfl rfl rfl hc i pins s3 c C X.xe I3 (S B) gQ stop) λr s4 ⟨L,I4⟩=>?_)
  subst L;exact wpAny_execs_nil ⟨c,C,I4,qn⟩
 ·refine wpAny_passesOwn z (zU (T.item X rfl rfl rfl hc i pins s3 c C X.xe I3 (S B) gQ go) λr s4 ⟨u,L,h4⟩=>?_)
  subst L;refine wpAny_passesOwn z (zU h4 λ_ s5 ⟨x,H5,I5,r5,y5,t,M⟩=>?_);have P:=I5.pinned (S M) (T.obj _ _ t);refine wpAny_passesOwn z (zU (hg _ s5 c H5 x u _ P r5 (step x H5 y5)) λ_ s6 ⟨E,H6,I6,q6⟩=>?_);refine wpAny_passesOwn z (zU (l _ s6 E H6 _ I6 q6) λf K Q=>?_);have again:∀{a:St}{q:Hp},Inv X (pins++Kb fp s5.heap) a q K->N a q->∃m,m<n/\∃i j H',Inv X pins j H' K/\Y i K.heap/\(∀b∈fp,H' b=none)/\W i m j H':=λ {a q} p y=>by
   obtain⟨m',hm,w7⟩:=hN a q y;refine⟨m',hm,i+1,a,q,p.unpinned,T.keep _ _ _ t λb l o e=>(p.pin (b,o) (aR _ (aR _ (Ww l e)))).1,λb l=>?_,w7⟩;obtain⟨o,e,d⟩:=T.obj _ _ t b l;exact(p.pin (b,o) (aR _ (aR _ (Ww l e)))).2.1
  cases f with
  |next=>obtain⟨a,q,p,y⟩:=Q;exact again p y|cont=>obtain⟨a,q,p,y⟩:=Q;exact again p y|brk=>obtain⟨a,q,p,Q⟩:=Q;exact⟨a,q,p.unpinned,Q⟩|ret v=>obtain⟨x7,a,q,p,r7,Q⟩:=Q;exact⟨x7,a,q,p.unpinned,r7,Q⟩
end
abbrev R2:=V->V->Hp->VK->Prop
def qX (X:Cx)(f:Value->Value->Sem Value)(r:R2):Prop:=
 ∀(pins:b8)(s:Shared)(σ:St)(H:Hp)(x y:V)(v u:Value)(Q:VK),Inv X pins σ H s->RelV x v->RelV y u->r x y H Q->
  wpAny (model X.prog X.w) X.A (f v u) (EP X pins σ Q) X.xe s
def GZ (X:Cx)(f:Value->Sem Value)(r:V->Hp->VK->Prop):Prop:=
 ∀(pins:b8)(s:Shared)(σ:St)(H:Hp)(x:V)(v:Value)(Q:VK),Inv X pins σ H s->RelV x v->r x H Q->
  wpAny (model X.prog X.w) X.A (f v) (EP X pins σ Q) X.xe s
def j3 (X:Cx)(f:Value)(r:List V->Hp->VK->Prop):Prop:=
 ∀(pins:b8)(s:Shared)(σ:St)(H:Hp)(xs:List V)(us:bY)(Q:VK),Inv X pins σ H s->Vals xs us->r xs H Q->
  wpAny (model X.prog X.w) X.A (call f us) (EP X pins σ Q) X.xe s
noncomputable def K0 (r:R2)(T t:TE):TE:=λσ H Q=>T σ H λx H1=>t σ H1 λy h=>r x y h Q
noncomputable def MC (r:V->Hp->VK->Prop)(t:TE):TE:=λσ H Q=>t σ H λx H1=>r x H1 Q
noncomputable def rI (C:Int->Int->Prop)(g:Int->Int->V):R2:=λx y H Q=>∃i j,x=.int i/\y=.int j/\C i j/\Q (g i j) H
noncomputable def gO (g:Int->Int->V):R2:=λx y H Q=>∃i j,x=.int i/\y=.int j/\Q (g i j) H
noncomputable def rU (g:Int->V):V->Hp->VK->Prop:=λx H Q=>∃i,x=.int i/\Q (g i) H
section
variable {X:Cx}{a b:Expr}{ta tb:TE}
def UP (j:PE X a ta)(i:PE X b tb){σ:St}{H:Hp}{R:V->V->Hp->Prop}(I:Inv X pins σ H s)
  (h:ta σ H λx H1=>tb σ H1 λy c=>R x y c){f:Value->Value->Sem Value}
  (hf:∀v u s2 x y c,Inv X pins σ c s2->RelV x v->RelV y u->R x y c->wpAny (model X.prog X.w) X.A (f v u) Q X.xe s2):
  wpAny (model X.prog X.w) X.A (eval a X.env) (λv d=>wpAny (model X.prog X.w) X.A (eval b X.env) (λu S=>wpAny (model X.prog X.w) X.A (f v u) Q X.xe S) X.xe d) X.xe s:=by
 refine zU (j pins s σ H _ I h) λv s1 ⟨x,H1,n,e,g⟩=>?_;refine zU (i pins s1 σ H1 _ n g) λu s2 ⟨y,c,l,r,q⟩=>?_;exact hf v u s2 x y c l e r q
def di {op:Operator}{r:R2}(o:qX X (binaryOp op) r)(f:PE X a ta)(e:PE X b tb):PE X (.BinOp a op b pos) (K0 r ta tb):=by
 intro pins s σ H Q I h;exact wpAny_BinOp (UP f e I h λv u s2 x y g i d c q=>o pins s2 σ g x y v u Q i d c q)
def dj {op:UnaryOp}{r:V->Hp->VK->Prop}(o:GZ X (unaryOp op) r)(c:PE X a ta):PE X (.UnaryOp op a pos) (MC r ta):=by
 intro pins s σ H Q I h;exact UnaryOp_ (zU (c pins s σ H _ I h) λv s1 ⟨x,H1,i,b,q⟩=>o pins s1 σ H1 x v Q i b q)
def Xf {f:Value->Value->Sem Value}{C:Int->Int->Prop}{g:Int->Int->Int}
  (rule:∀(i j:Int)(t u:Tok)(s:Shared)(Q:cf)(E:cf),C i j->Q (.int (g i j) s.toks) { s with toks:=s.toks+1 }->wpAny (model X.prog X.w) X.A (f (.int i t) (.int j u)) Q E s):
  qX X f (rI C λi j=>.int (g i j)):=by
 intro pins s σ H x y v u Q I a r h;obtain⟨i,j,rfl,rfl,c,q⟩:=h;obtain⟨t,rfl⟩:=a;obtain⟨t',rfl⟩:=r;exact rule i j t t' s _ _ c ⟨.int (g i j),H,I.tok _,⟨_,rfl⟩,q⟩
def UW {f:Value->Value->Sem Value}{g:Int->Int->Int}
  (rule:∀(i j:Int)(t u:Tok)(s:Shared)(Q:cf)(E:cf),Q (.int (g i j) s.toks) { s with toks:=s.toks+1 }->wpAny (model X.prog X.w) X.A (f (.int i t) (.int j u)) Q E s):
  qX X f (gO λi j=>.int (g i j)):=by
 intro pins s σ H x y v u Q I a r h;obtain⟨i,j,rfl,rfl,q⟩:=h;obtain⟨t,rfl⟩:=a;obtain⟨t',rfl⟩:=r;exact rule i j t t' s _ _ ⟨.int (g i j),H,I.tok _,⟨_,rfl⟩,q⟩
def GB {f:Value->Value->Sem Value}{g:Int->Int->Bool}
  (rule:∀(i j:Int)(t u:Tok)(s:Shared)(Q:cf)(E:cf),Q (.bool (g i j)) s->wpAny (model X.prog X.w) X.A (f (.int i t) (.int j u)) Q E s):
  qX X f (gO λi j=>.bl (g i j)):=by
 intro pins s σ H x y v u Q I a r h;obtain⟨i,j,rfl,rfl,q⟩:=h;obtain⟨t,rfl⟩:=a;obtain⟨t',rfl⟩:=r;exact rule i j t t' s _ _ ⟨.bl (g i j),H,I,rfl,q⟩
def NV (i j:Int):Prop:=0<=j/\j<=1000000/\i.natAbs<2 ^ 64
def Ku (i j:Int):Prop:=(-(2 ^ 64)<i/\i<2 ^ 64)∨(-(2 ^ 64)<j/\j<2 ^ 64)
def Ku.ok {i j:Int}(h:Ku i j):IntMulOk i j:=by
 rcases h with ⟨a,H⟩|⟨a,H⟩
 ·exact .of_left (intBits_le_64 a H)
 ·exact .of_right (intBits_le_64 a H)
def AN:qX X (binaryOp .Add) (gO λi j=>.int (i+j)):=UW λ_ _ _ _ _ _ _ q=>add_int q
def dk:qX X (binaryOp .Sub) (gO λi j=>.int (i-j)):=UW λ_ _ _ _ _ _ _ q=>sub_int q
def dm:qX X (binaryOp .Mult) (rI Ku λi j=>.int (i * j)):=Xf λ_ _ _ _ _ _ _ h q=>mul_int q h.ok
def dq:qX X (binaryOp .Mod) (rI (λ_ j=>0<j) λi j=>.int (i%j)):=Xf λi j _ _ _ _ _ h q=>by
 have H:(0:Int)<j:=h;exact mod_int' (by omega) (by rw[Int.fmod_eq_emod_of_nonneg i (by omega)];exact q)
def dr:qX X (binaryOp .Pow) (rI NV λi j=>.int (i ^ j.toNat)):=Xf λ_ _ _ _ _ _ _ h q=>pow_int_small h.1 h.2.1 h.2.2 q
def dt:qX X (binaryOp .BitXor) (gO λi j=>.int (Builtin.bitXor i j)):=UW λ_ _ _ _ _ _ _ q=>xor_int q
def du {f:Value->Sem Value}{g:Int->Int}
  (rule:∀(i:Int)(t:Tok)(s:Shared)(Q:cf)(E:cf),Q (.int (g i) s.toks) { s with toks:=s.toks+1 }->wpAny (model X.prog X.w) X.A (f (.int i t)) Q E s):
  GZ X f (rU λi=>.int (g i)):=by
 intro pins s σ H x v Q I r h;obtain⟨i,rfl,q⟩:=h;obtain⟨t,rfl⟩:=r;exact rule i t s _ _ ⟨.int (g i),H,I.tok _,⟨_,rfl⟩,q⟩
def dv:GZ X (unaryOp .USub) (rU λi=>.int (-i)):=du λ_ _ _ _ _ q=>neg_int q
variable {c:Expr}{tc:TE}
def dw {σ:St}{H:Hp}{Q:VK}{k K:Bool}(I:Inv X pins σ H s)(q:Q (.bl k) H)(e:k=K):EP X pins σ Q (.bool K) s:=by
 subst e;exact⟨.bl k,H,I,rfl,q⟩
def dy:qX X (compareOp .Lt) (gO λi j=>.bl (decide (i<j))):=GB λ_ _ _ _ _ _ _ q=>lt_int q
def dz:qX X (compareOp .LtE) (gO λi j=>.bl (decide (i<=j))):=GB λ_ _ _ _ _ _ _ q=>le_int q
def dA:qX X (compareOp .Gt) (gO λi j=>.bl (decide (j<i))):=GB λ_ _ _ _ _ _ _ q=>gt_int q
def dB:qX X (compareOp .GtE) (gO λi j=>.bl (decide (j<=i))):=GB λ_ _ _ _ _ _ _ q=>ge_int q
def dC:qX X (compareOp .Is) (λx y H Q=>y=.non/\Q (.bl (decide (x=.non))) H):=by
 intro pins s σ H x y v u Q I r a h;obtain⟨rfl,q⟩:=h;cases a;refine is_none_gen (dw I q ?_);cases x<;>first
  |(cases r;rfl)
  |(obtain⟨t,rfl⟩:=r;rfl)
def qX.or {f:Value->Value->Sem Value}{r c:R2}(h:qX X f r)(h':qX X f c):qX X f (λx y H Q=>r x y H Q∨c x y H Q):=by
 intro pins s σ H x y v u Q I b a q;rcases q with q|q
 ·exact h pins s σ H x y v u Q I b a q
 ·exact h' pins s σ H x y v u Q I b a q
def Ai {r:R2}(o:qX X (compareOp op) r)(f:PE X a ta)(e:PE X b tb)(hm:behindInMarks op b=false):PE X (.Compare a [op] [b] pos) (K0 r ta tb):=by
 intro pins s σ H Q I h;exact wpAny_Compare1 (UP f e I h λv u s2 x y g i d c q=>o pins s2 σ g x y v u Q i d c q) hm
noncomputable def NB (t:TE):TT:=λσ H Q=>t σ H λx h=>∃k,x=.bl k/\Q k h
def Bh {r:R2}(o:qX X (compareOp op) r)(n:PE X a ta)(l:PE X b tb)(hm:behindInMarks op b=false):PT X (.Compare a [op] [b] pos) (NB (K0 r ta tb)):=by
 intro pins s σ H Q I h;refine wpAny_isTrue_Compare1 (zU (n pins s σ H _ I h) λv s1 ⟨x,H1,w,g,j⟩=>zU (l pins s1 σ H1 _ w j) λu s2 ⟨y,B,t,f,i⟩=>
  zU (o pins s2 σ B x y v u _ t g f i) λc s3 ⟨z,A,p,d,k,e,q⟩=>?_) hm
 subst e;cases d;exact wpAny_truthy_bool ⟨A,p,q⟩
noncomputable def VT (r b:R2)(a T t:TE):TE:=λσ H Q=>a σ H λx H1=>T σ H1 λy d=>r x y d λz h=>∃k,z=.bl k/\
 (if k=true then t σ h λw c=>b y w c Q else Q (.bl false) h)
def Ck {o:CmpOp}{r i:R2}(D:qX X (compareOp op) r)(f:qX X (compareOp o) i)(K:PE X a ta)(J:PE X b tb)(E:PE X c tc)
  (hm:lastMarks [op,o] [b,c]=false:=by with_unfolding_all rfl):PE X (.Compare a [op,o] [b,c] pos) (VT r i ta tb tc):=by
 intro pins s σ H Q I h;refine Compare_chain (zU (K pins s σ H _ I h) λv s1 ⟨x,H1,N,t,C⟩=>chain_link (zU (J pins s1 σ H1 _ N C) λu s2 ⟨y,S,M,g,B⟩=>
  zU (D pins s2 σ S x y v u _ M t g B) λd s3 ⟨z,l,j,p,k,e,q⟩=>?_)) hm
 subst e;cases p;refine wpAny_truthy_bool ?_;cases k with
 |false=>exact ite_ff ⟨.bl false,l,j,rfl,q⟩|true=>exact ite_tt (chain_last (zU (E pins s3 σ l _ j q) λw s4 ⟨Z,P,L,n,A⟩=>f pins s4 σ P y Z u w Q L g n A))
def Cy {o:CmpOp}{r i:R2}(K:qX X (compareOp op) r)(f:qX X (compareOp o) i)(N:PE X a ta)(M:PE X b tb)(L:PE X c tc)
  (hm:lastMarks [op,o] [b,c]=false:=by with_unfolding_all rfl):PT X (.Compare a [op,o] [b,c] pos) (NB (VT r i ta tb tc)):=by
 intro pins s σ H Q I h;refine isTrue_chain (zU (N pins s σ H _ I h) λv s1 ⟨x,H1,I1,A,E⟩=>test_link (zU (M pins s1 σ H1 _ I1 E) λu s2 ⟨y,H2,Y,g,D⟩=>
  zU (K pins s2 σ H2 x y v u _ Y A g D) λd s3 ⟨z,l,j,t,k,e,q⟩=>?_)) hm
 subst e;cases t;refine wpAny_truthy_bool ?_;cases k with
 |false=>
  obtain⟨k',S,J⟩:=q;cases S;exact ite_ff ⟨l,j,J⟩
 |true=>
  refine ite_tt (test_last (zU (L pins s3 σ l _ j q) λw s4 ⟨Z,H4,U,p,C⟩=>zU (f pins s4 σ H4 y Z u w _ U g p C) λd' s5 ⟨z2,H5,T,n,k2,P,B⟩=>?_));subst P;cases n;exact wpAny_truthy_bool ⟨H5,T,B⟩
def J3:(sizeLine:Nat)<2 ^ 63:=by rw[sizeLine_eq];decide
def vals1 {x:V}(r:Vals [x] us):∃u,us=[u]/\RelV x u:=by
 cases r with
 |cons b a=>cases a;exact⟨_,rfl,b⟩
def vals2 {x y:V}(r:Vals [x,y] us):∃u w,us=[u,w]/\RelV x u/\RelV y w:=by
 cases r with
 |cons d c=>
  cases c with
  |cons b a=>cases a;exact⟨_,_,rfl,d,b⟩
def Cf:j3 X (.builtin "abs") (λxs H Q=>∃i,xs=[.int i]/\Q (.int (if i<0 then -i else i)) H):=by
 intro pins s σ H xs us Q I r h;obtain⟨i,rfl,q⟩:=h;obtain⟨u,rfl,t,rfl⟩:=vals1 r;exact call_abs_int λu tk=>⟨.int (if i<0 then -i else i),H,I.tok _,⟨_,rfl⟩,q⟩
def ED (c:X.calm=true):j3 X (.builtin "max") (λxs H Q=>∃i j,xs=[.int i,.int j]/\Q (.int (if j > i then j else i)) H):=by
 intro pins s σ H xs us Q I r h;obtain⟨i,j,rfl,q⟩:=h;obtain⟨u,w,rfl,⟨t,rfl⟩,⟨t',rfl⟩⟩:=vals2 r;refine max_two_ints (I.ok.hd c) λh' tk k=>⟨_,H,I.kept k,?_,q⟩
 by_cases a:j > i
 ·rw[ag a,ag a];exact⟨_,rfl⟩
 ·rw[aj a,aj a];exact⟨_,rfl⟩
def FV (c:X.calm=true):j3 X (.builtin "min") (λxs H Q=>∃i j,xs=[.int i,.int j]/\Q (.int (if j<i then j else i)) H):=by
 intro pins s σ H xs us Q I r h;obtain⟨i,j,rfl,q⟩:=h;obtain⟨u,w,rfl,⟨t,rfl⟩,⟨t',rfl⟩⟩:=vals2 r;refine min_two_ints (I.ok.hd c) λh' tk k=>⟨_,H,I.kept k,?_,q⟩
 by_cases a:j<i
 ·rw[ag a,ag a];exact⟨_,rfl⟩
 ·rw[aj a,aj a];exact⟨_,rfl⟩
def Ed:j3 X (.type "int") (λxs H Q=>(∃i,xs=[.int i]/\Q (.int i) H)∨∃k,xs=[.bl k]/\Q (.int (if k then 1 else 0)) H):=by
 intro pins s σ H xs us Q I r h;rcases h with ⟨i,rfl,q⟩|⟨k,rfl,q⟩
 ·obtain⟨u,rfl,t,rfl⟩:=vals1 r
  exact call_int_int ⟨.int i,H,I,⟨_,rfl⟩,q⟩
 ·obtain⟨u,rfl,a⟩:=vals1 r
  cases a;exact call_int_bool ⟨.int (if k then 1 else 0),H,I.tok _,⟨_,rfl⟩,q⟩
end
structure US (h:Heap)(x dx C:Addr)(mA:cm):Prop where
 obj:h.get? x=some (instObj C dx)
 ns:h.Ns1 dx mA
 ne:dx≠x
def Ej {D:Addr}{M:cm}(n:h.Ns1 D M):∃d,h.get? D=some d/\∀name,lookIn name d=some (M name):=by
 obtain⟨o,E,p,c,hd,f,_,hm⟩:=n;refine⟨o,c,λname=>?_⟩;have e:=hm name;unfold nsFind findBy at e;rw[<- Array.find?_toList]at e;unfold lookIn;rw[hd];dsimp only
 split
 ·rename_i y q
  rw[q]at e;exact congrArg some e
 ·rename_i q
  rw[q]at e;have a:E.toList.any (·.refKey)=false:=by
   rw[List.any_eq_false];intro y b;obtain⟨z,t,H⟩:=f y (Array.mem_toList_iff.mp b);simp[DictEntry.refKey,H]
  have A:¬E.toList.any (·.refKey)=true:=by rw[a];exact az
  rw[aj A];exact congrArg some e
def US.look {x d C:Addr}{M:cm}(I:US h x d C M):∃o,PySem.W.InstAt h x (instObj C d) C (some o)/\∀name,lookIn name o=some (M name):=
 let ⟨o,H,l⟩:=Ej I.ns
 ⟨o,⟨I.obj,rfl,rfl,H⟩,l⟩
def gN.some_of {v:V}{o:cb}(r:gN (some v) o):∃u,o=some u/\RelV v u:=by
 cases o with
 |none=>exact(show False from r).elim|some u=>exact⟨u,rfl,r⟩
section
variable {H:Hp}{C dx:Addr}{fs:List (Str×V)}
def CA (hok:jL P w H h)(e:H a=some (.ins C dx fs)):∃M,US h a dx C M/\(∀f,gN (fs.lookup f) (M f))/\PySem.Within M (fs.map (·.1))/\fs.length<=1000/\H dx=some (.own a):=by
 obtain⟨d,z,ne,ob,M,n,r,q⟩:=(show jd P w H h a (.ins C dx fs) from hok a _ e)
 exact⟨M,⟨ob,n,ne⟩,r,q,z,d⟩
end
structure wN (K:Frag)(C:Addr):Prop where
 pg:plainGet K C Str.empty=true
 hd:PySem.W.hasDictIn K C=true
 po:PySem.W.plainOver K C=true
 sa:PySem.W.findIn K (.ref C) "__setattr__"=some (some (.builtin "object.__setattr__"))
def wN.get {K:Frag}{C:Addr}(c:wN K C)(f:Str):plainGet K C f=true:=c.pg
section
variable {X:Cx}{σ:St}{H:Hp}{A:Around}{c:Value}{b:Bool}
inductive wY (K:Frag)(H:Hp):V->Value->Prop where
 |non:wY K H .non (.type "NoneType")
 |bl (x:Bool):wY K H (.bl x) (.type "bool")
 |int (i:Int):wY K H (.int i) (.type "int")
 |str (x:Str):wY K H (.str x) (.type "str")
 |flt (x:UInt64):wY K H (.flt x) (.type "float")
 |lst {a:Addr} {xs:List V} (e:H a=some (.lst xs)):wY K H (.ref a) (.type "list")
 |frz {a:Addr} {o:Obj} {xs:List V} (e:H a=some (.frz o (.lst xs))):wY K H (.ref a) (.type "list")
 |tup {a:Addr} {xs:List V} (e:H a=some (.tup xs)):wY K H (.ref a) (.type "tuple")
 |dK {a:Addr} {kvs:List (Key×V)} (e:H a=some (.dK kvs)):wY K H (.ref a) (.type "dict")
 |dT {a:Addr} {kvs:List (List Key×V)} (e:H a=some (.dT kvs)):wY K H (.ref a) (.type "dict")
 |ins {a C dx:Addr} {fs:List (Str×V)} (e:H a=some (.ins C dx fs)) (cl:wN K C) (ha:PySem.W.findIn K (.ref C) "__class__"=some (some (.builtin "object.__class__")))
   (hn:PySem.W.specialIn K (.builtin "object.__class__") "__get__"=some (some (.builtin "getset_descriptor.__get__"))) (htk:PySem.W.takesIn K (.builtin "object.__class__")=some true)
   (hm:PySem.W.mroIn K C (.type "object")=some true):wY K H (.ref a) (.ref C)
def R4 {x:V}{t:Value}(I:Inv X pins σ H s)(r:RelV x u)(ty:wY X.K H x t)(e:kitOne X.K t c=some b)(h:∀tk,Q (.bool b) { s with toks:=tk }):
  wpAny (model X.prog X.w) A (call (.builtin "isinstance") [u,c]) Q E s:=by
 cases ty with
 |non=>cases (show u=Value.none from r);exact bD kitx_none I.kIn True.intro e (λz=>nomatch z) h
 |bl y=>cases (show u=Value.bool y from r);exact bD kitx_bool I.kIn True.intro e (λz=>nomatch z) h
 |int i=>obtain⟨t,q⟩:=(show ∃t,u=Value.int i t from r);cases q;exact bD kitx_int I.kIn True.intro e (λz=>nomatch z) h
 |str y=>obtain⟨t,q⟩:=(show ∃t,u=Value.str y t from r);cases q;exact bD kitx_str I.kIn True.intro e (λz=>nomatch z) h
 |flt y=>obtain⟨t,q⟩:=(show ∃t,u=Value.float y t from r);cases q;exact bD kitx_float I.kIn True.intro e (λz=>nomatch z) h
 |@lst a xs ea=>
  cases (show u=Value.ref a from r)
  obtain⟨_,_,n,_,d⟩:=(show jd X.prog X.w H s.heap a (.lst xs) from I.hok a _ ea)
  exact bD kitx_list I.kIn ⟨_,d,rfl⟩ e (λz=>nomatch z) h
 |@frz a ob xs ea=>
  cases (show u=Value.ref a from r)
  obtain⟨_,_,_,n,_,d⟩:=(show jd X.prog X.w H s.heap a (.frz ob (.lst xs)) from I.hok a _ ea)
  exact bD kitx_list I.kIn ⟨_,d,rfl⟩ e (λz=>nomatch z) h
 |@tup a xs ea=>
  cases (show u=Value.ref a from r)
  obtain⟨_,_,_,p⟩:=(show jd X.prog X.w H s.heap a (.tup xs) from I.hok a _ ea)
  obtain⟨o,d,f,_⟩:=p;exact bD kitx_tuple I.kIn ⟨o,d,f.1⟩ e (λz=>nomatch z) h
 |@dK a kvs ea=>
  cases (show u=Value.ref a from r)
  obtain⟨_,_,vs,_,p⟩:=(show jd X.prog X.w H s.heap a (.dK kvs) from I.hok a _ ea)
  obtain⟨o,l,v,d,f,_⟩:=p;exact bD kitx_dict I.kIn ⟨o,d,f.1⟩ e (λz=>nomatch z) h
 |@dT a kvs ea=>
  cases (show u=Value.ref a from r)
  obtain⟨_,_,xs,_,o,l,v,d,f,_⟩:=(show jd X.prog X.w H s.heap a (.dT kvs) from I.hok a _ ea)
  exact bD kitx_dict I.kIn ⟨o,d,f.1⟩ e (λz=>nomatch z) h
 |@ins a C dx fs ea cl j hn g hm=>
  cases (show u=Value.ref a from r)
  obtain⟨M,O,_⟩:=CA I.hok ea;obtain⟨B,J,_⟩:=O.look;exact bD (PySem.W.kitx_own (cl.get _) cl.hd j hn g hm) I.kIn J e (λz=>nomatch z) h
end
structure jq (k:Nat)(A:Around):Prop where
 hd:A.handled=none
 dp:A.depth+3 * k+5<recursionLimit
 un:A.units+16 * k+200<cLine
def jq.mono {k:Nat}{A:Around}(r:jq k A)(h:j<=k):jq j A:=⟨r.hd,by have:=r.dp;omega,by have:=r.un;omega⟩
theorem jq.deeper {k:Nat}{A:Around}(r:jq (k+1) A)(env:Env):jq k (A.deeper env):=
 ⟨r.hd,by have:=r.dp;show A.depth+1+3 * k+5<_;omega,by have:=r.un;show A.units+3+16 * k+200<_;omega⟩
theorem jq.depth {k:Nat}{A:Around}(r:jq k A):A.depth<recursionLimit:=by have:=r.dp;omega
theorem jq.units {k:Nat}{A:Around}(r:jq k A):A.units+64<cLine:=by have:=r.un;omega
noncomputable def UM:TA:=λ_ H Q=>Q [] H
noncomputable def Gu (t:TE)(tr:TA):TA:=λσ H Q=>t σ H λx H1=>tr σ H1 λxs h=>Q (x::xs) h
section
variable {X:Cx}{es:cg}{te:TE}{t:TA}
def jZ:PA X [] UM:=λ_ _ _ _ H Q I h=>Calls.spliced_nil ⟨[],H,I,.nil,h⟩
def jk (f:PE X e te)(d:PA X es t)(c:starEach (e::es) X.env=(false,eval e X.env)::starEach es X.env:=by rfl):PA X (e::es) (Gu te t):=by
 intro pos pins s σ H Q I h;rw[c];show wpAny _ _ (spliced ((false,eval e X.env)::backTo pos (starEach es X.env))) _ _ s;refine Calls.spliced_cons (zU (f pins s σ H _ I h) λu s1 ⟨x,H1,g,a,b⟩=>?_);exact zU (d pos pins s1 σ H1 _ g b) λus s2 ⟨xs,j,i,r,q⟩=>⟨x::xs,j,i,.cons a r,q⟩
def dD (t:TA):TE:=λσ H Q=>t σ H λxs H1=>xs.length<=sizeLine/\∀p,H1 p=none->Q (.ref p) (upd H1 p (.tup xs))
def dE (t:TA):TE:=λσ H Q=>t σ H λxs H1=>xs.length<=sizeLine/\∀p,H1 p=none->Q (.ref p) (upd H1 p (.lst xs))
def Nk {x1}(h:PA X es t):PE X (.Tuple es x1 pos) (dD t):=by
 intro pins s σ H Q I a;refine wpAny_Tuple_spliced (zU (h pos pins s σ H _ I a) λus s1 ⟨xs,H1,i,r,z,q⟩=>⟨by rw[<- r.length];exact z,?_⟩)
 have hf:H1 s1.heap.objs.size=none:=i.hok.fresh (ar _);refine⟨.ref s1.heap.objs.size,upd H1 s1.heap.objs.size (.tup xs),i.laid (t':=s1.toks) (λb u e=>af _ e) (ar _) ?_,rfl,q _ hf⟩;exact⟨z,us,r,⟨_,av _ rfl,⟨rfl,rfl⟩,_,rfl⟩⟩
def dF (h:PA X es t):PE X (.List es pos) (dE t):=by
 intro pins s σ H Q I a;refine wpAny_List_spliced (zU (h pos pins s σ H _ I a) λus s1 ⟨xs,H1,i,r,z,q⟩=>⟨by rw[<- r.length];exact z,?_⟩)
 have hf:H1 s1.heap.objs.size=none:=i.hok.fresh (ar _);refine⟨.ref s1.heap.objs.size,upd H1 s1.heap.objs.size (.lst xs),i.laid (t':=s1.toks) (λb u e=>af _ e) (ar _) ?_,rfl,q _ hf⟩;exact⟨z,us,0,r,av _ rfl⟩
end
abbrev Sp:=List V->Hp->VK->XK->Prop
abbrev gq:=List Env->Hp->Shared->XK->Value->Shared->Prop
structure Yl (P:Program)(w:World)(K:Frag)(mg:cm)(base:Heap)(A:Around)(outer:cn)(s:Shared)(H:Hp):Prop where
 frames:A.frames=some outer
 mod:Mod K mg base
 bs:∀b o,base.get? b=some o->s.heap.get? b=some o/\H b=none
 bsz:base.objs.size<=s.heap.objs.size
 funs:s.heap.FunFrames base outer
 frf:∀b∈qK outer,H b=none
 hok:jL P w H s.heap
 bare:AllBare s.gens
inductive CE (outer:cn)(P:Program)(w:World)(H:Hp)(s:Shared)(Q:VK)(u:Value)(s':Shared):Prop
 |mk (v:V) (H':Hp) (os:s'.os=s.os) (b:AllBare s'.gens) (un:Un (qK outer) [] H H' s.heap s'.heap) (hk:jL P w H' s'.heap) (r:RelV v u) (q:Q v H')
def CR (C:gq)(outer:cn)(P:Program)(w:World)(H:Hp)(s:Shared)(Q:VK)(E:XK)(r:Result)(s':Shared):Prop:=
 match r with
 |.ok (.ret u)=>CE outer P w H s Q u s'|.ok _=>False|.error e=>C outer H s E e s'
structure yY (P:Program)(w:World)(K:Frag)(mg:cm)(base:Heap)(CX:gq)(k:Nat)(f:Addr)(fd:FuncData)(ps:cc)(sp:Sp):Prop where
 len:∀vs H Q E,sp vs H Q E->vs.length=ps.length
 run:∀(A:Around)(outer:cn)(s:Shared)(H:Hp)(args:Args)(us:bY)(vs:List V)(Q:VK)(E:XK),jq k A->Yl P w K mg base A outer s H->BindsTo s fd args (ps.zip us)->Vals vs us->sp vs H Q E->
  codeAny (model P w) A (.call (.ref f) args) (CR CX outer P w H s Q E) s
theorem yY.mono {K:Frag}{C:gq}{k:Nat}{sp:Sp}(F:yY P w K mg base C j f fd ps sp)(h:j<=k):
  yY P w K mg base C k f fd ps sp:=⟨F.len,λA outer s H args us vs Q E r=>F.run A outer s H args us vs Q E (r.mono h)⟩
def yY.imp {K:Frag}{C:gq}{k:Nat}{sp S:Sp}(F:yY P w K mg base C k f fd ps sp)
  (h:∀vs H Q E,S vs H Q E->sp vs H Q E):yY P w K mg base C k f fd ps S:=
 ⟨λvs H Q E q=>F.len vs H Q E (h _ _ _ _ q),λA outer s H args us vs Q E r he b v a=>F.run A outer s H args us vs Q E r he b v (h _ _ _ _ a)⟩
section
variable {X:Cx}{σ:St}{H:Hp}
def Inv.env0 (I:Inv X pins σ H s):Yl X.prog X.w X.K X.mg X.base X.A X.stack s H:=
 ⟨I.ok.frames,I.ok.mod,I.bs,bt I.ok.bsz I.sz,I.stack,I.stkFree,I.hok,I.bare⟩
def Inv.after {Q:VK}(I:Inv X pins σ H s)(h:CE X.stack X.prog X.w H s Q u s'):EP X pins σ Q u s':=by
 obtain⟨v,c,os,bare,un,hok,r,q⟩:=h;obtain⟨a,g,d,t,o⟩:=s';obtain rfl:o=s.os:=os;exact⟨v,c,I.call (h':=a) (g':=g) (d':=d) (t':=t) (ch:=[]) un hok bare (λb z=>absurd z (by simp)),r,q⟩
end
noncomputable def dG (sp:Sp)(d:List V)(E:XK)(t:TA):TE:=λσ H Q=>t σ H λvs H1=>sp (vs++d) H1 Q E
def Binds (K:Frag)(fd:FuncData)(ps:cc)(ds:bY):Prop:=
 ∀(s:Shared)(us:bY),K.In s.heap->(us++ds).length=ps.length->BindsTo s fd ⟨us,[]⟩ (ps.zip (us++ds))
def Binds.all {K:Frag}(h:∀us:bY,us.length=ps.length->bindArgs fd ⟨us,[]⟩=pure (ps.zip us)):Binds K fd ps []:=λs us _ H=>by
 rw[bH]at H ⊢;exact .of_eq (h us H)
def Passes (C:gq)(X:Cx)(E:XK):Prop:=∀(pins:b8)(σ:St)(H:Hp)(s:Shared)(e:Value)(s':Shared),Inv X pins σ H s->C X.stack H s E e s'->X.xe e s'
section
variable {X:Cx}{CX:gq}{k:Nat}{sp:Sp}{dvs:List V}{ds:bY}{E:XK}{es:cg}{t:TA}
def Aw {σ:St}{H:Hp}{Q:VK}{vs:List V}(F:yY X.prog X.w X.K X.mg X.base CX k f fd ps sp)(b:jq k X.A)(c:Binds X.K fd ps ds)(hd:Vals dvs ds)(x:Passes CX X E)
  (I:Inv X pins σ H s)(r:Vals vs us)(h:sp (vs++dvs) H Q E):wpAny (model X.prog X.w) X.A (call (.ref f) us) (EP X pins σ Q) X.xe s:=by
 have a:Vals (vs++dvs) (us++ds):=r.append hd;have l:(us++ds).length=ps.length:=by rw[<- a.length];exact F.len _ _ _ _ h
 refine wpAny_call (codeAny_mono (F.run X.A X.stack s H ⟨us,[]⟩ (us++ds) (vs++dvs) Q E b I.env0 (c s us I.kIn l) a h) λr s' q=>?_);cases r with
 |error e=>exact x pins σ H s e s' I q|ok d=>
  cases d with
  |ret u=>exact I.after q|next=>exact False.elim q|brk=>exact False.elim q|cont=>exact False.elim q
def OT (F:yY X.prog X.w X.K X.mg X.base CX k f fd ps sp)(c:jq k X.A)(g:Gl X x)(hm:X.mg x=some (.ref f))(d:keepIn X.K (.ref f)=true)(j:Binds X.K fd ps ds)(hd:Vals dvs ds)(a:Passes CX X E)
  (n:PA X (e::es) t)(b:(x==("__debug__":Str))=false:=by decide)(he:starEach (e::es) X.env=(false,eval e X.env)::starEach es X.env:=by rfl)(l:(backTo pos (starEach es X.env)).any (·.1)=false:=by rfl):
  PE X (.Call (.Name x p) (e::es) [] pos) (dG sp dvs E t):=by
 intro pins s σ H Q I h;refine wpAny_Call_Name_kw (Y2 I g hm ?_ b);refine callWith_K (h₀:=X.base) I.ok.mod.kin d (zU (n pos pins s σ H _ I h) λus s1 ⟨vs,H1,i,r,q⟩=>⟨i.kIn,?_⟩) he l;exact Aw F c j hd a i r q
end
structure jc (N P:cc)(sc:Scope):Prop where
 kind:sc.kind=.function
 co:sc.isCoroutine=false
 gen:sc.isGenerator=false
 nd:N.Nodup
 pre:N.take P.length=P
 par:∀x∈P,sc.names.lookup x=some .local∨sc.names.lookup x=some .cell
 nofree:∀y∈sc.names,y.2≠.free
theorem RR {kindOf:Str->Option NameKind}:∀{binds:List (Str×Value)}{m:cm},(∀v,(x,v)∉binds)->bindL kindOf binds m x=m x
 |[],_,_=>rfl|(n,v)::r,m,h=>by
  unfold bindL;rw[RR λw hw=>h w (au _ hw)]
  split
  ·have:x≠n:=by rintro rfl;exact h v ax
   simp[this]
  ·rfl
theorem RP {kindOf:Str->Option NameKind}:∀{binds:List (Str×Value)}{m:cm},(∀v,(x,v)∉binds)->bindC kindOf binds m x=m x
 |[],_,_=>rfl|(n,v)::r,m,h=>by
  unfold bindC;rw[RP λw hw=>h w (au _ hw)]
  split
  ·rfl
  ·have:x≠n:=by rintro rfl;exact h v ax
   simp[this]
theorem RH {kindOf:Str->Option NameKind}{v:Value}:∀{P:cc}{vs:bY}{i:Nat}{m:cm},P.Nodup->P[i]? =some x->vs[i]? =some v->kindOf x=some .local->
  bindL kindOf (P.zip vs) m x=some v
 |[],_,_,_,_,h,_,_=>by simp at h|_::_,[],_,_,_,_,h,_=>by simp at h|p::P,w::vs,0,m,nd,h1,H,a=>by
  simp at h1 H;subst h1;subst H;show bindL kindOf ((p,w)::P.zip vs) m p=_;unfold bindL;rw[RR λv b=>(List.nodup_cons.mp nd).1 (of_mem_zip b).1,ag a];simp
 |p::P,w::vs,i+1,m,nd,h1,H,a=>by
  show bindL kindOf ((p,w)::P.zip vs) m x=_;unfold bindL;exact RH (i:=i) (List.nodup_cons.mp nd).2 (by simpa using h1) (by simpa using H) a
theorem RK {kindOf:Str->Option NameKind}{v:Value}:∀{P:cc}{vs:bY}{i:Nat}{m:cm},P.Nodup->P[i]? =some x->vs[i]? =some v->kindOf x≠some .local->
  bindC kindOf (P.zip vs) m x=some v
 |[],_,_,_,_,h,_,_=>by simp at h|_::_,[],_,_,_,_,h,_=>by simp at h|p::P,w::vs,0,m,nd,h1,H,a=>by
  simp at h1 H;subst h1;subst H;show bindC kindOf ((p,w)::P.zip vs) m p=_;unfold bindC;rw[RP λv b=>(List.nodup_cons.mp nd).1 (of_mem_zip b).1,aj a];simp
 |p::P,w::vs,i+1,m,nd,h1,H,a=>by
  show bindC kindOf ((p,w)::P.zip vs) m x=_;unfold bindC;exact RK (i:=i) (List.nodup_cons.mp nd).2 (by simpa using h1) (by simpa using H) a
noncomputable def start (N:cc)(vs:List V):St:=vs.map some++List.replicate (N.length-vs.length) none
noncomputable def wX (C:gq)(P:Program)(w:World)(K:Frag)(mg:cm)(base:Heap)(N:cc)(qual:Str)(scope:Scope)(f:Addr)(cd:Value)(A:Around)(outer:cn)(s:Shared)(H:Hp)(E:XK):Cx where
 prog:=P
 w:=w
 K:=K
 mg:=mg
 base:=base
 A:=A.deeper (envOfC qual scope s.heap.objs.size f cd)
 N:=N
 s0:=s
 H0:=H
 env:=envOfC qual scope s.heap.objs.size f cd
 outer:=outer
 stack:=envOfC qual scope s.heap.objs.size f cd::outer
 ex:=[]
 calm:=true
 fn:=λ_=>true
 pn:=[]
 xe:=λe s'=>wpAny (model P w) (A.deeper (envOfC qual scope s.heap.objs.size f cd)) (leaving (envOfC qual scope s.heap.objs.size f cd) e) (λ_ S=>C outer H s E e S) (λa S=>C outer H s E a S) s'
def PD (h:sc.names.lookup x=some .cell):∃c,(cellsFrom n sc.names []).lookup x=some c:=by
 have q:=cellsFrom_some sc.names n [] (.inl h);exact Option.isSome_iff_exists.mp q
def FP {X:gq}{K:Frag}{cd:Value}{A:Around}{outer:cn}{s1:Shared}{H:Hp}{E:XK}{vs:List V}
  (S:jc N ps scope)(hd:A.handled=none)(g:Yl P w K mg base A outer s H)(Q:vs.length=ps.length)(r:Vals vs us)
  (x:InCallC s s.heap.objs.size (bindL (envOfC qual scope s.heap.objs.size f cd).kindOf (ps.zip us) λ_=>none) (cellsFrom (s.heap.objs.size+1) scope.names []) (bindC (envOfC qual scope s.heap.objs.size f cd).kindOf (ps.zip us) λ_=>none) s1):
  Inv (wX X P w K mg base N qual scope f cd A outer s H E) [] (start N vs) H s1:=by
 have L:ps.length<=N.length:=by have:=congrArg List.length S.pre;rw[bU]at this;omega
 obtain⟨C,tk,rfl,I⟩:=x.done;have j:∀b:Addr,b∉(wX X P w K mg base N qual scope f cd A outer s H E).ex:=λb z=>absurd (show b∈([]:bZ) from z) (by simp)
 refine⟨⟨g.mod,S.kind,rfl,rfl,ar _,λy z c C d=>?_,λy l=>?_,λy c _ h=>?_,λ_=>hd,Around.frames_deeper g.frames,.inr ⟨rfl,rfl⟩,λb z=>absurd z (j b),g.bs,g.bsz,λb _ _=>j b,λb z=>absurd z (j b),g.funs,g.frf⟩,
  rfl,g.bare,Un.kept I,⟨_,x.toInCall.ns,λi y v C d T=>?_⟩,λy c h=>⟨_,x.cell y c h⟩,g.hok.fresh (ar _),λy c h=>?_,λp t=>absurd (show p∈([]:b8) from t) (by simp),g.hok.kept I,?_⟩
 ·exact name_of_addr x.apart (PySem.mem_of_lookup C) (PySem.mem_of_lookup d)
 ·have l:scope.names.lookup y=some .cell∨scope.names.lookup y=some .free:=l
  rcases l with l|l
  ·exact PD l
  ·exact absurd rfl (S.nofree _ (PySem.mem_of_lookup l))
 ·exact bA (x.above y c (PySem.mem_of_lookup h))
 ·have B:i<vs.length:=by
   unfold start at d
   by_cases B:i<vs.length
   ·exact B
   ·rw[aq (by simpa using B)]at d
    rw[bC]at d
    split at d<;>cases d
  have M:vs[i]? =some v:=by
   unfold start at d;rw[ah (by simpa using B),ao]at d
   cases e:vs[i]? with
   |none=>rw[e]at d;cases d|some a=>rw[e]at d;cases d;rfl
  obtain⟨u,D,J⟩:=r.get M;have t:ps[i]? =some y:=by
   rw[<- S.pre,List.getElem?_take_of_lt (by omega)];exact C
  have o:ps.Nodup:=by rw[<- S.pre];exact S.nd.sublist (List.take_sublist _ _)
  refine⟨u,J,?_⟩;rcases S.par y (bB t) with k|k
  ·exact .inl ⟨k,RH o t D k⟩
  ·obtain⟨c,e⟩:=PD (n:=s.heap.objs.size+1) k
   refine .inr ⟨.inl k,c,e,?_⟩;have q:=x.cell y c e;rw[RK o t D (by show scope.names.lookup y≠_;rw[k];decide)]at q
   exact q
 ·exact g.hok.fresh (bA (x.above y c (PySem.mem_of_lookup h)))
 ·unfold start
  show _=N.length;rw[ay,ai,bj];omega
def UB {C:gq}{K:Frag}{k:Nat}{name:Str}{params:Arguments}{D kV doc pm c ct M:Value}{an L:cw}
  {sp:Sp}(lk:K.lookup f=some ⟨M,L,.func (fnOf name qual params body scope D kV doc pm an c ct),osl⟩)(B:codeIn K c qual=true)(S:jc N ps scope)
  (len:∀vs H Q E,sp vs H Q E->vs.length=ps.length)
  (g:∀(A:Around)(outer:cn)(s:Shared)(H:Hp)(vs:List V)(Q:VK)(E:XK),jq k (A.deeper (envOfC qual scope s.heap.objs.size f c))->sp vs H Q E->
   ∃t,yT (wX C P w K mg base N qual scope f c A outer s H E) body t/\t { nx:=λ_ h=>Q .non h,rt:=Q } (start N vs) H):
  yY P w K mg base C (k+1) f (fnOf name qual params body scope D kV doc pm an c ct) ps sp:=by
 refine⟨len,λA outer s H args us vs Q E z j hb r p=>?_⟩;have Z:=len _ _ _ _ p;have X:K.In s.heap:=j.mod.kin.keeps λb o e=>(j.bs b o e).1;have lim:s.heap.NoLimit:=j.mod.nolimit.keeps λb o e=>(j.bs b o e).1;have d:∀y∈ps.zip us,scope.names.lookup y.1=some .local∨(scope.names.lookup y.1=some .cell/\((cellsFrom (s.heap.objs.size+1) scope.names []).lookup y.1).isSome=true):=λ⟨n,v⟩ T=>by
  rcases S.par n (of_mem_zip T).1 with q|q
  ·exact .inl q
  ·exact .inr ⟨q,cellsFrom_some _ _ _ (.inl q)⟩
 refine codeAny_call_function z.depth (X _ _ lk) rfl S.co S.gen rfl (PySem.W.codeRec_of X B) (hb _ _ _ _ ?_);refine wpAny_newFunctionEnv_cells S.kind d λenv he s1 x=>?_;subst he;refine⟨lim.keeps x.toInCall.keep,codeAny_func ?_⟩;obtain⟨t,U,Y⟩:=g A outer s H vs Q E (z.deeper _) p;have I:Inv (wX C P w K mg base N qual scope f c A outer s H E) [] (start N vs) H s1:=FP S z.hd j Z r x;refine wpAny_mono (U [] s1 (start N vs) H _ I Y) (λfl s' i=>?_) λe s' i=>i;have fin:∀{a:St}{h:Hp}{v:V}{u:Value},Inv (wX C P w K mg base N qual scope f c A outer s H E) [] a h s'->RelV v u->Q v h->CE outer P w H s Q u s':=
  λ {a h v u} J l q=>⟨v,h,J.os,J.bare,J.base,J.hok,l,q⟩
 cases fl with
 |ret u=>
  obtain⟨v,a,h,J,l,q⟩:=i;exact fin J l q
 |next=>
  obtain⟨a,h,J,q⟩:=i;exact fin (v:=V.non) (u:=Value.none) J rfl q
 |brk=>
  obtain⟨_,_,_,q⟩:=i;exact False.elim q
 |cont=>
  obtain⟨_,_,_,q⟩:=i;exact False.elim q
section
variable {X:Cx}{es:cg}{t:TA}{id T:String}{r:List V->Hp->VK->Prop}
noncomputable def GY (r:List V->Hp->VK->Prop)(t:TA):TE:=λσ H Q=>t σ H λvs H1=>r vs H1 Q
def ZK (c:j3 X (.builtin id) r)(g:Gl X x)(hm:X.mg x=none)(v:bootBuiltins x=some (.builtin id))(d:PA X (e::es) t)(hn:x ≠ "__name__":=by decide)(b:(x==("__debug__":Str))=false:=by decide)
  (he:starEach (e::es) X.env=(false,eval e X.env)::starEach es X.env:=by rfl)(l:(backTo pos (starEach es X.env)).any (·.1)=false:=by rfl):PE X (.Call (.Name x p) (e::es) [] pos) (GY r t):=by
 intro pins s σ H Q I h;refine wpAny_Call_Name_kw (Zg I g hm v ?_ hn b);exact PyProof.Rows.callWith_builtin1 (zU (d pos pins s σ H _ I h) λus s1 ⟨vs,H1,i,a,q⟩=>c pins s1 σ H1 vs us Q i a q) he l
def JL (c:j3 X (.type T) r)(g:Gl X x)(hm:X.mg x=none)(v:bootBuiltins x=some (.type T))(d:PA X (e::es) t)(hn:x ≠ "__name__":=by decide)(b:(x==("__debug__":Str))=false:=by decide)
  (he:starEach (e::es) X.env=(false,eval e X.env)::starEach es X.env:=by rfl)(l:(backTo pos (starEach es X.env)).any (·.1)=false:=by rfl):PE X (.Call (.Name x p) (e::es) [] pos) (GY r t):=by
 intro pins s σ H Q I h;refine wpAny_Call_Name_kw (Zg I g hm v ?_ hn b);exact PyProof.Rows.callWith_type1 (zU (d pos pins s σ H _ I h) λus s1 ⟨vs,H1,i,a,q⟩=>c pins s1 σ H1 vs us Q i a q) he l
end
end L2
variable {X:L2.Cx}{H:L2.Hp}{xs:List (List L2.Key×PySem.Addr×PySem.Value)}{kvs:List (List L2.Key×L2.V)}{ys:List L2.V}{r:List L2.V->L2.Hp->L2.VK->Prop}{σ:L2.St}{v:L2.V}
namespace HT
open PySem PyProof.Rows
noncomputable def lexLt:List Int->List Int->Bool
 |[],[]=>false|[],_::_=>true|_::_,[]=>false|x::xs,y::ys=>if x=y then lexLt xs ys else decide (x<y)
def Ft (x y:Int)(xs ys:bX):lexLt (x::xs) (y::ys)=if x=y then lexLt xs ys else decide (x<y):=rfl
def LV:lexLt [] []=false:=rfl
def LO (y:Int)(ys:bX):lexLt [] (y::ys)=true:=rfl
def LA (x:Int)(xs:bX):lexLt (x::xs) []=false:=rfl
def Cu (A:Around)(s:Shared)(a:Int)(t:Tok)(c:Int)(u:Tok):∃e,SeqAt.EqAt A s (.int a t) (.int c u) e/\(e=true↔a=c):=
 ⟨(a==c),SeqAt.EqAt.int_int a t c u,by simp⟩
def DA (A:Around)(s:Shared)(a:Int)(t:Tok)(c:Int)(u:Tok)(prog:Program)(w:World)(E:cf)(Q:cf)(h:Q (.bool (decide (a<c))) s):
  wpAny (model prog w) A (richCompare .Lt (.int a t) (.int c u)) Q E s:=
 (PyProof.Rows.lt_int h:wpAny (model prog w) A (compareOp .Lt (.int a t) (.int c u)) Q E s)
section
open PySem.SeqAt
open PySem.AutoSeq1 (wpAny_loadPart')
open PySem.MeetsSeq PySem.MeetsSeq2 PySem.MeetsSeq3
def L8 (l b:Addr)(items i:Array Value)(n Q:Nat)(dd I:cw)(P S:Array (cb))(ns ms:bX)(L:IntsAre items.toList ns)(K:IntsAre i.toList ms):
  Meets (Builtin.«tuple.__lt__» ⟨[.ref l,.ref b],[]⟩)
   (λ_ R s=>s.heap.get? l=some { cls:=.type "tuple",dict:=dd,data:=.seq items n,slots:=P }/\s.heap.get? b=some { cls:=.type "tuple",dict:=I,data:=.seq i Q,slots:=S }/\
    R (.ok (.ret (.bool (lexLt ns ms)))) s):=
 .of_wp λprog w A R s h=>by
  obtain⟨C,g,d,tk,os⟩:=s;obtain⟨X,Y,h⟩:=h;have f2:=AutoSeq1.sub_tuple_tuple;have z1:items.size=ns.length:=by rw[<- L.length];simp
  have Z:i.size=ms.length:=by rw[<- K.length];simp
  wp_walk using wpAny_loadPart' X,wpAny_loadPart' Y,wpAny_forIn_list _ (λrest b s'=>b.1=none/\s'=⟨C,g,d,tk,os⟩/\∃(vs ws:bY) (N M:bX),rest=vs.zip ws/\
   IntsAre vs N/\IntsAre ws M/\N.length+i.size=M.length+items.size/\R (.ok (.ret (.bool (lexLt N M)))) ⟨C,g,d,tk,os⟩) _
  case turn=>
   rintro⟨y,x⟩ rest b s' ⟨v,rfl,vs,ws,N,M,H,p,f,hlen,o⟩
   cases p with
   |nil=>rw[List.zip_nil_left]at H;cases H|cons a t B=>
    cases f with
    |nil=>rw[List.zip_nil_right]at H;cases H|cons c u z=>
     rw[List.zip_cons_cons]at H;injection H with D r
     injection D with T U
     subst T U;rw[Ft]at o;simp only[aV]at hlen;obtain⟨e,he,j⟩:=Cu A.in1 ⟨C,g,d,tk,os⟩ a t c u;refine cy (he prog w _ _ ?_);cases e with
     |true=>
      rw[ag (j.mp rfl)]at o
      wp_walk
      exact⟨rfl,rfl,_,_,_,_,r,B,z,by omega,o⟩
     |false=>
      rw[aj (λq=>absurd (j.mpr q) az)]at o;have E:=DA A.in1 ⟨C,g,d,tk,os⟩ a t c u prog w
      wp_walk using E
      exact⟨_,rfl,by simpa using o⟩
  case fin=>
   rintro⟨b1,b2⟩ s' ⟨v,rfl,vs,ws,N,M,H,p,f,hlen,o⟩
   simp only at v;subst v;have J:lexLt N M=decide (items.size<i.size):=by
    cases p with
    |nil=>
     cases f with
     |nil=>
      simp only[bF]at hlen;rw[LV];exact(aC (by omega)).symm
     |cons c u hw=>
      simp only[bF,aV]at hlen;rw[LO];exact(aB (by omega)).symm
    |cons a t J=>
     cases f with
     |nil=>
      simp only[bF,aV]at hlen;rw[LA];exact(aC (by omega)).symm
     |cons c u hw=>
      rw[List.zip_cons_cons]at H;cases H
   rw[J]at o
   wp_walk
   exact⟨_,rfl,by simpa[Builtin.Tuple.tupleCompareSizes] using o⟩
  case h=>
   exact⟨rfl,rfl,items.toList,i.toList,ns,ms,rfl,L,K,by omega,h⟩
end
section
variable {prog:Program}{A:Around}
def HF {l:Addr}{i:Array Value}{ms:bX}(f:IsTup s.heap l items)(p:IsTup s.heap b i)(g:IntsAre items.toList ns)(j:IntsAre i.toList ms)
  (u:A.units<cLine)(h:Q (.bool (lexLt ns ms)) s):wpAny (model prog w) A (compareOp .Lt (.ref l) (.ref b)) Q E s:=by
 obtain⟨⟨cls,dd,data,e⟩,o,c,n,hd⟩:=id f;obtain⟨⟨C,d,data2,S⟩,H,a,N,hd2⟩:=id p;simp only at c hd a hd2;subst c hd a hd2;exact richCompare_meets_room (op:=.Lt) ⟨_,o,rfl⟩ ⟨_,H,rfl⟩ PySem.F.slot_tuple_lt PySem.F.entry_tuple_lt (PySem.F.args_tuple_lt_2 _ _) (L8 l b items i n N dd d e S ns ms g j)
  ⟨o,H,show Value.bool (lexLt ns ms)≠Value.notImplemented/\Q (.bool (lexLt ns ms)) s from ⟨(λx=>nomatch x),h⟩⟩ u
def BE {t:Addr}{ws:bY}(a:IsTup s.heap t vs.toArray)(f:IsTup s.heap b ws.toArray)(v:vs≠[])
  (i:ws=[]->Q (.ref t) s)(g:ws≠[]->Q (.ref s.heap.objs.size) { s with heap:=s.heap.push { cls:=.type "tuple",data:=.seq (vs++ws).toArray } })
  (hsz:vs.length+ws.length<=sizeLine):wpAny (model prog w) A (binaryOp .Add (.ref t) (.ref b)) Q E s:=by
 obtain⟨⟨cls,dd,data,l⟩,o,c,n,hd⟩:=id a;obtain⟨⟨C,d,data2,S⟩,h,H,N,hd2⟩:=id f;simp only at c hd H hd2;subst c hd H hd2;have e:vs.toArray++ws.toArray=(vs++ws).toArray:=by simp
 by_cases hw:ws=[]
 ·exact concat_meets ⟨_,o,rfl⟩ ⟨_,h,rfl⟩ noFill_tuple_add seq_tuple_add slot_tuple_add entry_tuple_add (args_tuple_add_2 _ _)
   (tuple_addW1 t b vs.toArray ws.toArray n N dd d l S (by simpa using v) (by simp[hw])) ⟨o,h,i hw⟩
 ·refine concat_meets ⟨_,o,rfl⟩ ⟨_,h,rfl⟩ noFill_tuple_add seq_tuple_add slot_tuple_add entry_tuple_add (args_tuple_add_2 _ _)
   (tuple_addW2 t b vs.toArray ws.toArray n N dd d l S (by simpa using v) (by simpa using hw) (by rw[aF,aF];exact hsz)) ⟨o,h,?_⟩
  rw[e];exact g hw
noncomputable def kB (n d:Nat):Option Int->Nat
 |none=>d|some v=>if v<0 then(v+(n:Int)).toNat else min v.toNat n
end
end HT
namespace L2
open PySem PySem.Spec PyProof.Rows
abbrev TO:=St->Hp->(Option Int->Hp->Prop)->Prop
def PO (X:Cx)(e:Option Expr)(t:TO):Prop:=
 ∀(pins:b8)(s:Shared)(σ:St)(H:Hp)(Q:Option Int->Hp->Prop),Inv X pins σ H s->t σ H Q->
  wpAny (model X.prog X.w) X.A (evalPart e X.env) (λu s'=>∃o h,Inv X pins σ h s'/\IsPart u o/\Q o h) X.xe s
noncomputable def Bm:TO:=λ_ H Q=>Q none H
noncomputable def dH (t:TE):TO:=λσ H Q=>t σ H λx H1=>∃i,x=.int i/\Q (some i) H1
section
variable {te:TE}{lo hi:Option Expr}{tl th:TO}{p2:Pos}
def Bt:PO X none Bm:=by
 intro pins s σ H Q I h;rw[evalPart_none];exact cz ⟨none,H,I,.none,h⟩
def CV (h:PE X e te):PO X (some e) (dH te):=by
 intro pins s σ H Q I hw;rw[evalPart_some];refine zU (h pins s σ H _ I hw) λu s1 ⟨x,H1,b,r,a⟩=>?_;obtain⟨i,rfl,q⟩:=a;obtain⟨t,rfl⟩:=r;exact⟨some i,H1,b,.int i t,q⟩
def Mq (X:Cx)(r:V->Option Int->Option Int->Hp->VK->Prop):Prop:=
 ∀(pins:b8)(s:Shared)(σ:St)(H:Hp)(x:V)(v l u:Value)(lo hi:ck)(S:Addr)(Q:VK),Inv X pins σ H s->RelV x v->s.heap.IsSliceOf S l u .none->IsPart l lo->IsPart u hi->r x lo hi H Q->
  ∃T id,typeLookup (.type T) "__getitem__"=pure (some (.builtin id))/\s.TypeIs v T/\wpAny (model X.prog X.w) X.A (getItem v (.ref S)) (EP X pins σ Q) X.xe s
noncomputable def dI (r:V->Option Int->Option Int->Hp->VK->Prop)(T:TE)(t th:TO):TE:=λσ H Q=>T σ H λx H1=>t σ H1 λl a=>th σ a λu h=>r x l u h Q
def EZ {r:V->Option Int->Option Int->Hp->VK->Prop}(o:Mq X r)(he:PE X e te)(y:PO X lo tl)(n:PO X hi th):PE X (.Subscript e (.Slice lo hi none p2) pos) (dI r te tl th):=by
 intro pins s σ H Q I h;refine Subscript_ (zU (he pins s σ H _ I h) λv s1 ⟨x,H1,E,f,j⟩=>?_);refine wpAny_Slice (zU (y pins s1 σ H1 _ E j) λc s2 ⟨l,J,D,p,i⟩=>zU (n pins s2 σ J _ D i) λa s3 ⟨u,d,C,pu,g⟩=>?_);rw[evalPart_none];refine cz ?_;have B:Inv X pins σ d { s3 with heap:=s3.heap.push { cls:=.type "slice",data:=.fields #[c,a,.none] } }:=C.kept (t':=s3.toks) λb ob q=>af _ q
 obtain⟨T,id,hT,t,z⟩:=o pins { s3 with heap:=s3.heap.push { cls:=.type "slice",data:=.fields #[c,a,.none] } } σ d x v c a l u s3.heap.objs.size Q B f (Heap.IsSliceOf.new ..) p pu g
 show wpAny (model X.prog X.w) X.A (subscriptTail e (.Slice lo hi none p2) v (.ref s3.heap.objs.size)) (EP X pins σ Q) X.xe { s3 with heap:=s3.heap.push { cls:=.type "slice",data:=.fields #[c,a,.none] } }
 exact tail_any (ops:=[.ref s3.heap.objs.size,v]) t hT z (by with_unfolding_all rfl)
noncomputable def Yh (xs:List V)(lo h:ck):List V:=(xs.drop (HT.kB xs.length 0 lo)).take (HT.kB xs.length xs.length h-HT.kB xs.length 0 lo)
def Hd (xs:List V)(lo h:ck):(Yh xs lo h).length<=xs.length:=by
 unfold Yh;rw[bU,length_drop];omega
def NA (K:Frag):R2:=λx y H Q=>∃a b xs ys,x=.ref a/\y=.ref b/\qM K H a xs/\qM K H b ys/\xs≠[]/\xs.length+ys.length<=sizeLine/\
 (ys=[]->Q (.ref a) H)/\(ys≠[]->∀p,H p=none->Q (.ref p) (upd H p (.tup (xs++ys))))
def Vals.nil_iff {xs:List V}(r:Vals xs us):us=[]↔xs=[]:=by
 cases r with
 |nil=>simp|cons _ _=>simp
def CH:qX X (binaryOp .Add) (NA X.K):=by
 intro pins s σ H x y v u Q I f e h;obtain⟨a,b,xs,ys,rfl,rfl,A,t,n,d,j,g⟩:=h;cases f;cases e;obtain⟨l,c,P,_⟩:=I.tuple A;obtain⟨i,r,p,_⟩:=I.tuple t;refine HT.BE P p (λz=>n (c.nil_iff.mp z)) (λz=>⟨.ref a,H,I,rfl,j (r.nil_iff.mp z)⟩) (λz=>?_) (by rw[<- c.length,<- r.length];exact d)
 refine⟨.ref s.heap.objs.size,_,I.laid (t':=s.toks) (o:=.tup (xs++ys)) (λb ob q=>af _ q) (ar _) ?_,rfl,g (λw=>z (r.nil_iff.mpr w)) _ (I.hok.fresh (ar _))⟩;exact⟨by rw[ay];exact d,_,c.append r,Q6.new _ _⟩
end
noncomputable def gw (n:Nat)(i:Int):Option Nat:=if 0<=i then(if i<n then some i.toNat else none) else if -(n:Int)<=i then some (i+n).toNat else none
def wK (xs:List α)(i:Int):Option α:=(gw xs.length i).bind λj=>xs[j]?
def OB {i:Int}(h:gw n i=some j):seqIndex? i n=some j/\j<n/\-(n:Int)<=i/\i<n:=by
 unfold gw at h
 by_cases h0:0<=i
 ·rw[ag h0]at h
  by_cases h1:i<n
  ·rw[ag h1]at h
   have e:i.toNat=j:=aA h;exact⟨by rw[seqIndex_of h0 h1,e],by omega,by omega,h1⟩
  ·rw[aj h1]at h;cases h
 ·rw[aj h0]at h
  by_cases h1:-(n:Int)<=i
  ·rw[ag h1]at h
   have e:(i+n).toNat=j:=aA h;exact⟨by rw[seqIndex_neg (by omega) h1,e],by omega,h1,by omega⟩
  ·rw[aj h1]at h;cases h
def Vv {xs:List α}{i:Int}{v:α}(h:wK xs i=some v):∃j,seqIndex? i xs.length=some j/\xs[j]? =some v/\j<xs.length/\-(xs.length:Int)<=i/\i<xs.length:=by
 unfold wK at h;cases e:gw xs.length i with
 |none=>rw[e]at h;cases h|some j=>
  rw[e]at h;obtain⟨c,b,a,H⟩:=OB e;exact⟨j,c,h,b,a,H⟩
def W2 {xs:List α}{v:α}(h:xs[j]? =some v):wK xs (j:Int)=some v:=by
 have H:j<xs.length:=(cB.mp h).1;have e:gw xs.length (j:Int)=some j:=by
  unfold gw;rw[ag (by omega),ag (by omega)];simp
 unfold wK;rw[e];exact h
def OJ (b:Expr):Prop:=∀o i,subscripted b false o i=operate [o,i] (getItem o i)
def Z1 (X:Cx)(r:R2):Prop:=
 ∀(value slice:Expr)(pins:b8)(s:Shared)(σ:St)(H:Hp)(x y:V)(v u:Value)(Q:VK),Inv X pins σ H s->RelV x v->RelV y u->r x y H Q->
  subscripted slice false v u=operate [v,u] (getItem v u)->wpAny (model X.prog X.w) X.A (subscriptTail value slice v u) (EP X pins σ Q) X.xe s
def U5 (X:Cx)(id:String)(r:V->List V->Hp->VK->Prop):Prop:=
 ∀(pins:b8)(s:Shared)(σ:St)(H:Hp)(x:V)(xs:List V)(v:Value)(us:bY)(Q:VK),Inv X pins σ H s->RelV x v->Vals xs us->r x xs H Q->
  wpAny (model X.prog X.w) X.A (call (.builtin id) (v::us)) (EP X pins σ Q) X.xe s
section
variable {a b:Expr}{ta tb:TE}
def Z1.or {r c:R2}(h:Z1 X r)(h':Z1 X c):Z1 X (λx y H Q=>r x y H Q∨c x y H Q):=by
 intro value slice pins s σ H x y v u Q I b a q d;rcases q with q|q
 ·exact h value slice pins s σ H x y v u Q I b a q d
 ·exact h' value slice pins s σ H x y v u Q I b a q d
def dJ {r:R2}(f:Z1 X r)(i:PE X a ta)(g:PE X b tb)(e:OJ b):PE X (.Subscript a b pos) (K0 r ta tb):=by
 intro pins s σ H Q I h;exact Subscript_ (UP i g I h λv u s2 x y l j d c q=>f a b pins s2 σ l x y v u Q j d c q (e _ _))
def Ma (K:Frag):R2:=λx y H Q=>∃p xs i v,x=.ref p/\y=.int i/\qW K H p xs/\wK xs i=some v/\Q v H
def NY (K:Frag):R2:=λx y H Q=>∃p xs i v,x=.ref p/\y=.int i/\qM K H p xs/\wK xs i=some v/\Q v H
def Me:R2:=λx y H Q=>∃z i c,x=.str z/\y=.int i/\z.length<=sizeLine/\wK z.cps.toList i=some c/\Q (.str ⟨#[c]⟩) H
def Bc:Z1 X (Ma X.K):=by
 intro value slice pins s σ H x y v u Q I g f h e;obtain⟨p,xs,i,z,rfl,rfl,l,he,q⟩:=h;cases g;obtain⟨t,rfl⟩:=f;obtain⟨c,r,P,C⟩:=I.list l;obtain⟨j,a,B,D,A,o⟩:=Vv he;obtain⟨w,E,b⟩:=r.get B;have n:=r.length;have hn:=J3;have fin:EP X pins σ Q w s:=⟨z,H,I,b,q⟩
 by_cases h0:0<=i
 ·have d:i.toNat=j:=by
   rw[seqIndex_of h0 o]at a;exact aA a
  exact item_listR P.isList h0 (by omega) (by rw[d];simpa using E) fin e
 ·have d:(i+(c.toArray.size:Int)).toNat=j:=by
   rw[seqIndex_neg (by omega) A]at a
   rw[aF,<- n];exact aA a
  exact subscriptTail_builtinR (x:=w) P.isList.typeIs slot_list_getitem.lookup
   (wpAny_getItem_list_neg (Q:=λr s'=>r=w/\EP X pins σ Q r s') P.isList (by omega) (by rw[aF]<;>omega) (by omega) (by rw[d];simpa using E) ⟨rfl,fin⟩) e
def dM:Z1 X (NY X.K):=by
 intro value slice pins s σ H x y v u Q I c b h e;obtain⟨p,xs,i,z,rfl,rfl,f,he,q⟩:=h;cases c;obtain⟨t,rfl⟩:=b;obtain⟨d,r,P,o⟩:=I.tuple f;obtain⟨j,n,g,C,B,A⟩:=Vv he;obtain⟨w,E,a⟩:=r.get g;have l:=r.length;have hn:=J3;have fin:EP X pins σ Q w s:=⟨z,H,I,a,q⟩;exact subscriptTail_builtinR (x:=w) P.typeIs slot_tuple_getitem.lookup
  (getItem_tuple (j:=j) (Q:=λr s'=>r=w/\EP X pins σ Q r s') P (by omega) (by omega) (by rw[aF,<- l];exact n) (by simpa using E) ⟨rfl,fin⟩) e
def dN:Z1 X Me:=by
 intro value slice pins s σ H x y v u Q I b r h d;obtain⟨z,i,c,rfl,rfl,o,he,q⟩:=h;obtain⟨t,rfl⟩:=b;obtain⟨t',rfl⟩:=r;obtain⟨j,a,g,p,f,e⟩:=Vv he;have l:z.cps.toList.length=z.length:=by simp[Str.length]
 rw[l]at a f e;have hn:=J3;exact tail_any (typeIs_str s z t) slot_str_getitem.lookup (getItem_str (c:=c) (by
  have n:decide (i < -(2 ^ 63:Int))=false:=aC (by omega)
  have E:decide (i ≥ 2 ^ 63)=false:=aC (by omega)
  rw[n,E,Bool.or_false]) (by rw[a];simpa using g) ⟨.str ⟨#[c]⟩,H,I.tok _,⟨_,rfl⟩,q⟩) d
def MD (K:Frag):R2:=λx y H Q=>Ma K x y H Q∨NY K x y H Q∨Me x y H Q
def dO:Z1 X (MD X.K):=Bc.or (dM.or dN)
def HE (i:bY)(n j:Nat)(u:Value):Obj.mapSeq (·.setIfInBounds j u) { cls:=.type "list",data:=.seq i.toArray n }={ cls:=.type "list",data:=.seq (i.set j u).toArray n }:=by
 simp[Obj.mapSeq]
theorem Inv.lst {pins:b8}{σ:St}{H:Hp}{s:Shared}{p:Addr}{xs:List V}(I:Inv X pins σ H s)(h:H p=some (.lst xs)):
  ∃(i:bY) (n:Nat),Vals xs i/\s.heap.get? p=some { cls:=.type "list",data:=.seq i.toArray n }/\xs.length<=sizeLine:=by
 obtain⟨z,i,n,r,e⟩:=I.hok p _ h;exact⟨i,n,r,e,z⟩
def Inv.lstUpd {p:Addr}{xs:List V}{its':bY}{N:Nat}{f:Obj->Obj}(I:Inv X pins σ H s)(h:H p=some (.lst xs))
  (o:s.heap.get? p=some { cls:=.type "list",data:=.seq its.toArray n })(hf:f { cls:=.type "list",data:=.seq its.toArray n }={ cls:=.type "list",data:=.seq its'.toArray N })(r:Vals ys its')(z:ys.length<=sizeLine)(t:Nat):
  Inv X pins σ (upd H p (.lst ys)) { s with heap:=s.heap.update p f,toks:=t }:=by
 have e:(s.heap.update p f).get? p=some { cls:=.type "list",data:=.seq its'.toArray N }:=by
  rw[bb f o (by rw[hf]<;>rfl),hf]
 refine I.write (x:=p) (e:=p) (by rw[h];trivial) (.inl rfl) (λb u a q=>(aQ _ _ (Ne.symm a)).trans q) ⟨_,e⟩ ?_
 exact⟨z,its',N,r,e⟩
def NN:V->V->V->Hp->(Hp->Prop)->Prop:=λo i v H Q=>∃p xs k j,o=.ref p/\i=.int k/\H p=some (.lst xs)/\gw xs.length k=some j/\Q (upd H p (.lst (xs.set j v)))
def set_list:Kw X NN:=by
 intro pins s σ H o i v B C u Q I ro y x h;obtain⟨p,xs,k,j,rfl,rfl,e,A,q⟩:=h;cases ro;obtain⟨t,rfl⟩:=y;obtain⟨a,n,r,c,z⟩:=I.lst e;obtain⟨b,D,g,f⟩:=OB A;have l:=r.length;have hn:=J3;have w:Inv X pins σ (upd H p (.lst (xs.set j v))) { s with heap:=s.heap.update p (Obj.mapSeq (·.setIfInBounds j u)) }:=
  I.lstUpd e c (HE a n j u) (r.set x j) (by rw[bP];exact z) s.toks
 by_cases h0:0<=k
 ·have d:k.toNat=j:=by
   rw[seqIndex_of h0 f]at b;exact aA b
  exact PySem.W.ki_setAt c h0 (by omega) (by rw[aF,<- l];exact f) (by rw[d];exact⟨_,w,q⟩)
 ·have d:(k+(a.toArray.size:Int)).toNat=j:=by
   rw[seqIndex_neg (by omega) g]at b
   rw[aF,<- l];exact aA b
  exact PySem.W.ki_setBack c (by omega) (by rw[aF,<- l];exact g) (by omega) (by rw[d];exact⟨_,w,q⟩)
def Iy (lo H:ck)(n:Nat):(sliceBounds lo H none n).1=((HT.kB n 0 lo:Nat):Int)/\(sliceBounds lo H none n).2.1=((HT.kB n n H:Nat):Int)/\(sliceBounds lo H none n).2.2=1:=by
 refine⟨?_,?_,rfl⟩
 ·cases lo with
  |none=>simp[sliceBounds,HT.kB]|some i=>
   simp only[sliceBounds,HT.kB,getD_none,show(1:Int) > 0 by decide,if_true]
   by_cases h:i<0
   ·simp only[h,if_true]<;>omega
   ·simp only[h,if_false]<;>omega
 ·cases H with
  |none=>simp[sliceBounds,HT.kB]|some i=>
   simp only[sliceBounds,HT.kB,getD_none,show(1:Int) > 0 by decide,if_true]
   by_cases h:i<0
   ·simp only[h,if_true]<;>omega
   ·simp only[h,if_false]<;>omega
def L9 (i:bY)(lo h:ck):slicePick i.toArray lo h none=((i.drop (HT.kB i.length 0 lo)).take (HT.kB i.length i.length h-HT.kB i.length 0 lo)).toArray:=by
 obtain⟨b,a,H⟩:=Iy lo h i.toArray.size;unfold slicePick;rw[b,a,H];simp only[sliceRange_one,pick_run,aF]<;>rfl
def dP (K:Frag):V->Option Int->Option Int->Hp->VK->Prop:=λx lo h H Q=>∃a xs,x=.ref a/\qW K H a xs/\∀p,H p=none->Q (.ref p) (upd H p (.lst (Yh xs lo h)))
def BO:Mq X (dP X.K):=by
 intro pins s σ H x v l u lo i S Q I c f p pu h;obtain⟨a,xs,rfl,e,q⟩:=h;cases c;obtain⟨d,r,t,z⟩:=I.list e;have hlen:=r.length;refine⟨"list",_,slot_list_getitem.lookup,t.isList.typeIs,?_⟩;refine wpAny_getItem_list_slice t.isList f p pu .none (by simp) ?_ (by rw[aF]<;>omega)
 rw[L9,<- hlen];refine⟨.ref s.heap.objs.size,_,I.laid (t':=s.toks) (o:=.lst (Yh xs lo i)) (λb ob q=>af _ q) (ar _) ?_,rfl,q _ (I.hok.fresh (ar _))⟩;exact⟨bt (Hd xs lo i) z,_,0,(r.drop (HT.kB xs.length 0 lo)).take (HT.kB xs.length xs.length i-HT.kB xs.length 0 lo),av _ rfl⟩
noncomputable def Zn:V->Bool
 |.non=>true|.bl _=>true|.int _=>true|.str _=>true|_=>false
noncomputable def Z8:V->V->Bool
 |.non,.non=>true|.bl a,.bl b=>a==b|.bl a,.int b=>(if a then 1 else 0)==b|.int a,.bl b=>a==(if b then 1 else 0)|.int a,.int b=>a==b|.str a,.str b=>a==b|_,_=>false
def dQ {A:Around}{y x:V}{v:Value}(c:RelV y u)(r:RelV x v)(d:Zn y=true)(f:Zn x=true):SeqAt.EqAt A s u v (Z8 y x):=by
 cases y with
 |non=>
  cases c;cases x with
  |non=>cases r;exact SeqAt.EqAt.same _|bl b=>cases r;exact SeqAt.EqAt.none_bool b|int b=>obtain⟨t,rfl⟩:=r;exact SeqAt.EqAt.none_int b t|str b=>obtain⟨t,rfl⟩:=r;exact SeqAt.EqAt.none_str b t|_=>exact absurd (show false=true from f) az
 |bl a=>
  cases c;cases x with
  |non=>cases r;exact SeqAt.EqAt.bool_none a|bl b=>cases r;exact SeqAt.EqAt.bool_bool a b|int b=>obtain⟨t,rfl⟩:=r;exact SeqAt.EqAt.bool_int a b t|str b=>obtain⟨t,rfl⟩:=r;exact SeqAt.EqAt.bool_str a b t|_=>exact absurd (show false=true from f) az
 |int a=>
  obtain⟨t',rfl⟩:=c;cases x with
  |non=>cases r;exact SeqAt.EqAt.int_none a t'|bl b=>cases r;exact SeqAt.EqAt.int_bool a t' b|int b=>obtain⟨t,rfl⟩:=r;exact SeqAt.EqAt.int_int a t' b t|str b=>obtain⟨t,rfl⟩:=r;exact SeqAt.EqAt.int_str a t' b t|_=>exact absurd (show false=true from f) az
 |str a=>
  obtain⟨t',rfl⟩:=c;cases x with
  |non=>cases r;exact SeqAt.EqAt.str_none a t'|bl b=>cases r;exact SeqAt.EqAt.str_bool a t' b|int b=>obtain⟨t,rfl⟩:=r;exact SeqAt.EqAt.str_int a t' b t|str b=>obtain⟨t,rfl⟩:=r;exact SeqAt.EqAt.str_str a t' b t|_=>exact absurd (show false=true from f) az
 |_=>exact absurd (show false=true from d) az
def Qa (x:V)(u:Value):Bool:=match u with
 |.none=>Z8 .non x|.bool b=>Z8 (.bl b) x|.int i _=>Z8 (.int i) x|.str z _=>Z8 (.str z) x|_=>false
def Nn {x y:V}(r:RelV y u)(f:Zn y=true):Qa x u=Z8 y x:=by
 cases y with
 |non=>cases r;rfl|bl b=>cases r;rfl|int i=>obtain⟨t,rfl⟩:=r;rfl|str z=>obtain⟨t,rfl⟩:=r;rfl|_=>exact absurd (show false=true from f) az
theorem VA {x:V}:∀{xs:List V}{us:bY},Vals xs us->xs.all Zn=true->us.any (Qa x)=xs.any λy=>Z8 y x
 |_,_,.nil,_=>rfl|y::xs,u::us,.cons r t,f=>by
  rw[List.all_cons,aw]at f;rw[bR,bR,Nn r f.1,VA t f.2]
theorem Vc {A:Around}{x:V}{v:Value}(a:RelV x v)(b:Zn x=true):∀{xs:List V}{us:bY},Vals xs us->xs.all Zn=true->∀u∈us,SeqAt.EqAt A s u v (Qa x u)
 |_,_,.nil,_=>λu h=>by cases h|y::xs,u::us,.cons r t,f=>λU h=>by
  rw[List.all_cons,aw]at f;rcases cA.mp h with rfl|h
  ·rw[Nn r f.1];exact dQ r a f.1 b
  ·exact Vc a b t f.2 U h
def G3 (x:V)(xs:List V):Bool:=xs.any λy=>Z8 y x
def Mj (K:Frag)(neg:Bool):R2:=λx y H Q=>∃p xs,y=.ref p/\(qW K H p xs∨qM K H p xs)/\Zn x=true/\xs.all Zn=true/\Q (.bl (if neg then !G3 x xs else G3 x xs)) H
def Ef:qX X (compareOp .In) (Mj X.K false):=by
 intro pins s σ H x y v u Q I b c h;obtain⟨p,xs,rfl,a,f,fs,q⟩:=h;cases c;rcases a with a|a
 ·obtain⟨i,r,P,z⟩:=I.list a
  refine SeqAt.in_listAt (Qa x) P.isList (λw hw=>Vc b f r fs w (by simpa using hw)) ⟨.bl _,H,I,rfl,?_⟩
  rw[show i.toArray.any (Qa x)=i.any (Qa x) by simp,VA r fs]
  exact q
 ·obtain⟨i,r,P,z⟩:=I.tuple a
  refine SeqAt.in_tupleAt (Qa x) P (λw hw=>Vc b f r fs w (by simpa using hw)) ⟨.bl _,H,I,rfl,?_⟩
  rw[show i.toArray.any (Qa x)=i.any (Qa x) by simp,VA r fs]
  exact q
def Ir:j3 X (.builtin "len") (λxs H Q=>∃p ys,xs=[.ref p]/\(qW X.K H p ys∨qM X.K H p ys)/\Q (.int ys.length) H):=by
 intro pins s σ H xs us Q I r h;obtain⟨p,ys,rfl,a,q⟩:=h;obtain⟨u,rfl,x⟩:=vals1 r;cases x;have hn:=J3;rcases a with a|a
 ·obtain⟨i,b,P,z⟩:=I.list a
  have hlen:=b.length;exact Calls.call_len_list P.isList (by simp only[aF]<;>omega) ⟨.int ys.length,H,I.tok _,⟨s.toks+1,by rw[aF,hlen]⟩,q⟩
 ·obtain⟨i,b,P,z⟩:=I.tuple a
  have hlen:=b.length;exact len_tuple P (by simp only[aF]<;>omega) ⟨.int ys.length,H,I.tok _,⟨s.toks+1,by rw[aF,hlen]⟩,q⟩
def IW:j3 X (.type "list") (λxs H Q=>∃p ys,xs=[.ref p]/\(qW X.K H p ys∨qM X.K H p ys)/\∀l,H l=none->Q (.ref l) (upd H l (.lst ys))):=by
 intro pins s σ H xs us Q I r h;obtain⟨p,ys,rfl,d,q⟩:=h;obtain⟨u,rfl,x⟩:=vals1 r;cases x;have fin:∀(its:bY),Vals ys its->ys.length<=sizeLine->∀(h':Heap)(c:Nat),(∀b o',s.heap.get? b=some o'->h'.get? b=some o')->
   h'.get? s.heap.objs.size=some { cls:=.type "list",dict:=none,data:=.seq its.toArray c,slots:=#[] }->EP X pins σ Q (.ref s.heap.objs.size) { s with heap:=h' }:=λits a z h' c kp e=>
  ⟨.ref s.heap.objs.size,_,I.laid (t':=s.toks) kp (ar _) (show jd X.prog X.w _ h' _ (.lst ys) from ⟨z,its,c,a,e⟩),rfl,q _ (I.hok.fresh (ar _))⟩
 rcases d with d|d
 ·obtain⟨its,a,P,z⟩:=I.list d
  have hlen:=a.length;obtain⟨o,f,g,n,hd⟩:=P.isList;exact call_list_seq p (.inl rfl) f g hd (λh' c kp e=>fin its a z h' c kp e) (by simp only[aF]<;>omega)
 ·obtain⟨its,a,P,z⟩:=I.tuple d
  have hlen:=a.length;obtain⟨o,f,g,n,hd⟩:=P;exact call_list_seq p (.inr rfl) f g hd (λh' c kp e=>fin its a z h' c kp e) (by simp only[aF]<;>omega)
def Ih:j3 X (.type "tuple") (λxs H Q=>∃p ys,xs=[.ref p]/\((qW X.K H p ys/\∀l,H l=none->Q (.ref l) (upd H l (.tup ys)))∨(qM X.K H p ys/\Q (.ref p) H))):=by
 intro pins s σ H xs us Q I r h;obtain⟨p,ys,rfl,h⟩:=h;obtain⟨u,rfl,x⟩:=vals1 r;cases x;rcases h with ⟨c,q⟩|⟨c,q⟩
 ·obtain⟨i,a,P,z⟩:=I.list c
  have hlen:=a.length;refine call_tuple_list P.isList (λh' kp=>?_) (by simp only[aF]<;>omega)
  have d:Inv X pins σ H { s with heap:=h' }:=I.kept (t':=s.toks) kp
  have f:Inv X pins σ (upd H h'.objs.size (.tup ys)) { s with heap:=h'.push { cls:=.type "tuple",data:=.seq i.toArray } }:=
   d.laid (t':=s.toks) (λb o e=>af _ e) (ar _) (show jd X.prog X.w _ _ _ (.tup ys) from ⟨z,i,a,Q6.new _ _⟩)
  exact⟨.ref h'.objs.size,_,f,rfl,q _ (d.hok.fresh (ar _))⟩
 ·obtain⟨i,a,P,z⟩:=I.tuple c
  exact call_tuple_same P ⟨.ref p,H,I,rfl,q⟩
def Xb (K:Frag)(T:String)(x:V)(H:Hp):Prop:=match x with
 |.str _=>T = "str"
 |.int _=>T = "int"
 |.ref p=>(T = "list" /\ ∃xs,qW K H p xs)∨(T = "tuple" /\ ∃o,K.lookup p=some o/\o.cls=.type "tuple" /\ o.dict=none)∨
   (T = "dict" /\ ((∃kvs,H p=some (.dK kvs))∨∃kvs,H p=some (.dT kvs)))∨(T = "set" /\ ∃S n,H p=some (.set S n))
 |_=>False
def AI {T:String}{x:V}{v:Value}(I:Inv X pins σ H s)(r:RelV x v)(ty:Xb X.K T x H):
  s.TypeIs v T/\∀a,v=.ref a->∃ob,s.heap.get? a=some ob/\ob.dict=none:=by
 cases x with
 |str z=>
  obtain⟨t,rfl⟩:=r;cases (show T = "str" from ty)
  exact⟨typeIs_str s z t,λ_ e=>nomatch e⟩
 |int i=>
  obtain⟨t,rfl⟩:=r;cases (show T = "int" from ty)
  exact⟨typeIs_int s i t,λ_ e=>nomatch e⟩
 |ref p=>
  cases r;rcases ty with ⟨rfl,xs,q⟩|⟨rfl,o,h,d,hd⟩|⟨rfl,h⟩|⟨rfl,S,n,h⟩
  ·obtain⟨b,_,P,_⟩:=I.list q
   refine⟨P.isList.typeIs,λa e=>?_⟩;cases e;obtain⟨o,n,e,c,hd,_⟩:=P;exact⟨o,e,hd⟩
  ·refine⟨⟨o,I.kIn p o h,d⟩,λa e=>?_⟩
   cases e;exact⟨o,I.kIn _ o h,hd⟩
  ·have z:∃o,s.heap.get? p=some o/\o.ExactDict:=by
    rcases h with ⟨kvs,h⟩|⟨kvs,h⟩
    ·obtain⟨_,_,_,_,o,_,_,e,ex,_⟩:=I.hok p _ h
     exact⟨o,e,ex⟩
    ·obtain⟨_,_,_,_,o,_,_,e,ex,_⟩:=I.hok p _ h
     exact⟨o,e,ex⟩
   obtain⟨o,e,ex⟩:=z;refine⟨⟨o,e,ex.1⟩,λa E=>?_⟩;cases E;exact⟨o,e,ex.2.1⟩
  ·obtain⟨o,_,_,_,e,ex,_⟩:=I.hok p _ h
   refine⟨⟨o,e,ex.1⟩,λa E=>?_⟩;cases E;exact⟨o,e,ex.2.1⟩
 |_=>exact False.elim ty
noncomputable def dR (K:Frag)(T:String)(r:V->List V->Hp->VK->Prop)(to:TE)(t:TA):TE:=λσ H Q=>to σ H λx H1=>Xb K T x H1/\t σ H1 λxs h=>r x xs h Q
variable {o:Expr}{es:cg}{to:TE}{t:TA}{name:Str}{apos:Pos}{T id:String}{r:V->List V->Hp->VK->Prop}
def NK (p:PlainAttrs T)(slot:Slot T name id)(y:typeOf (.builtin id)=pure (.type "method_descriptor"))(hm:U5 X id r)(j:PE X o to)(l:PA X (e::es) t)
  (b:attributeBase o name X.env (eval o X.env)=eval o X.env:=by rfl)
  (w:((backTo cpos (starEach (e::es) X.env)).all (λx=>!x.1)&&(backToKw cpos (keywordEach [] X.env)).all (λx=>x.1.isSome)
   && decide ((e::es).length+([]:cu).length+(if ([]:cu).isEmpty then 0 else 1)<30))=true:=by rfl)
  (a:(apos.endLine==cpos.line)=true:=by rfl)(g:starEach (e::es) X.env=(false,eval e X.env)::starEach es X.env:=by rfl)(n:(backTo cpos (starEach es X.env)).any (·.1)=false:=by rfl):
  PE X (.Call (.Attribute o name apos) (e::es) [] cpos) (dR X.K T r to t):=by
 intro pins s σ H Q I h;refine wpAny_Call_method_late b w a rfl (zU (j pins s σ H _ I h) λv s1 ⟨x,H1,i,c,ty,f⟩=>?_);obtain⟨z,u⟩:=AI i c ty;refine⟨T,id,p,slot,y,z,u,?_⟩;have A:=l cpos pins s1 σ H1 _ i f;rw[g]at A ⊢;refine Calls.callWith_builtin (by show(false || (backTo cpos (starEach es X.env)).any (·.1))=false;rw[n]<;>rfl) (Calls.evalArgs_plain ?_)
 exact zU A λus s2 ⟨vs,C,B,d,q⟩=>hm pins s2 σ C x vs v us Q B c d q
end
def U2 (X:Cx)(id:String)(r:V->List V->Hp->VK->Prop):Prop:=
 ∀(pins:b8)(s:Shared)(σ:St)(H:Hp)(x:V)(xs:List V)(v:Value)(us:bY)(Q:VK),Inv X pins σ H s->RelV x v->Vals xs us->r x xs H Q->
  wpAny (model X.prog X.w) X.A (call (.builtin id) (v::us)) (EP X pins σ Q) X.xe s
def Vals.one {x:V}(h:Vals [x] us):∃u,us=[u]/\RelV x u:=by
 cases h with
 |cons r t=>cases t;exact⟨_,rfl,r⟩
def Vals.two {x y:V}(h:Vals [x,y] us):∃u v,us=[u,v]/\RelV x u/\RelV y v:=by
 cases h with
 |cons r t=>exact(Vals.one t).elim λv e=>⟨_,v,by rw[e.1],r,e.2⟩
theorem Vals.zero:∀{us:bY},Vals [] us->us=[]
 |_,.nil=>rfl
theorem Vals.eraseIdx:∀{xs:List V}{us:bY}(i:Nat),Vals xs us->Vals (xs.eraseIdx i) (us.eraseIdx i)
 |_,_,_,.nil=>.nil|_,_,0,.cons _ t=>t|_,_,i+1,.cons r t=>.cons r (Vals.eraseIdx i t)
theorem Vals.rep {xs:List V}(h:Vals xs us):∀k:Nat,Vals (List.replicate k xs).flatten (List.replicate k us).flatten
 |0=>.nil|k+1=>by
  rw[bh,bh,a6,a6];exact Vals.append h (Vals.rep h k)
theorem RT:∀(l:List α)(i:Nat),(l.eraseIdx i).length<=l.length
 |[],_=>ar _|_::_,0=>le_succ _|_::r,i+1=>Nat.succ_le_succ (RT r i)
theorem foldl_rep (i:bY):∀(k:Nat)(acc:bY),
  List.foldl (λx1 x2=>x1++x2) acc.toArray (List.replicate k i.toArray)=(acc++(List.replicate k i).flatten).toArray
 |0,acc=>by simp|k+1,acc=>by
  have e:acc.toArray++i.toArray=(acc++i).toArray:=by simp
  have E:(acc++i)++(List.replicate k i).flatten=acc++(List.replicate (k+1) i).flatten:=by
   rw[bh,a6,aN]
  rw[<- E,<- foldl_rep i k (acc++i),<- e,bh,foldl_cons]
section
variable {l:Addr}{xs:List V}
def Inv.lset {its':bY}{f:Array Value->Array Value}(I:Inv X pins σ H s)(c:H l=some (.lst xs))
  (e:s.heap.get? l=some { cls:=.type "list",data:=.seq its.toArray n })(hf:f its.toArray=its'.toArray)(v:Vals ys its')(h:ys.length<=sizeLine):
  Inv X pins σ (upd H l (.lst ys)) { s with heap:=s.heap.update l (Obj.mapSeq f),toks:=t' }:=by
 have q:=PySem.IsL.update e f;rw[hf]at q;refine I.write (x:=l) (e:=l) (by rw[c];exact trivial) (.inl rfl) (λB u b a=>(aQ s.heap (Obj.mapSeq f) (Ne.symm b)).trans a) ⟨_,q⟩ ?_
 exact⟨h,its',_,v,q⟩
def Inv.lnew (I:Inv X pins σ H s)(v:Vals ys its)(h:ys.length<=sizeLine):
  Inv X pins σ (upd H s.heap.objs.size (.lst ys)) { s with heap:=s.heap.push { cls:=.type "list",data:=.seq its.toArray },toks:=t' }:=
 I.laid (λ_ _ q=>af _ q) (ar _) ⟨h,its,0,v,av _ rfl⟩
theorem Inv.fresh (I:Inv X pins σ H s):H s.heap.objs.size=none:=I.hok.fresh (ar _)
def Inv.lstM (I:Inv X pins σ H s)(h:H l=some (.lst xs)):xs.length<=sizeLine/\∃(i:bY) (n:Nat),Vals xs i/\xs.length=i.length/\s.heap.get? l=some { cls:=.type "list",data:=.seq i.toArray n }:=by
 obtain⟨z,i,n,r,e⟩:=I.hok l _ h;exact⟨z,i,n,r,r.length,e⟩
def DF (h:n<=sizeLine):Builtin.List.listTooLong n=false:=by
 unfold Builtin.List.listTooLong;exact aC (by omega)
end
section
def Bw:V->List V->Hp->VK->Prop:=λx vs H Q=>∃l xs y,x=.ref l/\vs=[y]/\H l=some (.lst xs)/\xs.length<sizeLine/\Q .non (upd H l (.lst (xs++[y])))
def RG:U2 X "list.append" Bw:=by
 intro pins s σ H x vs v us Q I b c h;obtain⟨l,xs,y,rfl,rfl,a,f,q⟩:=h;cases b;obtain⟨u,rfl,d⟩:=c.one;obtain⟨z,i,n,r,g,e⟩:=I.lstM a;refine call_meets F.slot_list_append ⟨_,e,rfl⟩ F.entry_list_append (F.args_list_append_2 _ _) (PySem.list_append l i.toArray n u (by rw[aF];omega)) ⟨e,?_⟩
 refine⟨.non,_,I.lset (its':=i++[u]) a e (by simp) (r.append (.cons d .nil)) ?_,rfl,q⟩
 rw[ay,aU];omega
def AY:V->List V->Hp->VK->Prop:=λx vs H Q=>∃l xs i k y,x=.ref l/\vs=[.int i]/\H l=some (.lst xs)/\-(2 ^ 63)<=i/\i<2 ^ 63/\seqIndex? i xs.length=some k/\xs[k]? =some y/\Q y (upd H l (.lst (xs.eraseIdx k)))
def Ci:U2 X "list.pop" AY:=by
 intro pins s σ H x vs v us Q I d f h;obtain⟨l,xs,i,k,y,rfl,rfl,c,B,A,p,j,q⟩:=h;cases d;obtain⟨u,rfl,g⟩:=f.one;obtain⟨t,rfl⟩:=g;obtain⟨z,a,n,r,o,e⟩:=I.lstM c;obtain⟨w,hw,b⟩:=r.get j;refine call_meets F.slot_list_pop ⟨_,e,rfl⟩ F.entry_list_pop (F.args_list_pop_2 _ _)
  (MeetsSeq.list_pop_at l a.toArray n i t k w (fitsIndex_both B A) (by rw[aF,<- o];exact p) (by rw[<- bM];exact hw) (by rw[aF];omega)) ⟨e,?_⟩
 refine⟨y,_,I.lset (its':=a.eraseIdx k) c e ?_ (r.eraseIdx k) ?_,b,q⟩
 ·show a.toArray.eraseIdxIfInBounds k=(a.eraseIdx k).toArray
  rw[List.eraseIdxIfInBounds_toArray]
 ·have:=RT xs k
  omega
def N9:R2:=λx y H Q=>∃l b xs zs,x=.ref l/\y=.ref b/\H l=some (.lst xs)/\H b=some (.lst zs)/\xs.length+zs.length<=sizeLine/\∀p,H p=none->Q (.ref p) (upd H p (.lst (xs++zs)))
def dS:qX X (binaryOp .Add) N9:=by
 intro pins s σ H x y v u Q I d c h;obtain⟨l,b,xs,zs,rfl,rfl,j,B,p,q⟩:=h;cases d;cases c;obtain⟨z,a,n,r,t,e⟩:=I.lstM j;obtain⟨Z,i,N,f,g,o⟩:=I.lstM B;refine PySem.P.add_list e o ?_ (by rw[aF,aF];omega)
 have E:a.toArray++i.toArray=(a++i).toArray:=by simp
 rw[E];exact⟨.ref _,_,I.lnew (t':=s.toks) (r.append f) (by rw[ay];omega),rfl,q _ I.fresh⟩
def NX:R2:=λx y H Q=>∃l k xs,x=.ref l/\y=.int k/\H l=some (.lst xs)/\-(2 ^ 63)<=k/\k<2 ^ 63/\xs.length * k.toNat<=sizeLine/\
 ∀p,H p=none->Q (.ref p) (upd H p (.lst (List.replicate k.toNat xs).flatten))
def len_rep (xs:List α)(k:Nat):(List.replicate k xs).flatten.length=k * xs.length:=by
 induction k with
 |zero=>simp|succ k i=>rw[bh,a6,ay,i,Nat.succ_mul,add_comm]
def dU:qX X (binaryOp .Mult) NX:=by
 intro pins s σ H x y v u Q I f d h;obtain⟨l,k,xs,rfl,rfl,o,B,A,c,q⟩:=h;cases f;obtain⟨t,rfl⟩:=d;obtain⟨z,i,n,r,j,e⟩:=I.lstM o;have hlen:i.toArray.size * k.toNat<=sizeLine:=by rw[aF,<- j];exact c
 have p:¬i.toArray.size * k.toNat > (2 ^ 63-1)/8:=by
  have:(sizeLine:Nat)<=(2 ^ 63-1)/8:=by decide
  omega
 have b:¬(!Builtin.List.listFitsIndex k)=true:=by
  rw[fitsIndex_both B A];exact az
 have g:¬Builtin.List.listTooLong (i.toArray.size * k.toNat)=true:=by
  rw[DF hlen];exact az
 have w:List.foldl (λx1 x2=>x1++x2) #[] (List.replicate (if i.toArray.isEmpty=true then 0 else k.toNat) i.toArray)=(List.replicate k.toNat i).flatten.toArray:=by
  have f0:∀m:Nat,List.foldl (λx1 x2=>x1++x2) #[] (List.replicate m i.toArray)=(List.replicate m i).flatten.toArray:=λm=>by
   have:=foldl_rep i m []
   rw[bp]at this;exact this
  rw[f0];cases i with
  |nil=>simp|cons a C=>rw[aj (by simp)]
 refine wpAny_binaryOp_repeat_ref (T := "list") (U := "int") (by decide) ⟨_,e,rfl⟩ (λs'=>typeIs_int s' k t) noFill_list_mul F.fills_int_mul F.slot_int_rmul repeat_list F.slot_int_index.lookup
  (call_meets F.slot_int_rmul (typeIs_int s k t) F.entry_int_rmul (F.args_int_rmul_2 _ _) (int___rmul___int_list k t l i.toArray n)
   ⟨e,rfl,⟨_,e,rfl⟩,call_meets F.slot_list_mul ⟨_,e,rfl⟩ F.entry_list_mul (F.args_list_mul_2 _ _) (AutoListH.list___mul___list_int_3 l i.toArray n k t b p g) ⟨e,?_⟩⟩)
 rw[w];exact⟨.ref _,_,I.lnew (t':=s.toks) (r.rep k.toNat) (by rw[len_rep,Nat.mul_comm];exact c),rfl,q _ I.fresh⟩
end
section
set_option maxRecDepth 100000 in
end
end L2
namespace Att
open PySem PySem.W PySem.Calls PyProof.Rows
def Li {P:Params}:∀(ns:bX)(vs:bY),WellAll P h vs (ns.map WData.int)->IntsAre vs ns:=by
 intro ns
 induction ns with
 |nil=>
  intro vs w;rw[map_nil]at w;cases w;exact .nil
 |cons n ns i=>
  intro vs w;rw[aL]at w;cases w with
  |cons a b=>
   cases a;exact .cons _ _ (i _ b)
def Eb {l:OpenLaw}(hn:l.most=some n){P:Params}{args:List WData}{vals:bY}
  (H:l.row.toRowW.claim.pre args=true)(f:WellAll P h vals args):
  ∃a vs ns,vals=[Value.ref a]/\args=[WData.list (ns.map WData.int)]/\h.get? a=some { cls:=.type "list",data:=.seq vs.toArray }/\IntsAre vs ns/\ns.length<=n:=by
 have g:WShape.hasAll [] args [.list .int]=true:=(pre_splitW H).1;have i:l.pre.holds [] { args:=args }=true:=(pre_splitW H).2;obtain⟨d,r,rfl,t,s⟩:=hasAllW_cons g;obtain rfl:=hasAllW_nil s;obtain⟨xs,rfl,p⟩:=hasW_list t;obtain⟨ns,rfl⟩:=items_int p;have hlen:ns.length<=n:=by
  unfold OpenLaw.pre at i;have e:(WTm.not (.lt (.lit (.int (n:Int))) (.len (.arg 0)))).holds [] { args:=[.list (ns.map .int)] }=true:=by
   have e:=(holds_andW i).1;rw[hn]at e;exact e
  have c:=condW_of e (w_not (w_lt w_lit (w_len_list (w_arg rfl))));rw[ai]at c;refine Nat.le_of_not_lt λq=>?_;have Q:(n:Int)<((ns.length:Nat):Int):=by omega
  first
   |(rw[aB Q]at c;exact absurd c (by decide))
   |(simp at c;omega)
 cases f with
 |cons j w=>
  cases w;cases j with
  |list o b=>exact⟨_,_,ns,rfl,rfl,o,Li ns _ b,hlen⟩
def F6 (l:OpenLaw)(args:List WData):l.row.toRowW.claim.post args (.bool true) args=true:=
 postW_of (r:=l.row.toRowW) (X:=(true==true))
  (show WShape.has [] (.bool true) .bool=true by first|rfl|decide|simp[WShape.has,WShape.arms,WShape.armsAll])
  (show(WTm.eq .res (.lit (.bool true))).value [] { args:=args,res:=some (.bool true),after:=args }=some (.bool (true==true)) from w_eq_bool (w_res rfl) w_lit) rfl
def Hm {l:OpenLaw}{q:Program}{loose:cc}{XP:(cm)->Heap->Prop}{P:World->Heap->Prop}{d:DefRec}
  (hn:l.most=some n)(e:d.params.defaults=[])
  (call:∀(w:World)(S s:Shared)(mg mb:cm)(b:Addr)(o:Obj)(pm cd doc:Value)(a:Addr)(vs:bY)(ns:bX),
   Ground q loose [] XP w S mg mb s.heap->P w s.heap->
   s.heap.get? b=some o->o.data=.func (docDef d.name d.params d.body d.scope pm cd doc)->s.heap.CodeRec cd d.name->mg d.name=some (.ref b)->
   s.heap.get? a=some { cls:=.type "list",data:=.seq vs.toArray }->IntsAre vs ns->ns.length<=n->s.gens=#[]->
   codeAny (model l.prog w) callerA (.call (.ref b) ⟨[.ref a],[]⟩) (λr s'=>r=.ok (.ret (.bool true))/\OldK s.heap s'.heap/\s'.os=s.os/\AllBare s'.gens) s):
  WalkO q loose XP P l.row.toRowW d [] (λf vs=>PySem.call f vs):=by
 intro w S s mg mb G Y b o pm cd doc B kV t hd i D g v args vals as h y j c u;obtain rfl:B=.none:=Dflts.none D e;obtain rfl:kV=.none:=Dflts.noKw D;obtain⟨a,vs,ns,rfl,rfl,H,hints,hlen⟩:=Eb hn h c;refine enter_call (codeAny_mono (call w S s mg mb b o pm cd doc a vs ns G Y t (fd_plain hd) i g H hints hlen v) λr s' p=>?_);obtain⟨rfl,A,z,x⟩:=p;exact⟨.inl ⟨.bool true,.bool true,[],rfl,λ_=>rfl,.bool true,F6 l _,λ_=>⟨List.Pairwise.nil,λ_ hm=>(nomatch hm)⟩⟩,A,z,x⟩
end Att
namespace L2
open PySem PySem.Spec PyProof.Rows
theorem YN:∀{vs:bY}{ns:bX},IntsAre vs ns->Vals (ns.map V.int) vs
 |_,_,.nil=>.nil|_,_,.cons n t h=>.cons ⟨t,rfl⟩ (YN h)
noncomputable abbrev Mn {K:Frag}(_:K.In h):Frag:=K
noncomputable def Qm (s:Stmt):Arguments:=match s with
 |.FunctionDef _ a _ _ _ _ _ _ _ _=>a|_=>{ posonlyargs:=[],args:=[],vararg:=none,kwonlyargs:=[],kw_defaults:=[],kwarg:=none,defaults:=[] }
noncomputable def wz (s:Stmt):cx:=match s with
 |.FunctionDef _ _ b _ _ _ _ _ _ _=>b|_=>[]
noncomputable def qo (s:Stmt):Scope:=match s with
 |.FunctionDef _ _ _ _ _ _ sc _ _ _=>sc|_=>{ kind:=.function,names:=[],isGenerator:=false,isCoroutine:=false }
noncomputable abbrev gr:gq:=λ_ _ _ _ _ _=>False
noncomputable abbrev E0:XK:=λ_ _ _=>False
def dV:Passes gr X E0:=λ_ _ _ _ _ _ _ h=>h.elim
structure wL (K:Frag)(x qual:Str)(st:Stmt)(f:Addr)(fd:FuncData):Prop where
 ex:∃(oc:Value) (od:cw) (kV doc pm:Value) (an:cw) (cdv ct:Value) (osl:Array (cb)),
  fd=fnOf x qual (Qm st) (wz st) (qo st) .none kV doc pm an cdv ct/\K.lookup f=some ⟨oc,od,.func fd,osl⟩/\codeIn K cdv qual=true
 kp:keepIn K (.ref f)=true
section
variable {K:Frag}
def wL.ok {st:Stmt}{k:Nat}{sp:Sp}(F:wL K x qual st f fd)(S:jc N ps (qo st))(len:∀vs H Q E,sp vs H Q E->vs.length=ps.length)
  (y:∀(c:Value)(A:Around)(outer:cn)(s:Shared)(H:Hp)(vs:List V)(Q:VK)(E:XK),jq k (A.deeper (envOfC qual (qo st) s.heap.objs.size f c))->sp vs H Q E->
   ∃t,yT (wX gr P w K mg base N qual (qo st) f c A outer s H E).nox (wz st) t/\t { nx:=λ_ a=>Q .non a,rt:=Q } (start N vs) H):yY P w K mg base gr (k+1) f fd ps sp:=by
 obtain⟨e,b,kV,doc,pm,an,c,ct,o,rfl,lk,d⟩:=F.ex;refine UB lk d S len λA outer s H vs Q E r p=>?_;obtain⟨t,h,q⟩:=y c A outer s H vs Q E r p;exact⟨t,h.nox,q⟩
def wL.binds {st:Stmt}(F:wL K x qual st f fd)
  (h:∀(kV doc pm:Value)(an:cw)(c ct:Value)(us:bY),us.length=ps.length->bindArgs (fnOf x qual (Qm st) (wz st) (qo st) .none kV doc pm an c ct) ⟨us,[]⟩=pure (ps.zip us)):Binds K fd ps []:=by
 obtain⟨a,d,kV,doc,pm,an,c,ct,o,rfl,lk,H⟩:=F.ex;exact .all (h kV doc pm an c ct)
def dW {st:Stmt}{a:Value}{o an:cw}{kV doc pm C ct:Value}(l:K.lookup f=some ⟨a,o,.func (fnOf x qual (Qm st) (wz st) (qo st) .none kV doc pm an C ct),osl⟩)
  (c:codeIn K C qual=true)(k:keepIn K (.ref f)=true):wL K x qual st f (fnOf x qual (Qm st) (wz st) (qo st) .none kV doc pm an C ct):=⟨⟨a,o,kV,doc,pm,an,C,ct,osl,rfl,l,c⟩,k⟩
end
def Ny {A:Around}{k:Nat}(h:jq k A):A.units+1<cLine:=Nat.lt_of_le_of_lt (Nat.add_le_add_left (by decide:1<=64) _) h.units
section
variable {κ:Type}[DecidableEq κ]
noncomputable def kA (kvs:List (κ×V))(k:κ):Option V:=(kvs.find? λK=>decide (K.1=k)).map (·.2)
noncomputable def putK (kvs:List (κ×V))(k:κ)(v:V):List (κ×V):=
 if (kvs.any λK=>decide (K.1=k))=true then kvs.map (λK=>if K.1=k then(K.1,v) else K) else kvs++[(k,v)]
def WG {p:κ×V}{r:List (κ×V)}{k:κ}(e:p.1=k):kA (p::r) k=some p.2:=by simp[kA,find?_cons,e]
def WR {p:κ×V}{r:List (κ×V)}{k:κ}(e:¬p.1=k):kA (p::r) k=kA r k:=by simp[kA,find?_cons,e]
theorem Vb (k:κ):∀kvs:List (κ×V),(kvs.any λK=>decide (K.1=k))=(kA kvs k).isSome
 |[]=>rfl|p::r=>by
  rw[bR]
  by_cases e:p.1=k
  ·simp only[WG e,aB e,Bool.true_or,isSome_some]
  ·rw[WR e,aC e,Bool.false_or];exact Vb k r
def Wq (kvs:List (κ×V))(k:κ)(v:V):(putK kvs k v).length<=kvs.length+1:=by
 unfold putK
 split
 ·rw[ai];omega
 ·rw[ay,aV,bF];omega
def DM {kvs:List (κ×V)}{k:κ}(v:V)(h:kA kvs k=none):putK kvs k v=kvs++[(k,v)]:=by
 unfold putK;rw[Vb,h];exact aj (by decide)
def gN.isSome_eq {o:Option V}{u:cb}(r:gN o u):o.isSome=u.isSome:=by
 cases o with
 |none=>cases u with
  |none=>rfl|some _=>exact(show False from r).elim
 |some _=>cases u with
  |none=>exact(show False from r).elim|some _=>rfl
def KV.val {kvs:List (κ×V)}{vs:List (κ×Value)}(r:KV kvs vs)(k:κ):gN (kA kvs k) (valueAt vs k):=by
 unfold KV at r
 induction r with
 |nil=>exact True.intro|@cons p q ps qs h t i=>
  obtain⟨H,a⟩:=h
  by_cases e:p.1=k
  ·have E:q.1=k:=H.symm.trans e
   have b:valueAt (q::qs) k=some q.2:=by simp[valueAt,find?_cons,E]
   rw[WG e,b];exact a
  ·have E:¬q.1=k:=λz=>e (H.trans z)
   have b:valueAt (q::qs) k=valueAt qs k:=by simp[valueAt,find?_cons,E]
   rw[WR e,b];exact i
theorem KV.any {kvs:List (κ×V)}{vs:List (κ×Value)}(r:KV kvs vs)(k:κ):(kvs.any λK=>decide (K.1=k))=vs.any λK=>decide (K.1=k):=by
 unfold KV at r
 induction r with
 |nil=>rfl|cons h t i=>rw[bR,bR,i,h.1]
def KV.repl {kvs:List (κ×V)}{vs:List (κ×Value)}(r:KV kvs vs)(k:κ){y:V}(a:RelV y u):
  KV (kvs.map λK=>if K.1=k then(K.1,y) else K) (vs.map λK=>if K.1=k then(K.1,u) else K):=by
 unfold KV at r ⊢
 induction r with
 |nil=>exact .nil|@cons p q ps qs h t i=>
  rw[aL,aL];refine .cons ?_ i;obtain⟨H,b⟩:=h
  by_cases e:p.1=k
  ·rw[ag e,ag (H.symm.trans e)];exact⟨H,a⟩
  ·rw[aj e,aj (λz=>e (H.trans z))];exact⟨H,b⟩
def KV.put {kvs:List (κ×V)}{vs:List (κ×Value)}(r:KV kvs vs)(k:κ){y:V}(a:RelV y u):KV (putK kvs k y) (stored vs k u):=by
 unfold putK stored;rw[r.any k]
 by_cases e:(vs.any λK=>decide (K.1=k))=true
 ·rw[ag e,ag e];exact r.repl k a
 ·rw[aj e,aj e];exact Paired.snoc r ⟨rfl,a⟩
theorem KV.length {kvs:List (κ×V)}{vs:List (κ×Value)}(r:KV kvs vs):kvs.length=vs.length:=Paired.length r
end
def Kj {k:Key}(r:RelV (kV k) u):(yB P w).is k u=true:=by
 cases k with
 |inl i=>obtain⟨t,e⟩:=(show ∃t,u=Value.int i t from r);subst e;exact IY P w i t|inr x=>obtain⟨t,e⟩:=(show ∃t,u=Value.str x t from r);subst e;exact Ha P w x t
theorem RN:∀{ks:List Key}{us:bY},Vals (ks.map kV) us->ItemsAre (yB P w) ks us
 |[],_,r=>by rw[map_nil]at r;cases r;exact .nil|k::ks,_,r=>by
  rw[aL]at r;cases r with
  |cons h t=>exact .cons (Kj h) (RN t)
abbrev KT (H:Hp):List (List Key×V)->List (List Key×Addr×Value)->Prop:=Paired λp q=>p.1=q.1/\H q.2.1=some (.tup (p.1.map kV))/\RelV p.2 q.2.2
def KT.val (r:KT H kvs xs)(k:List Key):gN (kA kvs k) ((atKey xs k).map (·.2)):=by
 induction r with
 |nil=>exact True.intro|@cons p q ps qs h t i=>
  obtain⟨a,_,c⟩:=h
  by_cases e:p.1=k
  ·have E:q.1=k:=a.symm.trans e
   have b:atKey (q::qs) k=some q.2:=by simp[atKey,find?_cons,E]
   rw[WG e,b];exact c
  ·have E:¬q.1=k:=λz=>e (a.trans z)
   have b:atKey (q::qs) k=atKey qs k:=by simp[atKey,find?_cons,E]
   rw[WR e,b];exact i
def KT.repl (r:KT H kvs xs)(k:List Key){y:V}(c:RelV y u):
  KT H (kvs.map λK=>if K.1=k then(K.1,y) else K) (xs.map (putAt k u)):=by
 induction r with
 |nil=>exact .nil|@cons p q ps qs h t i=>
  rw[aL,aL];refine .cons ?_ i;obtain⟨a,b,d⟩:=h;unfold putAt
  by_cases e:p.1=k
  ·rw[ag e,ag (a.symm.trans e)];exact⟨a,b,c⟩
  ·rw[aj e,aj (λz=>e (a.trans z))];exact⟨a,b,d⟩
def KT.put (r:KT H kvs xs)(k:List Key){y:V}(h:H b=some (.tup (k.map kV)))(a:RelV y u):
  KT H (putK kvs k y) (storedH xs k b u):=by
 have e:(kvs.any λK=>decide (K.1=k))=(atKey xs k).isSome:=by
  rw[Vb,(r.val k).isSome_eq,Option.isSome_map]
 unfold putK storedH;rw[e]
 by_cases q:(atKey xs k).isSome=true
 ·rw[ag q,ag q];exact r.repl k a
 ·rw[aj q,aj q];exact Paired.snoc r ⟨rfl,h,a⟩
def KT.keeps {h:Hp}(r:KT H kvs xs)(t:∀b ys,H b=some (.tup ys)->h b=some (.tup ys)):KT h kvs xs:=
 Paired.mapP r λ_ _ z=>⟨z.1,t _ _ z.2.1,z.2.2⟩
section
def NJ {u:HO}(ok:jL P w H h)(e:Rd H a u):jd P w H h a u:=e.ok ok
def Ui {kvs:List (Key×V)}(ok:jL P w H h)(e:Rd H a (.dK kvs)):kvs.length<=sizeLine/\(a==sysModules)=false/\∃vs,KV kvs vs/\h.DictOf (yB P w) a vs:=
 show jd P w H h a (.dK kvs) from NJ ok e
def Gz {kvs:List (Key×V)}(ok:jL P w H h)(e:H a=some (.dK kvs)):kvs.length<=sizeLine/\(a==sysModules)=false/\∃vs,KV kvs vs/\h.DictOf (yB P w) a vs:=Ui ok (.inl e)
def VY {ks:List Key}(ok:jL P w H h)(e:H a=some (.tup (ks.map kV))):(tupleKind (yB P w)).is h ks a:=by
 obtain⟨_,i,r,o,d,c,n,b⟩:=(show jd P w H h a (.tup (ks.map kV)) from ok a _ e)
 exact⟨o,i.toArray,n,d,c.1,b,by simpa using RN r⟩
def Uu (ok:jL P w H h)(e:Rd H a (.dT kvs)):kvs.length<=sizeLine/\(a==sysModules)=false/\
  ∃xs,KT H kvs xs/\h.DictOfH (tupleKind (yB P w)) a xs:=by
 obtain⟨z,y,xs,r,o,E,s,n,j,g,f,d⟩:=(show jd P w H h a (.dT kvs) from NJ ok e)
 refine⟨z,y,xs,r,o,E,s,n,j,g,f,λx b=>?_,d⟩;have all:∀{l:List (List Key×V)}{m:List (List Key×Addr×Value)},KT H l m->∀x∈m,(tupleKind (yB P w)).is h x.1 x.2.1:=by
  intro l m q
  induction q with
  |nil=>intro x b;exact nomatch b
  |@cons p q ps qs c t i=>
   intro x b;rcases cA.mp b with e|b
   ·subst e
    exact VY ok (by rw[<- c.1];exact c.2.1)
   ·exact i x b
 exact all r x b
def dX (ok:jL P w H h)(e:H a=some (.dT kvs)):kvs.length<=sizeLine/\(a==sysModules)=false/\
  ∃xs,KT H kvs xs/\h.DictOfH (tupleKind (yB P w)) a xs:=Uu ok (.inl e)
end
def Ym (H:Hp)(a:Addr)(y:V)(r:Option V):Prop:=
 (∃kvs k,Rd H a (.dK kvs)/\y=kV k/\r=kA kvs k)∨∃kvs k b,Rd H a (.dT kvs)/\y=.ref b/\H b=some (.tup (k.map kV))/\r=kA kvs k
def GD (H:Hp)(a:Addr)(y v:V)(h:Hp):Prop:=
 (∃kvs k,H a=some (.dK kvs)/\y=kV k/\kvs.length<sizeLine/\h=upd H a (.dK (putK kvs k v)))∨
 ∃kvs k b,H a=some (.dT kvs)/\y=.ref b/\H b=some (.tup (k.map kV))/\kvs.length<sizeLine/\h=upd H a (.dT (putK kvs k v))
theorem Ym.k {kvs:List (Key×V)}{k:Key}(e:H a=some (.dK kvs)):Ym H a (kV k) (kA kvs k):=.inl ⟨kvs,k,.inl e,rfl,rfl⟩
theorem GD.k {kvs:List (Key×V)}{k:Key}(e:H a=some (.dK kvs))(h:kvs.length<sizeLine):GD H a (kV k) v (upd H a (.dK (putK kvs k v))):=.inl ⟨kvs,k,e,rfl,h,rfl⟩
section
variable {y:V}{r:Value}{o:Option V}{A:Around}
def Inv.big (I:Inv X pins σ H s):sysModules<s.heap.objs.size:=by
 have h:mainGlobals<s.heap.objs.size:=(I.mod.glob.keeps I.bk).lt;exact lt_trans (by decide) h
def EK (j:A.units+1<cLine)(I:Inv X pins σ H s)(g:Ym H a y (some v))(i:RelV y u)(h:∀c s',Inv X pins σ H s'->RelV v c->Q c s'):
  wpAny (model X.prog X.w) A (getItem (.ref a) u) Q E s:=by
 rcases g with ⟨kvs,k,e,f,l⟩|⟨kvs,k,b,e,f,q,l⟩
 ·subst f
  obtain⟨z,hd,vs,rel,dd⟩:=Ui I.hok e;obtain⟨c,hw,r⟩:=gN.some_of (v:=v) (o:=valueAt vs k) (by rw[l];exact rel.val k)
  exact wpAny_getItem_of (Kj i) dd.mapOf hw (h c _ (I.tok _) r)
 ·subst f
  cases (show u=Value.ref b from i)
  obtain⟨z,hd,xs,rel,dd⟩:=Uu I.hok e;obtain⟨c,hw,r⟩:=gN.some_of (v:=v) (o:=(atKey xs k).map (·.2)) (by rw[l];exact rel.val k)
  obtain⟨p,n,d⟩:=Option.map_eq_some_iff.mp hw;refine wpAny_getItem_heap (tupleKind_room_in1 j) (VY I.hok q) dd n ?_;rw[d];exact h c _ (I.tok _) r
def WZ {ob:HO}(I:Inv X pins σ H s)(M:KP (H a))(h:Heap.SameBut a s.heap h')(he:∃q,h'.get? a=some q)(new:jd X.prog X.w (upd H a ob) h' a ob):
  Inv X pins σ (upd H a ob) { s with heap:=h',toks:=t' }:=
 I.write (x:=a) (e:=a) M (.inl rfl) (λb q c z=>(h.2 b c).trans z) he new
def Ue {H:Hp}{kvs:List (Key×V)}{vs:List (Key×Value)}(z:kvs.length<=sizeLine)(hd:(a==sysModules)=false)(rel:KV kvs vs)(dd:h'.DictOf (yB P w) a vs):
  jd P w H h' a (.dK kvs):=⟨z,hd,vs,rel,dd⟩
def FN {D:Hp}{Q:Unit->Shared->Prop}(J:A.units+1<cLine)(I:Inv X pins σ H s)(g:GD H a y v D)(t:RelV y u)(x:RelV v r)(h:∀s',Inv X pins σ D s'->Q () s'):
  wpAny (model X.prog X.w) A (setItem (.ref a) u r) Q E s:=by
 rcases g with ⟨kvs,k,e,o,l,p⟩|⟨kvs,k,b,e,o,C,l,p⟩
 ·subst o p
  obtain⟨z,hd,vs,rel,dd⟩:=Gz I.hok e;have i:vs.length<=sizeLine:=by rw[<- rel.length];exact z
  have n:(putK kvs k v).length<=sizeLine:=by have:=Wq kvs k v;omega
  refine wpAny_setItem_pairs (hsz:=i) (Kj t) dd λh' d j=>h _ ?_;have he:∃q,h'.get? a=some q:=let ⟨q,_,_,f,_⟩:=d;⟨q,f⟩
  exact WZ I (by rw[e];exact True.intro) j he (Ue n hd (rel.put k x) d)
 ·subst o p
  cases (show u=Value.ref b from t)
  obtain⟨z,hd,xs,rel,dd⟩:=dX I.hok e;have i:xs.length<=sizeLine:=by rw[<- Paired.length rel];exact z
  have n:(putK kvs k v).length<=sizeLine:=by have:=Wq kvs k v;omega
  refine wpAny_setItem_heap (hsz:=i) (tupleKind_room_in1 J) (VY I.hok C) dd λh' d j=>h _ ?_;obtain⟨q,P,S,f,N,M,L,_,K⟩:=d;refine WZ I (by rw[e];exact True.intro) j ⟨q,f⟩ ⟨n,hd,_,(rel.put k C x).keeps λc ys B=>?_,q,P,S,f,N,M,L,K⟩
  rw[qh (Jh B e (λz=>nomatch z))];exact B
end
def UN (i:Expr):Prop:=∀o I,subscripted i false o I=operate [o,I] (getItem o I)
def C9 {prog:Program}{A:Around}{value slice:Expr}{T id:String}
  (l:typeLookup (.type T) "__getitem__"=pure (some (.builtin id)))(e:UN slice)
  (h:wpAny (model prog w) A (eval value env) (λo b=>wpAny (model prog w) A (eval slice env) (λi S=>S.TypeIs o T/\wpAny (model prog w) A (getItem o i) Q E S) E b) E s):
  wpAny (model prog w) A (eval (.Subscript value slice pos) env) Q E s:=by
 refine Subscript_ (wpAny_mono h (λo b d=>wpAny_mono d (λi S H=>?_) λ_ _ x=>x) λ_ _ x=>x);obtain⟨hT,H⟩:=H;unfold subscriptTail;refine cy ?_;rw[getitemInPython_of_ne hT.not_modules];refine cy (wpAny_specialOf hT l ?_);have fin:wpAny (model prog w) A (subscripted slice false o i) (λr a=>wpAny (model prog w) A (letTemporaryGo value o r >>= λ_=>pure r) Q E a) E S:=by
  rw[e o i];exact wpAny_operating (wpAny_mono H (λr a c=>cy (wpAny_letTemporaryGo (cz c))) λ_ _ x=>x)
 first
  |exact cz (cy fin)
  |exact cy (cz (cy fin))
  |exact cy fin
def Hu {y:V}{o:Option V}(I:Inv X pins σ H s)(g:Ym H a y o):s.TypeIs (.ref a) "dict":=by
 rcases g with ⟨kvs,k,e,_,_⟩|⟨kvs,k,b,e,_,_,_⟩
 ·obtain⟨_,_,vs,_,dd⟩:=Ui I.hok e
  exact dd.typeIs
 ·obtain⟨_,_,xs,_,dd⟩:=Uu I.hok e
  exact dd.typeIs
noncomputable def dY (td ty:TE):TE:=λσ H Q=>td σ H λx H1=>ty σ H1 λy h=>∃a v,x=.ref a/\Ym h a y (some v)/\Q v h
section
variable {o i:Expr}{td ty:TE}
def C0 (f:X.A.units+1<cLine)(l:PE X o td)(n:PE X i ty)(j:UN i):PE X (.Subscript o i pos) (dY td ty):=by
 intro pins s σ H Q I h;refine C9 PySem.F.slot_dict_getitem.lookup j (zU (l pins s σ H _ I h) λu s1 ⟨x,H1,t,d,e⟩=>zU (n pins s1 σ H1 _ t e) λB s2 ⟨y,w,b,c,a,v,ex,g,q⟩=>?_);subst ex;obtain rfl:u=Value.ref a:=d;exact⟨Hu b g,EK f b g c λz s3 p r=>⟨v,w,p,r,q⟩⟩
end
def Pu (h:Heap)(b:sysModules<h.objs.size):jd P w H (h.push { cls:=.type "dict",data:=.dict #[] }) h.objs.size (.dK []):=
 ⟨bK _,beq_eq_false_iff_ne.mpr (Ne.symm (aM b)),[],.nil,Heap.DictOf.new h⟩
def dZ:TE:=λ_ H Q=>∀p,H p=none->Q (.ref p) (upd H p (.dK []))
section
def Dj:PE X (.Dict [] [] pos) dZ:=λpins s σ H Q I h=>
 wpAny_Dict_empty ⟨.ref s.heap.objs.size,_,I.laid (a:=s.heap.objs.size) (o:=.dK []) (t':=s.toks) (λ_ _ q=>af _ q) (ar _) (Pu s.heap I.big),rfl,h _ (I.hok.fresh (ar _))⟩
end
noncomputable def V1:List (TE×TE)->St->Hp->(List (V×V)->Hp->Prop)->Prop
 |[],_,H,Q=>Q [] H|(tk,t)::r,σ,H,Q=>tk σ H λx H1=>t σ H1 λy a=>V1 r σ a λps h=>Q ((x,y)::ps) h
abbrev VV:List (V×V)->List (Value×Value)->Prop:=Paired λp q=>RelV p.1 q.1/\RelV p.2 q.2
def Xe (X:Cx)(pos:Pos)(keys:List (Option Expr))(values:cg)(t:List (TE×TE)):Prop:=
 ∀(pins:b8)(s:Shared)(σ:St)(H:Hp)(Q:List (V×V)->Hp->Prop),Inv X pins σ H s->V1 t σ H Q->
  wpAny (model X.prog X.w) X.A (evalPairs (pairTrees keys values X.env pos)) (λvs s'=>∃ps h,Inv X pins σ h s'/\VV ps vs/\Q ps h) X.xe s
def BG:Xe X pos [] [] []:=λpins s σ H Q I h=>pairTrees_nil_walk ⟨[],H,I,.nil,h⟩
def DH {k v:Expr}{ks:List (Option Expr)}{vs:cg}{tk T:TE}{t:List (TE×TE)}(f:PE X k tk)(d:PE X v T)(e:Xe X pos ks vs t):
  Xe X pos (some k::ks) (v::vs) ((tk,T)::t):=λpins s σ H Q I h=>
 pairTrees_cons_walk (zU (f pins s σ H _ I h) λu s1 ⟨x,H1,j,a,c⟩=>zU (d pins s1 σ H1 _ j c) λw s2 ⟨y,n,g,r,b⟩=>
  zU (e pins s2 σ n _ g b) λws s3 ⟨ps,l,i,rel,q⟩=>⟨(x,y)::ps,l,i,.cons ⟨a,r⟩ rel,q⟩)
def Ka (kvs more:List (Key×V)):List (Key×V):=more.foldl (λacc K=>putK acc K.1 K.2) kvs
def KV.merge:∀{more:List (Key×V)}{rs:List (Key×Value)}{kvs:List (Key×V)}{vs:List (Key×Value)},KV more rs->KV kvs vs->KV (Ka kvs more) (merged vs rs):=by
 intro more rs kvs vs r;unfold KV at r
 induction r generalizing kvs vs with
 |nil=>intro q;exact q|@cons p q ps qs h t i=>
  intro a;have e:KV (putK kvs p.1 p.2) (stored vs q.1 q.2):=by
   have:=a.put p.1 h.2
   rw[<- h.1];exact this
  exact i e
theorem Sk:∀(more kvs:List (Key×V)),(Ka kvs more).length<=kvs.length+more.length
 |[],kvs=>by show kvs.length<=kvs.length+0;omega|p::r,kvs=>by
  have H:=Sk r (putK kvs p.1 p.2);have h:=Wq kvs p.1 p.2;show(Ka (putK kvs p.1 p.2) r).length<=_;rw[aV];omega
theorem Rq:∀{kvs:List (Key×V)}{ws:List (Value×Value)},VV (kvs.map λK=>(kV K.1,K.2)) ws->∃rs,Carries (yB P w) ws rs/\KV kvs rs
 |[],_,r=>by rw[map_nil]at r;cases r;exact⟨[],True.intro,.nil⟩|p::kvs,_,r=>by
  rw[aL]at r;cases r with
  |@cons a b as bs h t=>
   obtain⟨rs,c,q⟩:∃rs,Carries (yB P w) _ rs/\KV _ rs:=Rq t;obtain⟨d,B⟩:=b;exact⟨(p.1,B)::rs,⟨Kj h.1,rfl,c⟩,.cons ⟨rfl,h.2⟩ q⟩
def d1 (t:List (TE×TE)):TE:=λσ H Q=>∀p,H p=none->V1 t σ (upd H p (.dK [])) λps h=>h p=some (.dK [])/\∃kvs:List (Key×V),ps=kvs.map (λK=>(kV K.1,K.2))/\kvs.length<=15/\Q (.ref p) (upd h p (.dK (Ka [] kvs)))
def BB {keys:List (Option Expr)}{values:cg}{t:List (TE×TE)}(h:Xe X pos keys values t)(l:keys.all (·.isSome)=true)(u:keys.length=values.length)(h0:keys≠[])
  (b:keys.length<=15):PE X (.Dict keys values pos) (d1 t):=by
 intro pins s σ H Q I q;have hn:=I.hok.fresh (ar s.heap.objs.size);have y:=I.laid (a:=s.heap.objs.size) (o:=.dK []) (h':=s.heap.push { cls:=.type "dict",data:=.dict #[] }) (t':=s.toks) (λ_ _ q=>af _ q) (ar _) (Pu s.heap I.big);refine wpAny_Dict_walk (knd:=yB X.prog X.w) l u h0 b (zU (h pins _ σ _ _ y (q _ hn)) λws s2 ⟨ps,A,i,rel,e,kvs,E,lk,g⟩=>?_);subst E;obtain⟨rs,c,r⟩:=Rq (P:=X.prog) (w:=X.w) rel;obtain⟨z,hd,v,f,dd⟩:=Gz i.hok e;cases f;refine⟨rs,c,dd,λh' d n=>⟨.ref s.heap.objs.size,_,?_,rfl,g⟩⟩;have j:(Ka [] kvs).length<=sizeLine:=by
  have x:=Sk kvs [];rw[bF]at x;rw[sizeLine_eq];omega
 have he:∃q,h'.get? s.heap.objs.size=some q:=let ⟨q,_,_,p,_⟩:=d;⟨q,p⟩
 exact WZ i (by rw[e];exact True.intro) n he (Ue j hd (r.merge .nil) d)
noncomputable def kG (env:Env):List (Str×NameKind)->List (Str×Addr)->List (Str×Addr)
 |[],acc=>acc|(n,k)::r,acc=>kG env r (if k==.free then(n,(env.cells.lookup n).getD 0)::acc else acc)
def EY (f:Str×NameKind->List (Str×Addr)->Sem (ForInStep (cq)))
  (hf:∀n k r,f (n,k) r=if (k==NameKind.free)=true then(do let c <- cellOf env n;pure (ForInStep.yield ((n,c)::r))) else pure (ForInStep.yield r)):
  ∀(names:List (Str×NameKind))(acc:cq),(∀y∈names,y.2=.free->∃c,env.cells.lookup y.1=some c)->(forIn names acc f:Sem (cq))=pure (kG env names acc):=by
 intro names
 induction names with
 |nil=>intro acc _;rfl|cons y r i=>
  intro acc b;obtain⟨n,k⟩:=y;rw[forIn_cons,hf];unfold kG;have h:=i (if k==.free then(n,(env.cells.lookup n).getD 0)::acc else acc) (λy g=>b y (au _ g))
  by_cases a:k=.free
  ·subst a
   obtain⟨c,d⟩:=b (n,.free) ax rfl;have e:cellOf env n=pure c:=by unfold cellOf;rw[d]
   have H:List.lookup n env.cells=some c:=d;simp only[e,H,Option.getD_some,br,if_true]at h ⊢;exact h
  ·have j:(k==NameKind.free)=false:=by simpa using a
   simp only[j,a9,if_false]at h ⊢;exact h
def RA (h:∀y∈scope.names,y.2=.free->∃c,env.cells.lookup y.1=some c):closureFor scope env=pure (kG env scope.names []):=by
 unfold closureFor;dsimp only;rw[EY _ (λn k r=>rfl) scope.names [] h]
 rfl
theorem QV {n:Str}:∀(names:List (Str×NameKind))(acc:cq),(n,c)∈kG env names acc->(n,c)∈acc∨((n,NameKind.free)∈names/\c=(env.cells.lookup n).getD 0)
 |[],acc,h=>.inl h|(x,k)::r,acc,h=>by
  unfold kG at h;rcases QV r _ h with h|⟨d,a⟩
  ·by_cases H:k=.free
   ·subst H
    simp only[br,if_true]at h;rcases cA.mp h with e|h
    ·cases e;exact .inr ⟨ax,rfl⟩
    ·exact .inl h
   ·have b:(k==NameKind.free)=false:=by simpa using H
    simp only[b,a9,if_false]at h;exact .inl h
  ·exact .inr ⟨au _ d,a⟩
theorem WA {n:Str}:∀(names:List (Str×NameKind))(acc:cq),((n,NameKind.free)∈names∨(acc.lookup n).isSome=true)->((kG env names acc).lookup n).isSome=true
 |[],acc,h=>by
  rcases h with h|h
  ·cases h
  ·exact h
 |(x,k)::r,acc,h=>by
  unfold kG;refine WA r _ ?_;rcases h with h|h
  ·rcases cA.mp h with e|h
   ·cases e
    right
    simp
   ·exact .inl h
  ·right
   by_cases H:(k==NameKind.free)=true
   ·rw[ag H,lookup_cons]
    cases a:n==x
    ·exact h
    ·rfl
   ·rw[aj H];exact h
theorem Xv {n:Str}:∀(names:List (Str×NameKind))(k:Nat)(acc:cq),(n,c)∈cellsFrom k names acc->(n,c)∈acc∨(k<=c/\(n,NameKind.cell)∈names)
 |[],_,_,h=>.inl h|(x,q)::r,k,acc,h=>by
  unfold cellsFrom at h
  by_cases a:(q==NameKind.cell)=true
  ·rw[ag a]at h
   have H:q=.cell:=by simpa using a
   rcases Xv r _ _ h with h|⟨d,b⟩
   ·rcases cA.mp h with e|h
    ·cases e;subst H;exact .inr ⟨ar _,ax⟩
    ·exact .inl h
   ·exact .inr ⟨by omega,au _ b⟩
  ·rw[aj a]at h
   rcases Xv r _ _ h with h|⟨d,b⟩
   ·exact .inl h
   ·exact .inr ⟨d,au _ b⟩
theorem Xx:∀(names:List (Str×NameKind))(k:Nat)(acc:cq),(∀n c,(n,c)∈acc->c<k)->(∀n N c,(n,c)∈acc->(N,c)∈acc->n=N)->∀n N c,(n,c)∈cellsFrom k names acc->(N,c)∈cellsFrom k names acc->n=N
 |[],_,_,_,hi,n,N,c,h,h'=>hi n N c h h'|(x,q)::r,k,acc,l,hi,n,N,c,h,h'=>by
  unfold cellsFrom at h h'
  by_cases a:(q==NameKind.cell)=true
  ·rw[ag a]at h h'
   refine Xx r (k+1) ((x,k)::acc) (λm d hm=>?_) (λm M d hm H=>?_) n N c h h'
   ·rcases cA.mp hm with e|hm
    ·cases e;exact bz _
    ·exact bc (l m d hm)
   ·rcases cA.mp hm with e|hm
    ·rcases cA.mp H with E|H
     ·cases e;cases E;rfl
     ·cases e;exact absurd (l M _ H) (aW _)
    ·rcases cA.mp H with E|H
     ·cases E;exact absurd (l m _ hm) (aW _)
     ·exact hi m M d hm H
  ·rw[aj a]at h h'
   exact Xx r k acc l hi n N c h h'
theorem Xp {n:Str}:∀(names:List (Str×NameKind))(h:Heap)(acc:cq),(n,c)∈cellsFrom h.objs.size names acc->(n,c)∈acc∨(pushCells h names).IsCell c none
 |[],_,_,q=>.inl q|(x,k)::r,h,acc,q=>by
  unfold cellsFrom at q;unfold pushCells
  by_cases H:(k==NameKind.cell)=true
  ·rw[ag H]at q ⊢
   have:=Xp r (h.push { cls:=.type "cell",data:=.cell none }) ((x,h.objs.size)::acc) (by rw[bf];exact q)
   rcases this with z|z
   ·rcases cA.mp z with e|z
    ·cases e
     exact .inr ⟨_,pushCells_keeps r _ _ _ (av _ rfl),rfl⟩
    ·exact .inl z
   ·exact .inr z
  ·rw[aj H]at q ⊢
   exact Xp r h acc q
def M1 {A:Around}{globals:Addr}{cl:cq}{Q:Env->Shared->Prop}
  (h:Q { scope,locals:=s.heap.objs.size,globals,cells:=cellsFrom (s.heap.objs.size+1) scope.names cl,qual,func:=none,code:=env.code,frame:=env.frame,builtins:=env.builtins }
   { s with heap:=pushCells (s.heap.push { cls:=.type "dict",data:=.dict #[] }) scope.names }):
  wpAny M A (newFunctionEnv scope globals cl [] qual none .none (some env)) Q E s:=by
 simp only[newFunctionEnv,isSome_some,if_true];refine cy (wpAny_alloc ?_);refine cy (wpAny_layCells _ (λname kind cells=>by cases H:kind==NameKind.cell<;>simp[H]) _ _ _ _ ?_)
 rw[show({ s with heap:=s.heap.push { cls:=.type "dict",data:=.dict #[] } }:Shared).heap.objs.size=s.heap.objs.size+1 from bf ..]
 rw[forIn_nil];exact cy (cz (cz h))
def jX (X:Cx)(N:cc)(scope:Scope)(s:Shared)(H:Hp)(fp:bZ)(xe:cf):Cx where
 prog:=X.prog
 w:=X.w
 K:=X.K
 mg:=X.mg
 base:=X.base
 A:=X.A
 N:=N
 s0:=s
 H0:=H
 env:={ scope:=relabel scope X.env,locals:=s.heap.objs.size,globals:=X.env.globals,cells:=cellsFrom (s.heap.objs.size+1) scope.names (kG X.env scope.names []),qual:=X.env.qual,func:=none,code:=X.env.code,frame:=X.env.frame,builtins:=X.env.builtins }
 outer:=X.stack
 stack:=X.stack
 ex:=fp
 fn:=λx=>scope.names.lookup x==some .local || scope.names.lookup x==some .cell
 calm:=X.calm
 pn:=[]
 xe:=xe
structure Zb (X:Cx)(scope:Scope):Prop where
 kind:scope.kind=.function
 nd:(scope.names.map (·.1)).Nodup
 free:∀y∈scope.names,y.2=.free->X.env.kindOf y.1=some .cell∨X.env.kindOf y.1=some .free
theorem JF {k:α}:∀{l:List (Str×α)},(l.map (·.1)).Nodup->(x,k)∈l->l.lookup x=some k
 |(y,q)::r,nd,h=>by
  rw[aL,List.nodup_cons]at nd;rw[lookup_cons];rcases cA.mp h with e|h
  ·cases e;simp
  ·have ne:(x==y)=false:=by
    rw[beq_eq_false_iff_ne];intro e
    apply nd.1
    rw[<- e];exact List.mem_map_of_mem (f:=(·.1)) h
   rw[ne];exact JF nd.2 h
def Xs {k:NameKind}(h:(relabel scope env).names.lookup x=some k):scope.names.lookup x=some k∨(k=.cell/\scope.names.lookup x=some .free/\env.kindOf x=some .cell):=by
 unfold relabel at h;dsimp only at h;generalize scope.names=names at h ⊢
 induction names with
 |nil=>cases h|cons y r i=>
  obtain⟨n,q⟩:=y;rw[aL]at h;have split:(if (q==NameKind.free&&env.scope.kind==.function&&env.kindOf n==some .cell)=true then(n,NameKind.cell) else(n,q)).1=n:=by split<;>rfl
  rw[lookup_cons]at h ⊢;dsimp only at h;rw[split]at h;cases a:x==n with
  |false=>rw[a]at h;exact i h|true=>
   rw[a]at h;have e:x=n:=aK.mp a;subst e
   by_cases H:(q==NameKind.free&&env.scope.kind==.function&&env.kindOf x==some .cell)=true
   ·rw[ag H]at h
    simp only[aw,aK]at H;cases h
    right
    exact⟨rfl,by rw[H.1.1],H.2⟩
   ·rw[aj H]at h
    left
    exact h
section
def Inv.capt (I:Inv X pins σ H s)(S:Zb X scope)(h:(x,NameKind.free)∈scope.names):∃c,X.env.cells.lookup x=some c:=I.ok.has x (S.free _ h rfl)
def YS (I:Inv X pins σ H s)(S:Zb X scope)(h:(x,c)∈cellsFrom (s.heap.objs.size+1) scope.names (kG X.env scope.names [])):
  ((x,NameKind.free)∈scope.names/\X.env.cells.lookup x=some c/\c<s.heap.objs.size)∨((x,NameKind.cell)∈scope.names/\s.heap.objs.size<c/\∀h0:Heap,h0.objs.size=s.heap.objs.size+1->(pushCells h0 scope.names).IsCell c none):=by
 rcases Xv _ _ _ h with b|⟨b,d⟩
 ·left
  rcases QV _ _ b with z|⟨z,e⟩
  ·cases z
  ·obtain⟨C,a⟩:=I.capt S z
   rw[a]at e;have E:c=C:=e;subst E;obtain⟨v,q⟩:=I.cell x c a;exact⟨z,a,q.lt⟩
 ·right
  refine⟨d,b,λh0 f=>?_⟩;have h':=h;rw[<- f]at h';rcases Xp _ h0 _ h' with z|z
  ·exfalso
   rcases QV _ _ z with z|⟨z,e⟩
   ·cases z
   ·obtain⟨C,a⟩:=I.capt S z
    rw[a]at e;have E:c=C:=e;subst E;obtain⟨v,q⟩:=I.cell x c a;exact aW _ (aD (bc q.lt) b)
  ·exact z
def Dl {xe:cf}{f:St}(I:Inv X pins σ H s)(S:Zb X scope)(hf:∀b∈fp,wg X pins H b)(A:∀b∈fp,b<s.heap.objs.size)(hl:f.length=N.length)
  (hs:∀(j:Nat)(x:Str)(v:V),N[j]? =some x->f[j]? =some (some v)->(x,NameKind.free)∈scope.names/\∃i:Nat,X.N[i]? =some x/\σ[i]? =some (some v)):
  Inv (jX X N scope s H fp xe) [] f H { s with heap:=pushCells (s.heap.push { cls:=.type "dict",data:=.dict #[] }) scope.names }:=by
 have M:∀b o,s.heap.get? b=some o->(pushCells (s.heap.push { cls:=.type "dict",data:=.dict #[] }) scope.names).get? b=some o:=λb o e=>pushCells_keeps _ _ _ _ (af _ e);have hsz:(s.heap.push { cls:=.type "dict",data:=.dict #[] }).objs.size=s.heap.objs.size+1:=bf ..;have l:∀{x:Str}{c:Addr},(jX X N scope s H fp xe).env.cells.lookup x=some c->(x,c)∈cellsFrom (s.heap.objs.size+1) scope.names (kG X.env scope.names []):=λh=>PySem.mem_of_lookup h;have L:∀{x:Str},((jX X N scope s H fp xe).env.kindOf x=some .cell∨(jX X N scope s H fp xe).env.kindOf x=some .free)->∃c,(jX X N scope s H fp xe).env.cells.lookup x=some c:=λ {x} h=>by
  refine Option.isSome_iff_exists.mp (cellsFrom_some _ _ _ ?_);have two:scope.names.lookup x=some .cell∨scope.names.lookup x=some .free:=by
   rcases h with h|h
   ·rcases Xs h with z|⟨_,z,_⟩
    ·exact .inl z
    ·exact .inr z
   ·rcases Xs h with z|⟨z,_⟩
    ·exact .inr z
    ·cases z
  rcases two with z|z
  ·exact .inl z
  ·exact .inr (WA _ _ (.inl (PySem.mem_of_lookup z)))
 have exP:∀b∈fp,∀x c,(jX X N scope s H fp xe).env.cells.lookup x=some c->c≠b:=λb a x c e=>by
  rcases YS I S (l e) with ⟨_,q,_⟩|⟨_,q,_⟩
  ·exact(hf b a).2.2.2.2.1 x c q
  ·intro z;subst z;exact aW _ (lt_trans q (A _ a))
 refine⟨⟨I.ok.mod,S.kind,I.ok.glob,I.ok.blt,ar _,λx y c h1 J=>?_,λx h=>L h,λx c g h=>?_,I.ok.hd,I.ok.frames,.inl rfl,λb a=>⟨?_,exP b a⟩,I.bs,bt I.ok.bsz I.sz,λb o e a=>?_,λb a z=>?_,I.stack,I.stkFree⟩,
  rfl,I.bare,Un.kept M,⟨λ_=>none,?_,λj x v h1 J Y=>?_⟩,λx c e=>?_,I.fresh,λx c e=>?_,λp hp=>?_,I.hok.kept M,hl⟩
 ·refine Xx _ _ _ (λn c h=>?_) (λn n' c h h'=>?_) x y c (l h1) (l J)
  ·rcases QV _ _ h with z|⟨z,e⟩
   ·cases z
   ·obtain⟨c',D⟩:=I.capt S z
    rw[D]at e;have P:c=c':=e;subst P;obtain⟨v,q⟩:=I.cell n c D;exact bc q.lt
  ·rcases QV _ _ h with z|⟨z,e⟩
   ·cases z
   ·rcases QV _ _ h' with Z|⟨Z,P⟩
    ·cases Z
    ·obtain⟨d,hd⟩:=I.capt S z
     obtain⟨d',B⟩:=I.capt S Z;rw[hd]at e;rw[B]at P;have K:c=d:=e;have e2:c=d':=P;subst K;subst e2;exact I.ok.inj _ _ _ hd B
 ·rcases YS I S (l h) with ⟨z,_,_⟩|⟨_,z,_⟩
  ·exfalso
   have K:=JF S.nd z;have t:(scope.names.lookup x==some .local || scope.names.lookup x==some .cell)=true:=g;rw[K]at t;cases t
  ·exact bA z
 ·exact aM (A b a)
 ·obtain⟨_,_,_,E,_⟩:=hf b a
  rcases E with E|E
  ·exact I.ok.noex b o e E
  ·exact absurd (aD (aG e) (bt I.ok.bsz E)) (aW _)
 ·obtain⟨_,J,Y,_⟩:=hf b a
  rcases cA.mp (I.stkSub b z) with e|e
  ·exact J e
  ·exact Y e
 ·exact(Heap.Ns.new s.heap (.type "dict")).keeps (pushCells_keeps _ _)
 ·obtain⟨g,i,K,e2⟩:=hs j x v h1 J
  obtain⟨m,hn,U⟩:=I.loc;have Q:Xa X.env.scope x:=.inr (S.free _ g rfl);obtain⟨u,r,lk⟩:=U i x v K e2 Q;refine⟨u,r,.inr ?_⟩;have w:(jX X N scope s H fp xe).env.kindOf x=some .cell∨(jX X N scope s H fp xe).env.kindOf x=some .free:=by
   rcases Y with z|z|z
   ·exfalso
    rcases Xs z with Z|⟨Z,_⟩
    ·rw[JF S.nd g]at Z;cases Z
    ·cases Z
   ·exact .inl z
   ·exact .inr z
  refine⟨w,?_⟩;obtain⟨c,D⟩:=L w;refine⟨c,D,?_⟩;rcases YS I S (l D) with ⟨_,q,_⟩|⟨q,_,_⟩
  ·rcases lk with ⟨z,_⟩|⟨_,c',C,cell⟩
   ·exfalso
    rcases S.free _ g rfl with k|k<;>(rw[k]at z;cases z)
   ·rw[q]at C;cases C
    exact cell.keeps M
  ·exfalso
   have a1:=JF S.nd g;have a2:=JF S.nd q;rw[a1]at a2;cases a2
 ·rcases YS I S (l e) with ⟨_,q,_⟩|⟨_,_,q⟩
  ·obtain⟨v,z⟩:=I.cell x c q
   exact⟨v,z.keeps M⟩
  ·exact⟨_,q _ hsz⟩
 ·rcases YS I S (l e) with ⟨_,q,_⟩|⟨_,q,_⟩
  ·exact I.freeC x c q
  ·exact I.hok.fresh (bA q)
 ·have T:p∈([]:b8):=hp
  cases T
end
abbrev w9:=Addr->St->Hp->(St->Hp->Prop)->Prop
noncomputable def KJ (elt:Expr)(gens:List Comprehension)(sc:Scope)(pos:Pos)(d:Nat)(acc:Value)(env:Env)(k:Sem Fin):Sem Fin:=
 match gens[d+1]? with
 |some g'=>do
  let x <- eval g'.iter env
  standAt g'.iter.pos
  let x <- foldedSetIterable g'.iter env x
  let _ <- runOwn (.compStart (.ListComp elt gens sc pos) (d+1) (<- holding [x] (pyIter x)) acc env) env
  k
 |none=>do
  (do let _ <- call (.builtin "list.append") [acc,<- eval elt env])
  k
theorem Ah {iter:Expr}{d:Nat}{it acc:Value}(h:gens[d]? =some ⟨tg,iter,ifs,0⟩)(H:∀g',gens[d+1]? =some g'->g'.is_async=0):
  compTurn (.ListComp elt gens sc pos) d it acc env=(do
   standAt iter.pos
   match <- pyNext it with
   |none=>pure (.done .next)|some v=>
    letOwnedTupleGo tg it v
    assign tg env v
    let mut ok:=true
    for c in ifs do
     if ok then ok <- isTrue c env (eval c env)
    if ok then KJ elt gens sc pos d acc env (again (.compLoop (.ListComp elt gens sc pos) d it acc env))
    else again (.compLoop (.ListComp elt gens sc pos) d it acc env)):=by
 unfold compTurn KJ;dsimp only;rw[h];cases hn:gens[d+1]? with
 |none=>rfl|some g'=>
  obtain⟨t',i,f,a⟩:=g';have e:a=0:=H _ hn;subst e
  rfl
def ZV (X:Cx)(ifs:cg)(t:TT):Prop:=
 ∀(pins:b8)(s:Shared)(σ:St)(H:Hp)(Q:Bool->Hp->Prop),Inv X pins σ H s->t σ H Q->
  wpAny (model X.prog X.w) X.A (forIn ifs true λc r=>if r=true then do let ok <- isTrue c X.env (eval c X.env);pure (ForInStep.yield ok) else pure (ForInStep.yield r)) (TP X pins σ Q) X.xe s
noncomputable def d2:TT:=λ_ H Q=>Q true H
def DE:ZV X [] d2:=λpins s σ H Q I h=>wpAny_tests_nil ⟨H,I,h⟩
def Dz {c:Expr}{t:TT}(h:PT X c t):ZV X [c] t:=λpins s σ H Q I hw=>wpAny_tests_one (h pins s σ H Q I hw)
def wO (X:Cx)(elt:Expr)(gens:List Comprehension)(sc:Scope)(pos:Pos)(d:Nat)(t:w9):Prop:=
 ∀(pins:b8)(s:Shared)(σ:St)(H:Hp)(D:Addr)(Q:St->Hp->Prop)(k:Sem Fin)(Q':Fin->Shared->Prop)(E:cf),Inv X pins σ H s->t D σ H Q->
  (∀s' a h,Inv X pins a h s'->Q a h->wpAny (model X.prog X.w) X.A k Q' E s')->wpAny (model X.prog X.w) X.A (KJ elt gens sc pos d (.ref D) X.env k) Q' E s
def d3 (t:TE):w9:=λD σ H Q=>t σ H λy H1=>∃ys,H1 D=some (.lst ys)/\ys.length<sizeLine/\Q σ (upd H1 D (.lst (ys++[y])))
def Ko (J:It)(g:TG)(ti:TT)(tm:w9):w9:=λD σ H Q=>∃W:Nat->Nat->St->Hp->Prop,(∃m,W 0 m σ H)/\∀i m σ H,W i m σ H->
 (J.stop i H/\Q σ H)∨(J.go i H/\∃N:St->Hp->Prop,(∀c h,N c h->∃M,M<m/\W (i+1) M c h)/\∀x h,J.yld i H x h->g x σ h λa H1=>ti a H1 λb d=>if b=true then tm D a d N else N a d)
def d4 (w:TI)(g:TG)(ti:TT)(tm:w9):w9:=λD σ H Q=>w σ H λJ H1=>Ko J g ti tm D σ H1 Q
section
variable {iter:Expr}{d:Nat}
def J2 (h:∀e s,X.xe e s->False){t:Sem α}{Q':α->Shared->Prop}(H:wpAny (model X.prog X.w) X.A t Q' X.xe s'):wpAny (model X.prog X.w) X.A t Q' E s':=
 wpAny_mono H (λ_ _ z=>z) λe s' z=>(h e s' z).elim
def DN {t:TE}(x:∀e s,X.xe e s->False)(he:PE X elt t)(g:gens[d+1]? =none):wO X elt gens sc pos d (d3 t):=by
 intro pins s σ H D Q k Q' E I h b;unfold KJ;rw[g];refine cy (cy (J2 x (zU (he pins s σ H _ I h) λu s1 ⟨y,H1,f,r,ys,c,z,a⟩=>?_)));refine cy (J2 x (zU (RG pins s1 σ H1 (.ref D) [y] (.ref D) [u] (λ_ l=>Q σ l) f rfl (.cons r .nil) ⟨D,ys,y,rfl,rfl,c,z,a⟩) λ_ s2 ⟨_,j,i,_,q⟩=>?_));exact cz (b s2 σ j i q)
def Al {g:TG}{ti:TT}{tm:w9}(Y:∀e s,X.xe e s->False)(Z:X.calm=true)(hg:gens[d]? =some ⟨tg,iter,ifs,0⟩)(ha:∀g',gens[d+1]? =some g'->g'.is_async=0)(M:PG X tg g)(hi:ZV X ifs ti)(hm:wO X elt gens sc pos d tm)
  {Q:St->Hp->Prop}{J:It}{B:Nat->Heap->Prop}(T:Turn X.prog X.w X.K tg J fp it B)(I:Inv X pins σ H s)(st:B 0 s.heap)(hf:∀b∈fp,wg X pins H b)
  (h:Ko J g ti tm D σ H Q){R:Result->Shared->Prop}(hR:∀s' a c,Inv X pins a c s'->Q a c->R (.ok .next) s'):
  codeAny (model X.prog X.w) X.A (.compLoop (.ListComp elt gens sc pos) d (.ref it) (.ref D) X.env) R s:=by
 obtain⟨W,⟨m0,w0⟩,turn⟩:=h;have S:∀{c:Hp},(∀b∈fp,c b=none)->∀b∈fp,wg X pins c b:=λhn b l=>⟨hn b l,(hf b l).2⟩;refine codeAny_loop rfl (λn s'=>∃i a c,Inv X pins a c s'/\B i s'.heap/\(∀b∈fp,c b=none)/\W i n a c) (λn s3 hI=>?_) m0 ⟨0,σ,H,I,st,λb l=>(hf b l).1,w0⟩;show wpAny _ X.A ((compTurn (.ListComp elt gens sc pos) d (.ref it) (.ref D) X.env).onRaise (λx=>do noteFrame x X.env;theTreesLotGoes x)) _ _ s3
 refine wpAny_noted ?_;rw[Ah hg ha];refine cy (wpAny_standAt ?_);obtain⟨i,j,C,I3,gQ,z,w3⟩:=hI;rcases turn i n j C w3 with ⟨stop,qn⟩|⟨go,N,hN,step⟩
 ·refine cy (zU (T.done X rfl rfl rfl Z i pins s3 j C _ I3 (S z) gQ stop) λr s4 ⟨L,I4⟩=>?_)
  subst L;exact cz (hR s4 j C I4 qn)
 ·refine cy (zU (T.item X rfl rfl rfl Z i pins s3 j C _ I3 (S z) gQ go) λr s4 ⟨u,L,h4⟩=>?_)
  subst L;refine cy (zU h4 λ_ s5 ⟨x,H5,I5,r5,y5,p,P⟩=>?_);have U:=I5.pinned (S P) (T.obj _ _ p);have back:∀{f:St}{q:Hp}{t:Shared},Inv X (pins++Kb fp s5.heap) f q t->N f q->∃m,m<n/\∃i a c,Inv X pins a c t/\B i t.heap/\(∀b∈fp,c b=none)/\W i m a c:=λ {f q t} v n7=>by
   obtain⟨m',hm,w7⟩:=hN f q n7;refine⟨m',hm,i+1,f,q,v.unpinned,T.keep _ _ _ p λb l o e=>(v.pin (b,o) (aR _ (aR _ (Ww l e)))).1,λb l=>?_,w7⟩;obtain⟨o,e,d⟩:=T.obj _ _ p b l;exact(v.pin (b,o) (aR _ (aR _ (Ww l e)))).2.1
  refine cy (J2 Y (zU (M _ s5 j H5 x u _ U r5 (step x H5 y5)) λ_ s6 ⟨y,H6,I6,q6⟩=>?_));refine cy (J2 Y (zU (hi _ s6 y H6 _ I6 q6) λok t ⟨q,v,E⟩=>?_));cases ok with
  |false=>exact cz ⟨rfl,back v E⟩|true=>
   rw[ag rfl]at E;exact hm _ t y q D _ _ _ _ v E λs8 σ8 H8 I8 q8=>cz ⟨rfl,back I8 q8⟩
def NG {g:TG}{ti:TT}{tm:w9}(i:∀e s,X.xe e s->False)(o:X.calm=true)(c:gens[d]? =some ⟨tg,iter,ifs,0⟩)(p:∀g',gens[d+1]? =some g'->g'.is_async=0)(t:PG X tg g)(j:ZV X ifs ti)(hm:wO X elt gens sc pos d tm)
  {Q:St->Hp->Prop}{J:It}{n:Nat->Heap->Prop}(T:Turn X.prog X.w X.K tg J fp it n)(I:Inv X pins σ H s)(st:n 0 s.heap)(hf:∀b∈fp,wg X pins H b)
  (h:Ko J g ti tm D σ H Q){R:Result->Shared->Prop}(q:∀s' a f,Inv X pins a f s'->Q a f->R (.ok .next) s'):
  codeAny (model X.prog X.w) X.A (.compStart (.ListComp elt gens sc pos) d (.ref it) (.ref D) X.env) R s:=by
 have loop:=Al i o c p t j hm T I st hf h q;refine codeAny_of_tree ?_;show wpAny _ _ ((compStart (.ListComp elt gens sc pos) d (.ref it) (.ref D) X.env).onRaise (λx=>do noteFrame x X.env;standAt theWindowsPlace)) _ _ s
 refine wpAny_notedAt ?_;unfold compStart;have l:(clausesOf (.ListComp elt gens sc pos))[d]? =some ⟨tg,iter,ifs,0⟩:=c;rw[l];show wpAny _ _ (ask >>= _) _ _ s;refine cy (wpAny_askSetting (wpAny_ite ?_))
 split
 ·first
   |exact cy (cz (cz (And.intro rfl loop)))
   |exact cz (And.intro rfl loop)
 ·first
   |exact cy (wpAny_rule (cy (wpAny_standAt (cy (T.self _ 0 s _ _ st (cz (And.intro rfl loop)))))))
   |(refine cy (wpAny_rule ?_);show wpAny _ _ (standAt iter.pos >>= _) _ _ s;exact cy (wpAny_standAt (cy (T.self _ 0 s _ _ st (cz (And.intro rfl loop))))))
def Dh {w:TI}{g:TG}{ti:TT}{tm:w9}(b:∀e s,X.xe e s->False)(o:X.calm=true)(c:gens[d+1]? =some ⟨tg,iter,ifs,0⟩)(p:∀g',gens[d+2]? =some g'->g'.is_async=0)(hw:PI X tg iter w)(t:PG X tg g)(n:ZV X ifs ti)(hm:wO X elt gens sc pos (d+1) tm)
  (j:∀x,foldedSetIterable iter X.env x=pure x:=by intro _;rfl):wO X elt gens sc pos d (d4 w g ti tm):=by
 intro pins s σ H D Q k Q' E I h l;unfold KJ;rw[c];refine cy (J2 b (zU (hw pins s σ H _ I h) λv s1 u=>?_));refine cy (wpAny_standAt (cy (wpAny_of_eq (j v) ?_)));refine cy (wpAny_holding (J2 b (zU u λi s2 r=>?_)));obtain⟨it,fp,B,J,C,e,y,T,gu,f2,q⟩:=r;subst e;refine cy (wpAny_runOwn (NG b o c p t n hm T y gu f2 q λs' a A z f=>?_));exact l s' a A z f
end
noncomputable def Zr (nl:Nat)(cap:b9)(σ:St):St:=List.replicate nl none++cap.map λi=>(σ[i]?).join
noncomputable def QB (M N:cc)(scope:Scope)(nl:Nat)(cap:b9):Bool:=
 N.length==nl+cap.length&&(List.range cap.length).all λk=>match N[nl+k]?,M[cap.getD k 0]? with
  |some x,some y=>x==y&&scope.names.any λz=>z.1==x&&z.2==NameKind.free|_,_=>false
def Dg {M:cc}{nl:Nat}(h:QB M N scope nl cap=true):(Zr nl cap σ).length=N.length/\
  ∀(j:Nat)(x:Str)(v:V),N[j]? =some x->(Zr nl cap σ)[j]? =some (some v)->(x,NameKind.free)∈scope.names/\∃i:Nat,M[i]? =some x/\σ[i]? =some (some v):=by
 unfold QB at h;rw[aw,aK]at h;obtain⟨p,n⟩:=h;refine⟨by unfold Zr;simp[p],λj x v t E=>?_⟩
 unfold Zr at E
 by_cases b:j<nl
 ·rw[ah (by simpa using b),bC]at E
  split at E<;>cases E
 ·rw[aq (by simpa using b),bj,ao]at E
  cases c:cap[j-nl]? with
  |none=>rw[c]at E;cases E|some i=>
   rw[c]at E;have e:(σ[i]?).join=some v:=aA E;have f:j-nl<cap.length:=(cB.mp c).1;have H:=cF.mp n (j-nl) (cC.mpr f);have q:nl+(j-nl)=j:=by omega
   rw[q,t]at H;have r:cap.getD (j-nl) 0=i:=by rw[ae,c];rfl
   rw[r]at H;cases hm:M[i]? with
   |none=>rw[hm]at H;cases H|some y=>
    rw[hm]at H;rw[aw,aK]at H;obtain⟨l,g⟩:=H;subst l;obtain⟨z,d,a⟩:=List.any_eq_true.mp g;rw[aw,aK,aK]at a;refine⟨?_,i,hm,?_⟩
    ·obtain⟨u,Z⟩:=z
     obtain⟨a1,a2⟩:=a;cases a1;cases a2;exact d
    ·cases s:σ[i]? with
     |none=>rw[s]at e;cases e|some o=>rw[s]at e;cases o with
      |none=>cases e|some w=>cases e;rfl
noncomputable abbrev yZ:Value->Shared->Prop:=λ_ _=>False
def Gx (K:Frag)(w:TI)(g:TG)(ti:TT)(tm:w9)(nl:Nat)(cap:b9):TE:=λσ H Q=>w σ H λJ h=>∀D,h D=none->K.lookup D=none->Ko J g ti tm D (Zr nl cap σ) (upd h D (.lst [])) λ_ a=>Q (.ref D) a
section
variable {iter:Expr}{wi:TI}{g:TG}{ti:TT}{tm:w9}{nl:Nat}
def OA (hc:X.calm=true)(S:Zb X sc)(t:QB X.N N sc nl cap=true)(ha:∀g',gs[0]? =some g'->g'.is_async=0)(hw:PI X tg iter wi)
  
  (hin:∀s H fp,Inv X pins σ H s->(∀b∈fp,wg X pins H b)->PG (jX X N sc s H fp yZ) tg g/\ZV (jX X N sc s H fp yZ) ifs ti/\wO (jX X N sc s H fp yZ) elt (⟨tg,iter,ifs,0⟩::gs) sc pos 0 tm)
  {Q:VK}(I:Inv X pins σ H s)(h:Gx X.K wi g ti tm nl cap σ H Q)
  {use:Option (Value->Sem Unit)}{Q':cf}
  (r:∀(D C:Addr)(s':Shared)(n:Hp)(m:cm),Inv X pins σ n s'->Q (.ref D) n->s'.heap.Ns C m->n C=none->C≠X.env.locals->X.s0.heap.objs.size<=C->(∀x c,X.env.cells.lookup x=some c->c≠C)->(∀q∈X.pn++pins,q.1≠C)->
   compPost (model X.prog X.w) X.A X.xe use Q' (.ref D) C (.ok .next) s')
  (hs:∀x,foldedSetIterable iter X.env x=pure x:=by intro _;rfl):
  wpAny (model X.prog X.w) X.A (comprehension (.ListComp elt (⟨tg,iter,ifs,0⟩::gs) sc pos) sc X.env p (newList []) false (eval iter X.env) use) Q' X.xe s:=by
 have j:∀y∈sc.names,y.2=.free->∃c,X.env.cells.lookup y.1=some c:=λy Y e=>I.ok.has _ (S.free y Y e);refine wpAny_comprehension_free (use:=use) rfl hs (RA j) S.kind (λy Y e=>by
  obtain⟨y1,y2⟩:=y;have e':y2=.local:=e;subst e';exact JF S.nd Y) ?_
 refine zU (hw pins s σ H _ I h) λv s1 h1=>zU h1 λitv s2 h2=>?_;obtain⟨it,fp,tn,J,M,e,I2,T,gu,f2,q2⟩:=h2;subst e;refine wpAny_newObj_type ?_;have hD:M s2.heap.objs.size=none:=I2.fresh;have hKD:X.K.lookup s2.heap.objs.size=none:=by
  cases ek:X.K.lookup s2.heap.objs.size with
  |none=>rfl|some o=>exact absurd (aG (I2.kIn _ _ ek)) (aW _)
 have U:=q2 _ hD hKD;generalize Z:({ s2 with heap:=s2.heap.push { cls:=.type "list",data:=.seq ([]:bY).toArray } }:Shared)=s3
 have f:s3={ s2 with heap:=s2.heap.push { cls:=.type "list",data:=.seq ([]:bY).toArray } }:=Z.symm
 have i:Inv X pins σ (upd M s2.heap.objs.size (.lst [])) s3:=by
  rw[f];exact I2.laid (t':=s2.toks) (λb u e=>af _ e) (ar _) ⟨by simp,[],0,.nil,av _ rfl⟩
 have B:∀b∈fp,∃o,s2.heap.get? b=some o:=λb a=>let ⟨o,e,_⟩:=T.obj 0 _ gu b a;⟨o,e⟩
 have P:s3.heap.objs.size=s2.heap.objs.size+1:=by rw[f];exact bf ..
 have gQ:tn 0 s3.heap:=T.keep _ _ _ gu λb a o e=>by rw[f];exact af _ e
 have E:∀b∈fp,b<s3.heap.objs.size:=λb a=>by
  obtain⟨o,e⟩:=B b a;rw[P];exact bc (aG e)
 have L:∀b∈fp,wg X pins (upd M s2.heap.objs.size (.lst [])) b:=λb a=>by
  obtain⟨o,e⟩:=B b a;refine⟨?_,(f2 b a).2⟩;rw[qh (aM (aG e))];exact(f2 b a).1
 generalize upd M s2.heap.objs.size (.lst [])=H3 at i L U;generalize s2.heap.objs.size=D at U ⊢;refine M1 ?_;obtain⟨cl,cs⟩:=Dg t (σ:=σ);have I4:=Dl (xe:=yZ) i S L E cl cs;obtain⟨hgt,hi,hm⟩:=hin s3 H3 fp i L;refine NG (X:=jX X N sc s3 H3 fp yZ) (gens:=⟨tg,iter,ifs,0⟩::gs) (d:=0) (λ_ _ z=>z) hc rfl ha hgt hi hm T I4 (T.keep _ _ _ gQ λb a o e=>pushCells_keeps _ _ _ _ (af _ e)) (λb a=>?_) U λs' σ' n l q'=>?_
 ·obtain⟨g1,g2,g3,g4,g5,g6⟩:=L b a
  refine⟨g1,aM (E b a),λz=>?_,.inl a,(I4.ok.exf b a).2,λp hp=>absurd (show p∈([]:b8) from hp) (by simp)⟩
  rcases cA.mp (i.stkSub b z) with e|e
  ·exact g2 e
  ·exact g3 e
 ·have I5:Inv X pins σ n s':=i.call' l.os l.base l.hok l.bare λb a=>by
   obtain⟨g1,g2,g3,g4,g5,g6⟩:=L b a;exact⟨g4,g2,g5,g6⟩
  obtain⟨m,hn,_⟩:=l.loc;refine r D _ s' n m I5 q' hn l.free (bq i.lt) i.sz (λx c e z=>?_) λq hq z=>?_
  ·obtain⟨v,w⟩:=i.cell x c e
   exact aW _ (aD w.lt (by rw[z];exact ar _))
  ·exact aW _ (aD (aG (i.pin q hq).1) (by rw[z];exact ar _))
def BI (d:X.calm=true)(S:Zb X sc)(p:QB X.N N sc nl cap=true)(i:∀g',gs[0]? =some g'->g'.is_async=0)(hw:PI X tg iter wi)
  (n:∀s H fp,PG (jX X N sc s H fp yZ) tg g/\ZV (jX X N sc s H fp yZ) ifs ti/\wO (jX X N sc s H fp yZ) elt (⟨tg,iter,ifs,0⟩::gs) sc pos 0 tm)
  (c:∀x,foldedSetIterable iter X.env x=pure x:=by intro _;rfl):PE X (.ListComp elt (⟨tg,iter,ifs,0⟩::gs) sc pos) (Gx X.K wi g ti tm nl cap):=by
 intro pins s σ H Q I h;rw[eval_ListComp];refine OA (use:=none) d S p i hw (λs H fp _ _=>n s H fp) I h (λD C s' w m v q hn u t r l j=>?_) c;exact⟨m,hn,λh' a=>⟨.ref D,w,v.turned (t':=s'.toks) (λb o f e=>(a.2 b f).trans e) u t (.inr r) l j,rfl,q⟩⟩
def HG {p:Pos}{c:Pos}(Q:X.N.Nodup)(j:X.N[i]? =some x)(r:X.env.scope.names.lookup x=some .local)
  (w:swapsWith (.ListComp elt (⟨tg,iter,ifs,0⟩::gs) sc pos) (some (.Name x p)) c.line X.env=pure true)
  (L:X.calm=true)(S:Zb X sc)(d:QB X.N N sc nl cap=true)(P:∀g',gs[0]? =some g'->g'.is_async=0)(hw:PI X tg iter wi)
  (n:∀s H fp,PG (jX X N sc s H fp yZ) tg g/\ZV (jX X N sc s H fp yZ) ifs ti/\wO (jX X N sc s H fp yZ) elt (⟨tg,iter,ifs,0⟩::gs) sc pos 0 tm)
  (E:∀x,foldedSetIterable iter X.env x=pure x:=by intro _;rfl):PS X (.Assign [.Name x p] (.ListComp elt (⟨tg,iter,ifs,0⟩::gs) sc pos) c) (GO (Gx X.K wi g ti tm nl cap) (Gs i)):=by
 intro pins s σ H D I h;rw[exec_Assign_Name_used _ _ _ _ w];refine cy (wpAny_standAt (cy ?_));show wpAny _ X.A (do let _ <- comprehension (.ListComp elt (⟨tg,iter,ifs,0⟩::gs) sc pos) sc X.env _ (newList []) false (eval iter X.env) (some (assign (.Name x p) X.env))) _ _ s
 refine cy (wpAny_mono (OA (use:=some (assign (.Name x p) X.env)) (Q':=λ_ s'=>SP X pins D .next s') L S d P hw (λs H fp _ _=>n s H fp) I h (λy C s' H' m I' q hn Y u U t T=>?_) E) (λ_ s' J=>cz (cz J)) λ_ _ e=>e);show wpAny _ X.A (assign (.Name x p) X.env (.ref y)) _ _ _;refine wpAny_assign_Name (Pf I' Q j (.inl r) (v:=.ref y) rfl (λs2 I2 ⟨a,B,Z⟩=>?_) (.inr r));have l:C≠a:=by
  rcases Z with e|e
  ·rw[e];exact u
  ·exactλz=>t x a e z.symm
 refine⟨m,hn.sameBut B l,λh' f=>⟨_,H',I2.turned (t':=s2.toks) (λb o M e=>(f.2 b M).trans e) Y u (.inr U) t T,q⟩⟩
end
end L2
namespace Mi
open PySem PySem.Spec PyProof.Rows L2
inductive W where
 |non|bl (b:Bool)|int (i:Int)|str (x:Str)|tup (xs:List W)|ref (n:Nat)
 |clo (k:Nat) (xs:List W) (P:Obj->Addr->Obj->List V->Prop)
 |xc (x:Str)
inductive O where
 |lst (xs:List W)|ro (xs:List W)|dct (kvs:List (Key×W))
 |td (kvs:List (List Int×W))
 |tr (kvs:List (List Int×W))
 |tab (q:Str) (P:Addr)
noncomputable def O.mut:O->Bool
 |.ro _=>false|.tr _=>false|_=>true
noncomputable abbrev Hx:=List O
noncomputable abbrev En:=List (Option W)
inductive R (α:Type) where
 |ok (a:α) (A:Hx)|exc (x:Str) (A:Hx)|bad
noncomputable def R.bind {β:Type}(r:R α)(f:α->Hx->R β):R β:=match r with
 |.ok a A=>f a A|.exc x A=>.exc x A|.bad=>.bad
def R.post (r:R α)(P:α->Hx->Prop)(E:Str->Hx->Prop):Prop:=match r with
 |.ok a A=>P a A|.exc x A=>E x A|.bad=>False
noncomputable def R.nox (r:R α):R α:=match r with
 |.ok a A=>.ok a A|.exc _ _=>.bad|.bad=>.bad
section
variable {β:Type}{r:R α}{f:α->Hx->R β}{P Q:α->Hx->Prop}{P':β->Hx->Prop}{E F:Str->Hx->Prop}
def zO {a:α}{A:Hx}:(R.ok a A).bind f=f a A:=rfl
def Pj {A:Hx}:(R.exc x A:R α).bind f=.exc x A:=rfl
def zZ:(r.bind f).post P' E↔r.post (λa A=>(f a A).post P' E) E:=by cases r<;>exact Iff.rfl
def qp (h:r.post P E)(H:∀a A,P a A->Q a A)(b:∀x A,E x A->F x A):r.post Q F:=by
 cases r with
 |ok a A=>exact H _ _ h|exc x A=>exact b _ _ h|bad=>exact h
end
abbrev Ev:=En->Hx->R W
inductive zcU (K:Frag)(H:Hp)(R:List V->Prop)(v:V):Prop
 |mk (a:Addr) (vs:List V) (e:v=.ref a) (h:qM K H a vs) (r:R vs)
inductive zdo (H:Hp)(P:Obj->Addr->Obj->List V->Prop)(R:List V->Prop)(v:V):Prop
 |mk (a:Addr) (ob:Obj) (u:HO) (c:Addr) (oc:Obj) (uc:HO) (vs:List V) (e:v=.ref a) (h1:H a=some (.frz ob u)) (h2:H c=some (.frz oc uc)) (p:P ob c oc vs) (r:R vs)
inductive zcZ (R:V->Prop)(Rs:List V->Prop)(vs:List V):Prop
 |mk (v:V) (r:List V) (e:vs=v::r) (h:R v) (t:Rs r)
mutual
noncomputable def RV (K:Frag)(φ:bZ)(H:Hp):W->V->Prop
 |.non,v=>v=.non|.bl b,v=>v=.bl b|.int i,v=>v=.int i|.str x,v=>v=.str x|.tup ws,v=>zcU K H (zy K φ H ws) v|.ref n,v=>∃a,v=.ref a/\φ[n]? =some a|.clo _ ws P,v=>zdo H P (zy K φ H ws) v|.xc x,v=>∃a o u C,v=.ref a/\H a=some (.frz o u)/\o.cls=.ref C/\nsIn K mainGlobals x=some (some (.ref C))
noncomputable def zy (K:Frag)(φ:bZ)(H:Hp):List W->List V->Prop
 |[],vs=>vs=[]|w::ws,vs=>zcZ (RV K φ H w) (zy K φ H ws) vs
end
structure Le (K:Frag)(φ:bZ)(H:Hp)(φ':bZ)(H':Hp):Prop where
 ex:∀(n:Nat)(a:Addr),φ[n]? =some a->φ'[n]? =some a
 tp:∀a vs,qM K H a vs->qM K H' a vs
 fr:∀a o,H a=some o->(∀n:Nat,φ[n]?≠some a)->H' a=some o
 nw:∀(n:Nat)(a:Addr),φ'[n]? =some a->φ[n]? =some a∨H a=none
 st:∀a,H' a=none->H a=none
 fz:∀a o u,H a=some (.frz o u)->H' a=some (.frz o u)
def Le.refl {K φ H}:Le K φ H φ H:=⟨λ_ _ h=>h,λ_ _ h=>h,λ_ _ h _=>h,λ_ _ h=>.inl h,λ_ h=>h,λ_ _ _ h=>h⟩
def Le.trans {K φ H φ1 H1 φ2 H2}(a:Le K φ H φ1 H1)(b:Le K φ1 H1 φ2 H2):Le K φ H φ2 H2 where
 ex:=λn x h=>b.ex n x (a.ex n x h)
 tp:=λn x h=>b.tp n x (a.tp n x h)
 fr:=λc o h n=>b.fr c o (a.fr c o h n) λk e=>by
  rcases a.nw k c e with e|e
  ·exact n k e
  ·rw[h]at e;cases e
 nw:=λn c e=>by
  rcases b.nw n c e with e|e
  ·exact a.nw n c e
  ·exact .inr (a.st c e)
 st:=λc e=>a.st c (b.st c e)
 fz:=λc o u h=>b.fz c o u (a.fz c o u h)
def Le.off {K φ H φ' H'}(l:Le K φ H φ' H'){o:HO}(h:H D=some o)(n:∀k:Nat,φ[k]?≠some D):H' D=some o/\∀k:Nat,φ'[k]?≠some D:=
 ⟨l.fr D o h n,λk e=>by
  rcases l.nw k D e with e|e
  ·exact n k e
  ·rw[h]at e;cases e⟩
section
variable {K:Frag}{φ':bZ}{H':Hp}
structure Z5 (K:Frag)(φ:bZ)(H:Hp)(φ':bZ)(H':Hp):Prop where
 ex:∀(n:Nat)(a:Addr),φ[n]? =some a->φ'[n]? =some a
 tp:∀a vs,qM K H a vs->qM K H' a vs
 fz:∀a o u,H a=some (.frz o u)->H' a=some (.frz o u)
mutual
theorem RV.monoW (l:Z5 K φ H φ' H'):∀{w:W}{v:V},RV K φ H w v->RV K φ' H' w v
 |.non,_,h=>h|.bl _,_,h=>h|.int _,_,h=>h|.str _,_,h=>h|.tup ws,_,⟨a,vs,e,t,r⟩=>⟨a,vs,e,l.tp _ _ t,zy.monoW l r⟩|.ref n,_,⟨a,e,f⟩=>⟨a,e,l.ex _ _ f⟩|.clo _ ws P,_,⟨a,ob,u,c,g,uc,vs,e,d,b,i,r⟩=>⟨a,ob,u,c,g,uc,vs,e,l.fz _ _ _ d,l.fz _ _ _ b,i,zy.monoW l r⟩|.xc x,_,⟨a,o,u,C,e,d,b⟩=>⟨a,o,u,C,e,l.fz _ _ _ d,b⟩
theorem zy.monoW (l:Z5 K φ H φ' H'):∀{ws:List W}{vs:List V},zy K φ H ws vs->zy K φ' H' ws vs
 |[],_,h=>h|w::ws,_,⟨v,r,e,h,t⟩=>⟨v,r,e,RV.monoW l h,zy.monoW l t⟩
end
def RV.mono {w:W}(h:RV K φ H w v)(l:Le K φ H φ' H'):RV K φ' H' w v:=RV.monoW ⟨l.ex,l.tp,l.fz⟩ h
def zy.mono {w:List W}{v:List V}(h:zy K φ H w v)(l:Le K φ H φ' H'):zy K φ' H' w v:=zy.monoW ⟨l.ex,l.tp,l.fz⟩ h
structure y0 (K:Frag)(D:Addr)(φ:bZ)(H:Hp)(φ':bZ)(H':Hp):Prop where
 ex:∀(n:Nat)(a:Addr),φ[n]? =some a->φ'[n]? =some a
 tp:∀a vs,qM K H a vs->qM K H' a vs
 fr:∀a o,a≠D->H a=some o->(∀n:Nat,φ[n]?≠some a)->H' a=some o
 nw:∀(n:Nat)(a:Addr),φ'[n]? =some a->φ[n]? =some a∨H a=none
 st:∀a,H' a=none->H a=none
 fz:∀a o u,H a=some (.frz o u)->H' a=some (.frz o u)
def y0.refl {D}:y0 K D φ H φ H:=⟨λ_ _ h=>h,λ_ _ h=>h,λ_ _ _ h _=>h,λ_ _ h=>.inl h,λ_ h=>h,λ_ _ _ h=>h⟩
def Le.toD {D}(l:Le K φ H φ' H'):y0 K D φ H φ' H':=⟨l.ex,l.tp,λa o _ h n=>l.fr a o h n,l.nw,l.st,l.fz⟩
def y0.trans {D φ1 H1 φ2 H2}(a:y0 K D φ H φ1 H1)(b:y0 K D φ1 H1 φ2 H2):y0 K D φ H φ2 H2 where
 ex:=λn x h=>b.ex n x (a.ex n x h)
 tp:=λn x h=>b.tp n x (a.tp n x h)
 fr:=λc o ne h n=>b.fr c o ne (a.fr c o ne h n) λk e=>by
  rcases a.nw k c e with e|e
  ·exact n k e
  ·rw[h]at e;cases e
 nw:=λn c e=>by
  rcases b.nw n c e with e|e
  ·exact a.nw n c e
  ·exact .inr (a.st c e)
 st:=λc e=>a.st c (b.st c e)
 fz:=λc o u h=>b.fz c o u (a.fz c o u h)
def RV.monoD {D}{w:W}(h:RV K φ H w v)(l:y0 K D φ H φ' H'):RV K φ' H' w v:=RV.monoW ⟨l.ex,l.tp,l.fz⟩ h
def zy.monoD {D}{w:List W}{v:List V}(h:zy K φ H w v)(l:y0 K D φ H φ' H'):zy K φ' H' w v:=zy.monoW ⟨l.ex,l.tp,l.fz⟩ h
theorem zy.length:∀{ws:List W}{vs:List V},zy K φ H ws vs->ws.length=vs.length
 |[],_,h=>by cases h;rfl|w::ws,_,⟨v,r,e,_,t⟩=>by subst e;simp[zy.length t]
theorem zy.get:∀{ws:List W}{vs:List V}{i:Nat}{w:W},zy K φ H ws vs->ws[i]? =some w->∃v,vs[i]? =some v/\RV K φ H w v
 |[],_,_,_,_,e=>by simp at e|w::ws,_,0,_,⟨v,r,e,h,t⟩,q=>by subst e;simp at q;subst q;exact⟨v,by simp,h⟩|w::ws,_,i+1,x,⟨v,r,e,h,t⟩,q=>by
  subst e;obtain⟨y,b,a⟩:=zy.get (i:=i) (w:=x) t (by simpa using q)
  exact⟨y,by simpa using b,a⟩
theorem zy.append:∀{ws us:List W}{vs xs:List V},zy K φ H ws vs->zy K φ H us xs->zy K φ H (ws++us) (vs++xs)
 |[],_,_,_,h,t=>by cases h;exact t|w::ws,_,_,_,⟨v,r,e,h,t⟩,T=>by subst e;exact⟨v,r++_,rfl,h,zy.append t T⟩
def zy.one {w:W}(h:RV K φ H w v):zy K φ H [w] [v]:=⟨v,[],rfl,h,rfl⟩
def zy.nil:zy K φ H [] []:=rfl
def zy.cons {w:W}{v:V}{ws:List W}{vs:List V}(h:RV K φ H w v)(t:zy K φ H ws vs):zy K φ H (w::ws) (v::vs):=⟨v,vs,rfl,h,t⟩
theorem zy.set {w:W}(q:RV K φ H w v):∀{ws:List W}{vs:List V}(i:Nat),zy K φ H ws vs->zy K φ H (ws.set i w) (vs.set i v)
 |[],_,_,h=>by cases h;exact rfl|_::_,_,0,⟨a,r,e,h,t⟩=>by subst e;exact⟨v,r,rfl,q,t⟩|_::_,_,i+1,⟨a,r,e,h,t⟩=>by subst e;exact⟨a,_,rfl,h,zy.set q i t⟩
theorem zy.drop:∀{ws:List W}{vs:List V}(n:Nat),zy K φ H ws vs->zy K φ H (ws.drop n) (vs.drop n)
 |[],_,n,h=>by cases h;rw[List.drop_nil,List.drop_nil];exact zy.nil|_::_,_,0,h=>by simpa using h|_::_,_,n+1,⟨v,r,e,h,t⟩=>by subst e;simpa using zy.drop n t
theorem zy.take:∀{ws:List W}{vs:List V}(n:Nat),zy K φ H ws vs->zy K φ H (ws.take n) (vs.take n)
 |[],_,n,h=>by cases h;rw[List.take_nil,List.take_nil];exact zy.nil|_::_,_,0,h=>by rw[List.take_zero,List.take_zero];exact zy.nil|_::_,_,n+1,⟨v,r,e,h,t⟩=>by subst e;exact⟨v,_,rfl,h,zy.take n t⟩
theorem zy.erase:∀{ws:List W}{vs:List V}(n:Nat),zy K φ H ws vs->zy K φ H (ws.eraseIdx n) (vs.eraseIdx n)
 |[],_,n,h=>by cases h;rw[List.eraseIdx_nil,List.eraseIdx_nil];exact zy.nil|_::_,_,0,⟨v,r,e,h,t⟩=>by subst e;simpa using t|_::_,_,n+1,⟨v,r,e,h,t⟩=>by subst e;exact⟨v,_,rfl,h,zy.erase n t⟩
theorem zy.ints:∀{ns:bX}{vs:List V},zy K φ H (ns.map W.int) vs↔vs=ns.map V.int
 |[],vs=>Iff.rfl|n::ns,vs=>by
  constructor
  ·rintro⟨v,r,e,h,t⟩
   rw[e,(show v=V.int n from h),zy.ints.mp t];rfl
  ·intro e
   exact⟨V.int n,ns.map V.int,e,rfl,zy.ints.mpr rfl⟩
def Yq (K:Frag)(H:Hp)(a:Addr)(xs:List V):Prop:=
 (∃ob,H a=some (.frz ob (.lst xs)))∨
  ∃(o:Obj) (its:Array Value) (n:Nat),K.lookup a=some o/\o.cls=.type "list" /\ o.dict=none/\o.data=.seq its n/\its.size<=sizeLine/\Vals xs its.toList
def Yq.sq {xs:List V}(h:Yq K H a xs):qW K H a xs:=by
 rcases h with h|h
 ·exact .inl (.inr h)
 ·exact .inr h
inductive TabAt (H:Hp)(q:Str)(cv:Value):Prop
 |mk (c:Addr) (oc:Obj) (u:HO) (vs:Array Value) (t:Tok) (e:cv=.ref c) (h:H c=some (.frz oc u)) (d:oc.data=.fields vs/\vs[1]? =some (.str q t))
def Kz (H:Hp)(q:Str)(ps:Array Value):Prop:=TriplesOk ps.toList/\∀pos cv,codeAmong pos ps.toList=some cv->TabAt H q cv
def Kz.mono {q:Str}{ps:Array Value}(h:Kz H q ps)(l:∀a o u,H a=some (.frz o u)->H' a=some (.frz o u)):Kz H' q ps:=
 ⟨h.1,λpos cv e=>by obtain⟨c,b,u,vs,t,g,f,d⟩:=h.2 pos cv e;exact⟨c,b,u,vs,t,g,l _ _ _ f,d⟩⟩
noncomputable def hT (ks:bX):Int:=reduceHash (Builtin.Tuple.tupleHashOf (ks.map hashInt))
def d6 (a:Addr)(xs:List (List Int×Addr×V))(h:Heap):Prop:=(a==sysModules)=false/\xs.length<=sizeLine/\∃zs:List (List Int×Addr×Value),
 Paired (λ(p:List Int×Addr×V) (q:List Int×Addr×Value)=>p.1=q.1/\p.2.1=q.2.1/\RelV p.2.2 q.2.2) xs zs/\
 ∃o e E,h.get? a=some o/\o.ExactDict/\o.data=.dict e E/\e.toList=zs.map (λx=>(⟨hT x.1,.ref x.2.1,x.2.2⟩:DictEntry))/\(zs.map (·.1)).Nodup
def d7 (a:Addr)(xs:List (List Int×Addr×V))(o:Obj):Prop:=(a==sysModules)=false/\xs.length<=sizeLine/\∃zs:List (List Int×Addr×Value),
 Paired (λ(p:List Int×Addr×V) (q:List Int×Addr×Value)=>p.1=q.1/\p.2.1=q.2.1/\RelV p.2.2 q.2.2) xs zs/\
 ∃e E,o.ExactDict/\o.data=.dict e E/\e.toList=zs.map (λx=>(⟨hT x.1,.ref x.2.1,x.2.2⟩:DictEntry))/\(zs.map (·.1)).Nodup
def OR (K:Frag)(φ:bZ)(H:Hp)(a:Addr):O->Prop
 |.lst ws=>∃vs,H a=some (.lst vs)/\zy K φ H ws vs|.ro ws=>∃vs,Yq K H a vs/\zy K φ H ws vs|.dct kvs=>∃us,H a=some (.dK us)/\us.map (·.1)=kvs.map (·.1)/\zy K φ H (kvs.map (·.2)) (us.map (·.2))|.td kvs=>∃xs:List (List Int×Addr×V),H a=some (.ext (d6 a xs))/\xs.map (·.1)=kvs.map (·.1)/\(∀x∈xs,qM K H x.2.1 (x.1.map V.int))/\zy K φ H (kvs.map (·.2)) (xs.map (·.2.2))|.tr kvs=>∃(ob:Obj) (u:HO) (xs:List (List Int×Addr×V)),H a=some (.frz ob u)/\d7 a xs ob/\xs.map (·.1)=kvs.map (·.1)/\(∀x∈xs,qM K H x.2.1 (x.1.map V.int))/\zy K φ H (kvs.map (·.2)) (xs.map (·.2.2))|.tab q P=>a=P/\∃ps,H a=some (.tbl ps)/\Kz H q ps
structure zI (K:Frag)(φ:bZ)(A:Hx)(H:Hp):Prop where
 len:φ.length=A.length
 inj:∀(i j:Nat)(a:Addr)(o o':O),φ[i]? =some a->φ[j]? =some a->A[i]? =some o->A[j]? =some o'->o.mut=true->o'.mut=true->i=j
 ob:∀(n:Nat)(o:O),A[n]? =some o->∃a,φ[n]? =some a/\OR K φ H a o
variable {A:Hx}
def OR.there {o:O}(h:OR K φ H a o)(m:o.mut=true):∃u,H a=some u/\(∀xs,u≠.tup xs)/\(∀ob v,u≠.frz ob v):=by
 cases o with
 |lst ws=>obtain⟨vs,e,_⟩:=h;exact⟨_,e,λ_ z=>(by cases z),λ_ _ z=>(by cases z)⟩|ro ws=>cases m|dct kvs=>obtain⟨vs,e,_⟩:=h;exact⟨_,e,λ_ z=>(by cases z),λ_ _ z=>(by cases z)⟩|td kvs=>obtain⟨vs,e,_⟩:=h;exact⟨_,e,λ_ z=>(by cases z),λ_ _ z=>(by cases z)⟩|tr _=>cases m|tab q P=>obtain⟨_,vs,e,_⟩:=h;exact⟨_,e,λ_ z=>(by cases z),λ_ _ z=>(by cases z)⟩
def WX {o:HO}{vs:List V}(h:qM K H a vs)(n:∀xs,H b≠some (.tup xs))(N:∀ob u,H b≠some (.frz ob u)):qM K (upd H b o) a vs:=by
 rcases h with (h|⟨ob,h⟩)|h
 ·exact .inl (.inl (by rw[qh];exact h;intro e;subst e;exact n _ h))
 ·exact .inl (.inr ⟨ob,by rw[qh];exact h;intro e;subst e;exact N _ _ h⟩)
 ·exact .inr h
theorem Le.upd {o:HO}{k:Nat}(c:φ[k]? =some b)(n:∀xs,H b≠some (.tup xs))(N:∀ob u,H b≠some (.frz ob u)):Le K φ H φ (upd H b o) where
 ex:=λ_ _ h=>h
 tp:=λ_ _ h=>WX h n N
 fr:=λa u h z=>by
  rw[qh];exact h;intro e;subst e;exact z k c
 nw:=λ_ _ h=>.inl h
 st:=λa h=>by
  by_cases e:a=b
  ·subst e;rw[jD]at h;cases h
  ·rw[qh e]at h;exact h
 fz:=λa ob u h=>by
  rw[qh];exact h;intro e;subst e;exact N _ _ h
def Le.new {p:Addr}{o:HO}(b:H p=none):Le K φ H φ (L2.upd H p o) where
 ex:=λ_ _ h=>h
 tp:=λ_ _ h=>WX h (λxs z=>by rw[b]at z;cases z) (λ_ _ z=>by rw[b]at z;cases z)
 fr:=λa u h z=>by
  rw[qh];exact h;intro e;subst e;rw[b]at h;cases h
 nw:=λ_ _ h=>.inl h
 st:=λa h=>by
  by_cases e:a=p
  ·subst e;rw[jD]at h;cases h
  ·rw[qh e]at h;exact h
 fz:=λa ob u h=>by
  rw[qh];exact h;intro e;subst e;rw[b]at h;cases h
def Le.alloc {p:Addr}{o:HO}(b:H p=none):Le K φ H (φ++[p]) (L2.upd H p o) where
 ex:=λn a h=>by
  have:=(cB.mp h).1
  rw[ah this];exact h
 tp:=(Le.new (φ:=φ) b).tp
 fr:=(Le.new (K:=K) (φ:=φ) b).fr
 nw:=λn a h=>by
  by_cases hn:n < φ.length
  ·rw[ah hn]at h;exact .inl h
  ·rw[aq (by omega)]at h
   have e:a=p:=by
    have:=bB h
    simpa using this
   subst e;exact .inr b
 st:=(Le.new (K:=K) (φ:=φ) b).st
 fz:=(Le.new (K:=K) (φ:=φ) b).fz
def Le.ofD {o:HO}(b:H D=none)(l:y0 K D φ (L2.upd H D o) φ' H'):Le K φ H φ' H' where
 ex:=l.ex
 tp:=λa vs h=>l.tp a vs ((Le.new (K:=K) (φ:=φ) b).tp a vs h)
 fr:=λa u h n=>by
  have ne:a≠D:=by rintro rfl;rw[b]at h;cases h
  exact l.fr a u ne (by rw[qh ne];exact h) n
 nw:=λn a e=>by
  rcases l.nw n a e with e|e
  ·exact .inl e
  ·by_cases h:a=D
   ·subst h;rw[jD]at e;cases e
   ·rw[qh h]at e;exact .inr e
 st:=λa e=>by
  have E:=l.st a e
  by_cases h:a=D
  ·subst h;rw[jD]at E;cases E
  ·rw[qh h]at E;exact E
 fz:=λa ob u h=>l.fz a ob u (by rw[qh];exact h;rintro rfl;rw[b]at h;cases h)
theorem y0.upd {o:HO}{xs:List V}(b:H D=some (.lst xs)):y0 K D φ H φ (L2.upd H D o) where
 ex:=λ_ _ h=>h
 tp:=λa vs h=>WX h (λxs z=>by rw[b]at z;cases z) (λ_ _ z=>by rw[b]at z;cases z)
 fr:=λa u ne h n=>by rw[qh ne];exact h
 nw:=λ_ _ h=>.inl h
 st:=λa e=>by
  by_cases h:a=D
  ·subst h;rw[jD]at e;cases e
  ·rw[qh h]at e;exact e
 fz:=λa ob u h=>by
  rw[qh];exact h;intro e;subst e;rw[b]at h;cases h
def OR.keep {o:O}(h:OR K φ H a o)(l:Le K φ H φ' H')(e:∀u,H a=some u->H' a=some u):OR K φ' H' a o:=by
 cases o with
 |lst ws=>obtain⟨vs,q,r⟩:=h;exact⟨vs,e _ q,r.mono l⟩|dct kvs=>obtain⟨vs,q,k,r⟩:=h;exact⟨vs,e _ q,k,r.mono l⟩|td kvs=>obtain⟨vs,q,k,t,r⟩:=h;exact⟨vs,e _ q,k,λx b=>l.tp _ _ (t x b),r.mono l⟩|tr kvs=>obtain⟨ob,u,vs,q,d,k,t,r⟩:=h;exact⟨ob,u,vs,e _ q,d,k,λx b=>l.tp _ _ (t x b),r.mono l⟩|tab q P=>obtain⟨k,ps,q,r⟩:=h;exact⟨k,ps,e _ q,r.mono l.fz⟩|ro ws=>
  obtain⟨vs,q,r⟩:=h;refine⟨vs,?_,r.mono l⟩;rcases q with ⟨ob,q⟩|q
  ·exact .inl ⟨ob,e _ q⟩
  ·exact .inr q
theorem zI.alloc {p:Addr}{u:HO}{o:O}(S:zI K φ A H)(s:H p=none)(new:OR K (φ++[p]) (L2.upd H p u) p o):Le K φ H (φ++[p]) (L2.upd H p u)/\zI K (φ++[p]) (A++[o]) (L2.upd H p u):=by
 have l:Le K φ H (φ++[p]) (L2.upd H p u):=Le.alloc s;have old:∀(i:Nat) a,(φ++[p])[i]? =some a->i<A.length->φ[i]? =some a:=λi a e b=>by
  rw[ah (by rw[S.len];exact b)]at e;exact e
 refine⟨l,by simp[S.len],λi j a y x r g f c m1 m2=>?_,λn o' e=>?_⟩
 ·by_cases b:i<A.length
  ·by_cases d:j<A.length
   ·rw[ah b]at f
    rw[ah d]at c;exact S.inj i j a y x (old i a r b) (old j a g d) f c m1 m2
   ·exfalso
    rw[ah b]at f;have v:j=A.length:=by have:=(cB.mp c).1;simp at this;omega
    subst v;rw[aq (by rw[S.len];exact ar _),S.len]at g
    simp at g;obtain⟨C,E,q⟩:=S.ob i y f;rw[old i a r b]at E;cases E;obtain⟨z,h,_⟩:=q.there m1;rw[<- g,s]at h;cases h
  ·have w:i=A.length:=by have:=(cB.mp f).1;simp at this;omega
   by_cases d:j<A.length
   ·exfalso
    rw[ah d]at c;subst w;rw[aq (by rw[S.len];exact ar _),S.len]at r
    simp at r;obtain⟨C,E,q⟩:=S.ob j x c;rw[old j a g d]at E;cases E;obtain⟨z,h,_⟩:=q.there m2;rw[<- r,s]at h;cases h
   ·have:=(cB.mp c).1;simp at this;omega
 ·by_cases hn:n<A.length
  ·rw[ah hn]at e
   obtain⟨a,E,q⟩:=S.ob n o' e;refine⟨a,l.ex _ _ E,q.keep l λz h=>?_⟩;rw[qh];exact h;intro B;subst B;rw[s]at h;cases h
  ·have t:n=A.length:=by have:=(cB.mp e).1;simp at this;omega
   subst t;rw[aq (ar _)]at e;simp at e;subst e;exact⟨p,by rw[aq (by rw[S.len];exact ar _),S.len];simp,new⟩
def zI.write {p:Addr}{u:HO}{o o':O}(S:zI K φ A H)(hn:A[n]? =some o)(m:o.mut=true)(X:o'.mut=true)(c:φ[n]? =some p)(new:OR K φ (L2.upd H p u) p o'):
  Le K φ H φ (L2.upd H p u)/\zI K φ (A.set n o') (L2.upd H p u):=by
 obtain⟨U,e,q⟩:=S.ob n o hn;rw[c]at e;cases e;obtain⟨z,h,D,N⟩:=q.there m;have l:Le K φ H φ (L2.upd H p u):=Le.upd c (λxs e=>by rw[h]at e;exact D xs (aA e)) λob v e=>by rw[h]at e;exact N ob v (aA e)
 have mt:∀(i:Nat)(w:O),(A.set n o')[i]? =some w->w.mut=true->∃f,A[i]? =some f/\f.mut=true:=λi w e M=>by
  by_cases hi:i=n
  ·subst hi;exact⟨o,hn,m⟩
  ·rw[aH (Ne.symm hi)]at e;exact⟨w,e,M⟩
 refine⟨l,by simp[S.len],λi j a C B Q P L J m1 m2=>?_,λi w e=>?_⟩
 ·obtain⟨s,E,k1⟩:=mt i C L m1
  obtain⟨g,T,k2⟩:=mt j B J m2;exact S.inj i j a s g Q P E T k1 k2
 ·by_cases hi:i=n
  ·subst hi
   have:i<A.length:=(cB.mp hn).1
   rw[aJ this]at e;cases e;exact⟨p,c,new⟩
  ·rw[aH (Ne.symm hi)]at e
   obtain⟨a,E,r⟩:=S.ob i w e;refine⟨a,E,?_⟩
   by_cases hm:w.mut=true
   ·have ne:a≠p:=λz=>hi (S.inj i n a w o E (by rw[z];exact c) e hn hm m)
    exact r.keep l λz h=>by rw[qh ne];exact h
   ·cases w with
    |lst _=>exact absurd rfl hm|dct _=>exact absurd rfl hm|td _=>exact absurd rfl hm|tr _=>obtain⟨ob,u,vs,q,d,k,t,r⟩:=r;exact⟨ob,u,vs,l.fz _ _ _ q,d,k,λx I=>l.tp _ _ (t x I),r.mono l⟩|tab _ _=>exact absurd rfl hm|ro ws=>
     obtain⟨vs,b,y⟩:=r;refine⟨vs,?_,y.mono l⟩;rcases b with ⟨ob,b⟩|b
     ·refine .inl ⟨ob,?_⟩
      rw[qh];exact b;intro z;subst z;rw[h]at b;exact N _ _ (aA b)
     ·exact .inr b
def zI.lay {p:Addr}{u:HO}(S:zI K φ A H)(b:H p=none):zI K φ A (L2.upd H p u):=
 ⟨S.len,S.inj,λn o e=>by
  obtain⟨a,c,q⟩:=S.ob n o e;refine⟨a,c,q.keep (Le.new b) λz h=>?_⟩;rw[qh];exact h;intro E;subst E;rw[b]at h;cases h⟩
def zI.off {o:HO}{xs:List V}(S:zI K φ A H)(b:H D=some (.lst xs))(n:∀k:Nat,φ[k]?≠some D):zI K φ A (L2.upd H D o):=
 ⟨S.len,S.inj,λk u e=>by
  obtain⟨a,E,q⟩:=S.ob k u e;have ne:a≠D:=λz=>n k (by rw[<- z];exact E)
  have l:y0 K D φ H φ (L2.upd H D o):=y0.upd b;refine⟨a,E,?_⟩;cases u with
  |lst ws=>obtain⟨vs,q,r⟩:=q;exact⟨vs,by rw[qh ne];exact q,r.monoD l⟩|dct kvs=>obtain⟨vs,q,k,r⟩:=q;exact⟨vs,by rw[qh ne];exact q,k,r.monoD l⟩|td kvs=>obtain⟨vs,q,k,t,r⟩:=q;exact⟨vs,by rw[qh ne];exact q,k,λx h=>l.tp _ _ (t x h),r.monoD l⟩|tr kvs=>obtain⟨ob,u,vs,q,d,k,t,r⟩:=q;exact⟨ob,u,vs,l.fz _ _ _ q,d,k,λx h=>l.tp _ _ (t x h),r.monoD l⟩|tab _ _=>obtain⟨k,vs,q,r⟩:=q;exact⟨k,vs,by rw[qh ne];exact q,r.mono l.fz⟩|ro ws=>
   obtain⟨vs,q,r⟩:=q;refine⟨vs,?_,r.monoD l⟩;rcases q with ⟨ob,q⟩|q
   ·exact .inl ⟨ob,by rw[qh ne];exact q⟩
   ·exact .inr q⟩
def zI.notin (S:zI K φ A H)(b:H D=none)(d:K.lookup D=none):∀k:Nat,φ[k]?≠some D:=λk e=>by
 have c:k<A.length:=by rw[<- S.len];exact(cB.mp e).1
 obtain⟨a,E,q⟩:=S.ob k A[k] (by simp[c])
 rw[e]at E;cases E;cases h:A[k] with
 |lst ws=>rw[h]at q;obtain⟨vs,z,_⟩:=q;rw[b]at z;cases z|dct ws=>rw[h]at q;obtain⟨vs,z,_⟩:=q;rw[b]at z;cases z|td _=>rw[h]at q;obtain⟨vs,z,_⟩:=q;rw[b]at z;cases z|tr _=>rw[h]at q;obtain⟨_,_,_,z,_⟩:=q;rw[b]at z;cases z|tab _ _=>rw[h]at q;obtain⟨_,vs,z,_⟩:=q;rw[b]at z;cases z|ro ws=>
  rw[h]at q;obtain⟨vs,z,_⟩:=q;rcases z with ⟨ob,z⟩|⟨o,i,n,z,_⟩
  ·rw[b]at z;cases z
  ·rw[d]at z;cases z
def zI.Yc {u:HO}{o:O}(S:zI K φ A H)(J:H D=some u)(n:∀k:Nat,φ[k]?≠some D)(new:OR K (φ++[D]) H D o):zI K (φ++[D]) (A++[o]) H:=by
 have l:Z5 K φ H (φ++[D]) H:=⟨λn a h=>by
  have:=(cB.mp h).1
  rw[ah this];exact h,λ_ _ h=>h,λ_ _ _ h=>h⟩
 have old:∀(i:Nat) a,(φ++[D])[i]? =some a->i<A.length->φ[i]? =some a:=λi a e b=>by
  rw[ah (by rw[S.len];exact b)]at e;exact e
 have last:∀a,(φ++[D])[A.length]? =some a->a=D:=λa e=>by
  rw[aq (by rw[S.len];exact ar _),S.len]at e
  simpa using e.symm
 refine⟨by simp[S.len],λi j a E C B y w f m1 m2=>?_,λk o' e=>?_⟩
 ·by_cases b:i<A.length
  ·by_cases c:j<A.length
   ·rw[ah b]at w
    rw[ah c]at f;exact S.inj i j a E C (old i a B b) (old j a y c) w f m1 m2
   ·exfalso
    have s:j=A.length:=by have:=(cB.mp f).1;simp at this;omega
    subst s;exact n i (by rw[<- last a y];exact old i a B b)
  ·have v:i=A.length:=by have:=(cB.mp w).1;simp at this;omega
   by_cases c:j<A.length
   ·exfalso
    subst v;exact n j (by rw[<- last a B];exact old j a y c)
   ·have:=(cB.mp f).1;simp at this;omega
 ·by_cases hn:k<A.length
  ·rw[ah hn]at e
   obtain⟨a,I,q⟩:=S.ob k o' e;refine⟨a,l.ex _ _ I,?_⟩;cases o' with
   |lst ws=>obtain⟨vs,z,r⟩:=q;exact⟨vs,z,r.monoW l⟩|dct ws=>obtain⟨vs,z,Z,r⟩:=q;exact⟨vs,z,Z,r.monoW l⟩|td _=>obtain⟨vs,z,Z,t,r⟩:=q;exact⟨vs,z,Z,λx g=>l.tp _ _ (t x g),r.monoW l⟩|tr _=>obtain⟨ob,u,vs,z,d,Z,t,r⟩:=q;exact⟨ob,u,vs,z,d,Z,λx g=>l.tp _ _ (t x g),r.monoW l⟩|tab _ _=>exact q|ro ws=>obtain⟨vs,z,r⟩:=q;exact⟨vs,z,r.monoW l⟩
  ·have p:k=A.length:=by have:=(cB.mp e).1;simp at this;omega
   subst p;rw[aq (ar _)]at e;simp at e;subst e;exact⟨D,by rw[aq (by rw[S.len];exact ar _),S.len];simp,new⟩
def Le.Yc {b:bZ}{H0:Hp}(l:Le K b H0 φ H)(h0:H0 D=none):Le K b H0 (φ++[D]) H where
 ex:=λn a h=>by
  have h':=l.ex n a h
  have:=(cB.mp h').1
  rw[ah this];exact h'
 tp:=l.tp
 fr:=l.fr
 nw:=λn a e=>by
  by_cases hn:n < φ.length
  ·rw[ah hn]at e;exact l.nw n a e
  ·rw[aq (by omega)]at e
   have E:a=D:=by
    have:=bB e
    simpa using this
   subst E;exact .inr h0
 st:=l.st
 fz:=l.fz
end
noncomputable abbrev St:=L2.St
abbrev XR:=Str->Hp->Prop
def PB (K:Frag)(φ:bZ)(H:Hp)(Q:VK):W->Hx->Prop:=λw A=>∀a h v,Le K φ H a h->zI K a A h->RV K a h w v->Q v h
def d8 (K:Frag)(φ:bZ)(H:Hp)(Q:List V->Hp->Prop):List W->Hx->Prop:=λw A=>∀a h v,Le K φ H a h->zI K a A h->zy K a h w v->Q v h
noncomputable def EB (K:Frag)(φ:bZ)(H:Hp)(X:XR):Str->Hx->Prop:=λx A=>∀a h,Le K φ H a h->zI K a A h->X x h
structure RE (K:Frag)(φ:bZ)(H:Hp)(ρ:En)(σ:St):Prop where
 len:σ.length=ρ.length
 get:∀(i:Nat)(w:W),ρ[i]? =some (some w)->∃v,σ[i]? =some (some v)/\RV K φ H w v
section
variable {K:Frag}{φ1 φ':bZ}{H1 H':Hp}{A:Hx}{ρ:En}{xr:XR}
theorem RE.mono (r:RE K φ H ρ σ)(l:Le K φ H φ' H'):RE K φ' H' ρ σ:=⟨r.len,λi w e=>let ⟨v,h1,h⟩:=r.get i w e;⟨v,h1,h.mono l⟩⟩
def PB.mono {Q:VK}{w:W}(h:PB K φ H Q w A)(l:Le K φ H φ1 H1):PB K φ1 H1 Q w A:=λa b v L=>h a b v (l.trans L)
def EB.mono (h:EB K φ H xr x A)(l:Le K φ H φ1 H1):EB K φ1 H1 xr x A:=λa b L=>h a b (l.trans L)
theorem RE.set {w:W}(r:RE K φ H ρ σ)(q:RV K φ H w v):RE K φ H (ρ.set i (some w)) (σ.set i (some v)):=
 ⟨by simp[r.len],λj u e=>by
  by_cases h:i=j
  ·subst h
   have a:i < ρ.length:=by
    have:=(cB.mp e).1
    simpa using this
   rw[aJ a]at e;cases e;exact⟨v,by rw[aJ (by rw[r.len];exact a)],q⟩
  ·rw[aH h]at e
   obtain⟨x,c,b⟩:=r.get j u e;exact⟨x,by rw[aH h];exact c,b⟩⟩
end
inductive MM (K:Frag)(xr:XR)(m:Ev)(σ:St)(H:Hp)(Q:VK):Prop
 |mk (φ:bZ) (A:Hx) (ρ:En) (S:zI K φ A H) (re:RE K φ H ρ σ) (h:(m ρ A).post (PB K φ H Q) (EB K φ H xr))
noncomputable def tM (K:Frag)(x:XR)(m:Ev):TE:=λσ H Q=>MM K x m σ H Q
inductive MT (K:Frag)(xr:XR)(m:Ev)(σ:St)(H:Hp)(Q:Bool->Hp->Prop):Prop
 |mk (φ:bZ) (A:Hx) (ρ:En) (S:zI K φ A H) (re:RE K φ H ρ σ) (h:(m ρ A).post (λw A'=>∃b,w=.bl b/\∀φ' H',Le K φ H φ' H'->zI K φ' A' H'->Q b H') (EB K φ H xr))
noncomputable def tT (K:Frag)(x:XR)(m:Ev):TT:=λσ H Q=>MT K x m σ H Q
abbrev Ea:=En->Hx->R (List W)
inductive MA (K:Frag)(xr:XR)(m:Ea)(σ:St)(H:Hp)(Q:List V->Hp->Prop):Prop
 |mk (φ:bZ) (A:Hx) (ρ:En) (S:zI K φ A H) (re:RE K φ H ρ σ) (h:(m ρ A).post (d8 K φ H Q) (EB K φ H xr))
noncomputable def G0 (K:Frag)(x:XR)(m:Ea):TA:=λσ H Q=>MA K x m σ H Q
def SE (X:Cx)(x:XR)(e:Expr)(m:Ev):Prop:=PE X e (tM X.K x m)
def ST (X:Cx)(x:XR)(e:Expr)(m:Ev):Prop:=PT X e (tT X.K x m)
def SW (X:Cx)(x:XR)(e:Expr)(m:Ev):Prop:=PW X e (tT X.K x m)
def SA (X:Cx)(x:XR)(e:cg)(m:Ea):Prop:=PA X e (G0 X.K x m)
section
variable {xr:XR}{a b:Expr}{es:cg}{m ma mb mc:Ev}
def PE.imp {t t':TE}(h:PE X e t)(i:∀σ H Q,t' σ H Q->t σ H Q):PE X e t':=λpins s σ H Q I hw=>h pins s σ H Q I (i σ H Q hw)
def PT.imp {t t':TT}(h:PT X e t)(i:∀σ H Q,t' σ H Q->t σ H Q):PT X e t':=λpins s σ H Q I hw=>h pins s σ H Q I (i σ H Q hw)
def PW.imp {t t':TT}(h:PW X e t)(i:∀σ H Q,t' σ H Q->t σ H Q):PW X e t':=λw pins s σ H Q I hw=>h w pins s σ H Q I (i σ H Q hw)
def PA.imp {t t':TA}(h:PA X es t)(i:∀σ H Q,t' σ H Q->t σ H Q):PA X es t':=λp pins s σ H Q I hw=>h p pins s σ H Q I (i σ H Q hw)
def tM.go {K:Frag}{A:Hx}{ρ:En}{Q:VK}{G:W->Hx->Prop}(S:zI K φ A H)(r:RE K φ H ρ σ)(h:(m ρ A).post G (EB K φ H xr))
  (k:∀w A1 a H1 v,G w A1->Le K φ H a H1->zI K a A1 H1->RV K a H1 w v->Q v H1):tM K xr m σ H Q:=
 ⟨φ,A,ρ,S,r,qp h (λw A1 g a H1 v l s q=>k w A1 a H1 v g l s q) λ_ _ z=>z⟩
def G0.go {K:Frag}{A:Hx}{ρ:En}{m:Ea}{Q:List V->Hp->Prop}{G:List W->Hx->Prop}(S:zI K φ A H)(r:RE K φ H ρ σ)(h:(m ρ A).post G (EB K φ H xr))
  (k:∀w A1 a H1 v,G w A1->Le K φ H a H1->zI K a A1 H1->zy K a H1 w v->Q v H1):G0 K xr m σ H Q:=
 ⟨φ,A,ρ,S,r,qp h (λw A1 g a H1 v l s q=>k w A1 a H1 v g l s q) λ_ _ z=>z⟩
def tT.go {K:Frag}{A:Hx}{ρ:En}{Q:Bool->Hp->Prop}{G:W->Hx->Prop}(S:zI K φ A H)(r:RE K φ H ρ σ)(h:(m ρ A).post G (EB K φ H xr))
  (k:∀w A1,G w A1->∃b,w=.bl b/\∀a H1,Le K φ H a H1->zI K a A1 H1->Q b H1):tT K xr m σ H Q:=
 ⟨φ,A,ρ,S,r,qp h (λw A1 g=>k w A1 g) λ_ _ z=>z⟩
noncomputable def qi (i:Nat):Ev:=λρ A=>match ρ[i]? with
 |some (some w)=>.ok w A|_=>.bad
noncomputable def qc (w:W):Ev:=λ_ A=>.ok w A
noncomputable def zi (g:W->W->Hx->R W)(a b:Ev):Ev:=λρ A=>(a ρ A).bind λx A1=>(b ρ A1).bind λy A2=>g x y A2
noncomputable def jR (g:W->Hx->R W)(a:Ev):Ev:=λρ A=>(a ρ A).bind λx A1=>g x A1
noncomputable abbrev gT:Str->Hx->Prop:=λ_ _=>False
def yn (K:Frag)(r:R2)(g:W->W->Hx->R W):Prop:=∀φ A H x y u v Q,zI K φ A H->RV K φ H u x->RV K φ H v y->(g u v A).post (PB K φ H Q) gT->r x y H Q
def KN (K:Frag)(r:V->Hp->VK->Prop)(g:W->Hx->R W):Prop:=∀φ A H x u Q,zI K φ A H->RV K φ H u x->(g u A).post (PB K φ H Q) gT->r x H Q
def qR (r:R α):Prop:=∀x A,r≠.exc x A
def JQ {r:R α}{P:α->Hx->Prop}{E:Str->Hx->Prop}(n:qR r)(h:r.post P E):r.post P gT:=by
 cases r with
 |ok a A=>exact h|exc x A=>exact absurd rfl (n x A)|bad=>exact h
def zi.read {g:W->W->Hx->R W}{r:R2}(hn:∀x y A,qR (g x y A))(e:yn X.K r g):∀σ H Q,tM X.K xr (zi g ma mb) σ H Q->K0 r (tM X.K xr ma) (tM X.K xr mb) σ H Q:=by
 rintro σ H Q ⟨φ,A,ρ,S,re,h⟩
 refine tM.go S re (zZ.mp h) λw A1 b H1 v i l j d=>?_;refine tM.go j (re.mono l) (qp (zZ.mp i) (λ_ _ z=>z) λ_ _ z=>z.mono l) λc A2 a n v2 f L s q=>?_;exact e a A2 n v v2 w c Q s (d.mono L) q (qp (JQ (hn _ _ _) f) (λ_ _ z=>z.mono (l.trans L)) λ_ _ z=>z)
def jR.read {g:W->Hx->R W}{r:V->Hp->VK->Prop}(hn:∀x A,qR (g x A))(b:KN X.K r g):∀σ H Q,tM X.K xr (jR g ma) σ H Q->MC r (tM X.K xr ma) σ H Q:=by
 rintro σ H Q ⟨φ,A,ρ,S,re,h⟩
 refine tM.go S re (zZ.mp h) λw A1 a H1 v c l s q=>?_;exact b a A1 H1 v w Q s q (qp (JQ (hn _ _) c) (λ_ _ z=>z.mono l) λ_ _ z=>z)
def Q4 {op:Operator}{r:R2}{g:W->W->Hx->R W}(h:qX X (binaryOp op) r)(hn:∀x y A,qR (g x y A))(H:yn X.K r g)(d:SE X xr a ma)(c:SE X xr b mb):SE X xr (.BinOp a op b pos) (zi g ma mb):=
 PE.imp (di h d c) (zi.read hn H)
def d9 {op:UnaryOp}{r:V->Hp->VK->Prop}{g:W->Hx->R W}(h:GZ X (unaryOp op) r)(hn:∀x A,qR (g x A))(H:KN X.K r g)(b:SE X xr a ma):SE X xr (.UnaryOp op a pos) (jR g ma):=
 PE.imp (dj h b) (jR.read hn H)
def O0 {r:R2}{g:W->W->Hx->R W}(h:qX X (compareOp op) r)(hn:∀x y A,qR (g x y A))(H:yn X.K r g)(d:SE X xr a ma)(c:SE X xr b mb)(hm:behindInMarks op b=false):SE X xr (.Compare a [op] [b] pos) (zi g ma mb):=
 PE.imp (Ai h d c hm) (zi.read hn H)
def tT.toM {K:Frag}{Q:Bool->Hp->Prop}(h:tT K xr m σ H Q):tM K xr m σ H λx d=>∃k,x=.bl k/\Q k d:=by
 obtain⟨φ,A,ρ,S,re,h⟩:=h;refine tM.go S re h λw A1 a H1 v ⟨b,e,q⟩ l s c=>?_;subst e;exact⟨b,c,q a H1 l s⟩
def Nb {r:R2}{g:W->W->Hx->R W}(o:qX X (compareOp op) r)(hn:∀x y A,qR (g x y A))(c:yn X.K r g)(e:SE X xr a ma)(d:SE X xr b mb)(hm:behindInMarks op b=false):ST X xr (.Compare a [op] [b] pos) (zi g ma mb):=
 PT.imp (Bh o e d hm) λσ H Q h=>zi.read hn c σ H _ h.toM
noncomputable def wa (g g':W->W->Hx->R W)(a b c:Ev):Ev:=λρ A=>(a ρ A).bind λx A1=>(b ρ A1).bind λy A2=>(g x y A2).bind λz d=>match z with
 |.bl true=>(c ρ d).bind λw e=>g' y w e|.bl false=>.ok (.bl false) d|_=>.bad
def wa.read {g g':W->W->Hx->R W}{r i:R2}(hn:∀x y A,qR (g x y A))(T:yn X.K r g)(n:∀x y A,qR (g' x y A))(o:yn X.K i g'):
  ∀σ H Q,tM X.K xr (wa g g' ma mb mc) σ H Q->VT r i (tM X.K xr ma) (tM X.K xr mb) (tM X.K xr mc) σ H Q:=by
 rintro σ H Q ⟨φ,A,ρ,S,re,h⟩
 refine tM.go S re (zZ.mp h) λw A1 E H1 v Z L S1 P=>?_;refine tM.go S1 (re.mono L) (qp (zZ.mp Z) (λ_ _ z=>z) λ_ _ z=>z.mono L) λf A2 b D v2 Y B S2 s=>?_;have j:=L.trans B;have p:=zZ.mp Y;have a:(g w f A2).post (PB X.K b D λz c=>∃k,z=.bl k/\if k=true then tM X.K xr mc σ c λJ q=>i v2 J q Q else Q (.bl false) c) gT:=by
  refine qp (JQ (hn _ _ _) p) (λz A3 a e c zv u C N=>?_) λ_ _ z=>z;have l:=j.trans u;cases z with
  |bl k=>
   refine⟨k,N,?_⟩;cases k with
   |true=>
    rw[ag rfl];refine tM.go C (re.mono l) (qp (zZ.mp a) (λ_ _ z=>z) λ_ _ z=>z.mono l) λI A4 d q v4 U t S4 M=>?_;exact o d A4 q v2 v4 f I Q S4 ((s.mono u).mono t) M (qp (JQ (n _ _ _) U) (λ_ _ z=>z.mono (l.trans t)) λ_ _ z=>z)
   |false=>
    rw[aj az];exact a e c _ l C rfl
  |non=>cases a|int _=>cases a|str _=>cases a|tup _=>cases a|ref _=>cases a|clo _ _ _=>cases a|xc _=>cases a
 exact T b A2 D v v2 w f _ S2 (P.mono B) s a
def Dd {c:Expr}{o:CmpOp}{r e:R2}{g g':W->W->Hx->R W}(f:qX X (compareOp op) r)(hn:∀x y A,qR (g x y A))(i:yn X.K r g)(h:qX X (compareOp o) e)(H:∀x y A,qR (g' x y A))(d:yn X.K e g')
  (n:SE X xr a ma)(l:SE X xr b mb)(j:SE X xr c mc)(hm:lastMarks [op,o] [b,c]=false:=by with_unfolding_all rfl):SE X xr (.Compare a [op,o] [b,c] pos) (wa g g' ma mb mc):=
 PE.imp (Ck f h n l j hm) (wa.read hn i H d)
def DG {c:Expr}{o:CmpOp}{r i:R2}{g g':W->W->Hx->R W}(j:qX X (compareOp op) r)(hn:∀x y A,qR (g x y A))(l:yn X.K r g)(d:qX X (compareOp o) i)(e:∀x y A,qR (g' x y A))(f:yn X.K i g')
  (q:SE X xr a ma)(p:SE X xr b mb)(n:SE X xr c mc)(hm:lastMarks [op,o] [b,c]=false:=by with_unfolding_all rfl):ST X xr (.Compare a [op,o] [b,c] pos) (wa g g' ma mb mc):=
 PT.imp (Cy j d q p n hm) λσ H Q h=>wa.read hn l e f σ H _ h.toM
noncomputable def ku (a b:Ev):Ev:=λρ A=>(a ρ A).bind λx A1=>match x with
 |.bl true=>b ρ A1|.bl false=>.ok (.bl false) A1|_=>.bad
noncomputable def ZA (a b:Ev):Ev:=λρ A=>(a ρ A).bind λx A1=>match x with
 |.bl true=>.ok (.bl true) A1|.bl false=>b ρ A1|_=>.bad
noncomputable def wG (a:Ev):Ev:=λρ A=>(a ρ A).bind λx A1=>match x with
 |.bl k=>.ok (.bl (!k)) A1|_=>.bad
noncomputable def U4 (c a b:Ev):Ev:=λρ A=>(c ρ A).bind λx A1=>match x with
 |.bl true=>a ρ A1|.bl false=>b ρ A1|_=>.bad
theorem tT.mono {K:Frag}{c:bZ}{H1:Hp}{A1:Hx}{ρ:En}{Q:Bool->Hp->Prop}(S:zI K c A1 H1)(L:Le K φ H c H1)(re:RE K φ H ρ σ)
  (h:(m ρ A1).post (λw A=>∃b,w=.bl b/\∀a d,Le K φ H a d->zI K a A d->Q b d) (EB K φ H xr)):tT K xr m σ H1 Q:=
 ⟨c,A1,ρ,S,re.mono L,qp h (λw A ⟨b,e,q⟩=>⟨b,e,λa d l s=>q a d (L.trans l) s⟩) λ_ _ z=>z.mono L⟩
noncomputable def zj:Ea:=λ_ A=>.ok [] A
noncomputable def zc (a:Ev)(r:Ea):Ea:=λρ A=>(a ρ A).bind λx A1=>(r ρ A1).bind λxs A2=>.ok (x::xs) A2
noncomputable def zE (a:Ea):Ev:=λρ A=>(a ρ A).bind λxs A1=>.ok (.tup xs) A1
noncomputable def qb (a:Ea):Ev:=λρ A=>(a ρ A).bind λxs A1=>.ok (.ref A1.length) (A1++[.lst xs])
def Q8 {K:Frag}{A:Hx}{p:Addr}{ws:List W}{vs:List V}(S:zI K φ A H)(h:H p=none)(r:zy K φ H ws vs):
  Le K φ H φ (upd H p (.tup vs))/\zI K φ A (upd H p (.tup vs))/\RV K φ (upd H p (.tup vs)) (.tup ws) (.ref p):=
 ⟨Le.new h,S.lay h,p,vs,rfl,qM.of jD,r.mono (Le.new h)⟩
def Zd {K:Frag}{A:Hx}{p:Addr}{ws:List W}{vs:List V}(S:zI K φ A H)(h:H p=none)(r:zy K φ H ws vs):
  Le K φ H (φ++[p]) (upd H p (.lst vs))/\zI K (φ++[p]) (A++[.lst ws]) (upd H p (.lst vs))/\RV K (φ++[p]) (upd H p (.lst vs)) (.ref A.length) (.ref p):=by
 have l:Le K φ H (φ++[p]) (upd H p (.lst vs)):=Le.alloc h;obtain⟨b,a⟩:=S.alloc (o:=.lst ws) h ⟨vs,jD,r.mono l⟩;exact⟨b,a,p,rfl,by rw[<- S.len];simp⟩
def ed {M:Ea}(h:SA X xr es M)(d:∀ρ A ws a,M ρ A=.ok ws a->ws.length<=sizeLine):SE X xr (.List es pos) (qb M):=
 PE.imp (dF h) λσ H Q ⟨φ,A,ρ,S,re,h⟩=>by
  have h':=zZ.mp h;cases e:M ρ A with
  |ok ws a=>
   rw[e]at h';refine⟨φ,A,ρ,S,re,?_⟩;rw[e];intro b H1 vs l s q;refine⟨by rw[<- q.length];exact d ρ A ws a e,λp c=>?_⟩
   obtain⟨a1,a2,f⟩:=Zd s c q;exact h' _ _ _ (l.trans a1) a2 f
  |exc x a=>rw[e]at h';refine⟨φ,A,ρ,S,re,?_⟩;rw[e];exact h'|bad=>rw[e]at h';exact h'.elim
end
inductive Fl where
 |nx (ρ:En)|rt (w:W)|bk (ρ:En)|ct (ρ:En)
abbrev Ex:=En->Hx->R Fl
def FB (K:Frag)(φ:bZ)(H:Hp)(D:Ends):Fl->Hx->Prop
 |.nx ρ,A=>∀a h b,Le K φ H a h->zI K a A h->RE K a h ρ b->D.nx b h|.rt w,A=>∀a h v,Le K φ H a h->zI K a A h->RV K a h w v->D.rt v h|.bk ρ,A=>∀a h b,Le K φ H a h->zI K a A h->RE K a h ρ b->D.bk b h|.ct ρ,A=>∀a h b,Le K φ H a h->zI K a A h->RE K a h ρ b->D.ct b h
def FB.mono {K:Frag}{c:bZ}{H1:Hp}{D:Ends}{f:Fl}{A:Hx}(h:FB K φ H D f A)(l:Le K φ H c H1):FB K c H1 D f A:=by
 cases f with
 |nx ρ=>exactλa b v L=>h a b v (l.trans L)|rt ρ=>exactλa b v L=>h a b v (l.trans L)|bk ρ=>exactλa b v L=>h a b v (l.trans L)|ct ρ=>exactλa b v L=>h a b v (l.trans L)
inductive MS (K:Frag)(xr:XR)(m:Ex)(D:Ends)(σ:St)(H:Hp):Prop
 |mk (φ:bZ) (A:Hx) (ρ:En) (S:zI K φ A H) (re:RE K φ H ρ σ) (h:(m ρ A).post (FB K φ H D) (EB K φ H xr))
noncomputable def tS (K:Frag)(x:XR)(m:Ex):TS:=λD σ H=>MS K x m D σ H
def SS (X:Cx)(x:XR)(st:Stmt)(m:Ex):Prop:=PS X st (tS X.K x m)
def KZ (X:Cx)(x:XR)(st:cx)(m:Ex):Prop:=yT X st (tS X.K x m)
section
variable {xr:XR}{a b c:Expr}{st:Stmt}{rest:cx}{m:Ev}{m1 m2:Ex}
def PS.imp {t t':TS}(h:PS X st t)(i:∀D σ H,t' D σ H->t D σ H):PS X st t':=λpins s σ H D I hw=>h pins s σ H D I (i D σ H hw)
def yT.imp {t t':TS}(h:yT X rest t)(i:∀D σ H,t' D σ H->t D σ H):yT X rest t':=λpins s σ H D I hw=>h pins s σ H D I (i D σ H hw)
noncomputable def zB:Ex:=λρ A=>.ok (.nx ρ) A
noncomputable def zo (m1 m2:Ex):Ex:=λρ A=>(m1 ρ A).bind λl A1=>match l with
 |.nx ρ1=>m2 ρ1 A1|f=>.ok f A1
noncomputable def yw (m:Ev):Ex:=λρ A=>(m ρ A).bind λ_ A1=>.ok (.nx ρ) A1
noncomputable def qv (m:Ev):Ex:=λρ A=>(m ρ A).bind λw A1=>.ok (.rt w) A1
noncomputable def ja (c:Ev)(a b:Ex):Ex:=λρ A=>(c ρ A).bind λx A1=>match x with
 |.bl true=>a ρ A1|.bl false=>b ρ A1|_=>.bad
noncomputable def zX (i:Nat)(m:Ev):Ex:=λρ A=>(m ρ A).bind λw A1=>.ok (.nx (ρ.set i (some w))) A1
def zX.read:∀D σ H,tS X.K xr (zX i m) D σ H->GO (tM X.K xr m) (Gs i) D σ H:=by
 rintro D σ H ⟨φ,A,ρ,S,re,h⟩
 exact tM.go S re (zZ.mp h) λw A1 a H1 v b l s q=>b a H1 _ l s ((re.mono l).set q)
noncomputable def yC (g:W->W->W->Hx->R Unit)(me mo mi:Ev):Ex:=λρ A=>(me ρ A).bind λv A1=>(mo ρ A1).bind λo A2=>(mi ρ A2).bind λi b=>(g o i v b).bind λ_ a=>.ok (.nx ρ) a
def Up (K:Frag)(t:QF)(g:W->W->W->Hx->R Unit):Prop:=∀φ A H o i v w b wv Q,zI K φ A H->RV K φ H w o->RV K φ H b i->RV K φ H wv v->
 (g w b wv A).post (λ_ c=>∀a h,Le K φ H a h->zI K a c h->Q h) gT->t o i v H Q
def P0 {o i:Expr}{mo mi:Ev}{t:QF}{g:W->W->W->Hx->R Unit}(N:Kw X t)(hn:∀o i v A,qR (g o i v A))(Y:Up X.K t g)(he:SE X xr e m)(T:SE X xr o mo)(U:SE X xr i mi)
  (P:swapsWithSole [.Subscript o i tpos] e pos.line X.env=pure false:=by rfl)(hw:swappedStores [.Subscript o i tpos] e X.env=pure none:=by rfl)
  (j:(assignEach [.Subscript o i tpos] X.env).map (·.2)=[assign (.Subscript o i tpos) X.env]:=by rfl)
  (Z:∀v,assign (.Subscript o i tpos) X.env v=(do
   let ov <- holding [v] (eval o X.env)
   let iv <- holding [v,ov] (eval i X.env)
   standAt tpos
   holding [v,ov,iv] (setItem ov iv v)
   release [v,ov,iv] []):=by intro _;rfl):SS X xr (.Assign [.Subscript o i tpos] e pos) (yC g m mo mi):=
 PS.imp (Nh he (Az T U N Z) P hw j) λD σ H ⟨φ,A,ρ,S,re,h⟩=>by
  refine tM.go S re (zZ.mp h) λp A1 E H1 v1 j f S1 M=>?_;refine tM.go S1 (re.mono f) (qp (zZ.mp j) (λ_ _ z=>z) λ_ _ z=>z.mono f) λn A2 C H2 v2 h2 s S2 J=>?_;have l:=f.trans s;refine tM.go S2 (re.mono l) (qp (zZ.mp h2) (λ_ _ z=>z) λ_ _ z=>z.mono l) λw B c H3 I a d S3 Q=>?_;have L:=l.trans d;refine Y c B H3 v2 I v1 n w p _ S3 (J.mono d) Q (M.mono (s.trans d)) ?_;cases r:g n w p B with
  |ok u y=>
   rw[r]at a;exactλb H4 q S4=>a b H4 σ (L.trans q) S4 (re.mono (L.trans q))
  |exc x y=>exact absurd r (hn _ _ _ _ x y)|bad=>rw[r]at a;exact a.elim
structure jH where
 at_:Hx->Nat->Option (Option W)
 len:Nat
def Z7 (K:Frag)(φ:bZ)(H:Hp)(j:jH)(J:It):Prop:=∀i a h A,Z5 K φ H a h->zI K a A h->
 (∀w,j.at_ A i=some (some w)->J.go i h/\∀x H1,J.yld i h x H1->Le K a h a H1/\zI K a A H1/\RV K a H1 w x)/\(j.at_ A i=some none->J.stop i h)
abbrev Ei:=En->Hx->R jH
inductive MI (K:Frag)(xr:XR)(mi:Ei)(σ:St)(H:Hp)(Rr:It->Hp->Prop):Prop
 |mk (φ:bZ) (A:Hx) (ρ:En) (S:zI K φ A H) (re:RE K φ H ρ σ) (h:(mi ρ A).post (λj A1=>∀φ1 H1 J,Le K φ H φ1 H1->zI K φ1 A1 H1->Z7 K φ1 H1 j J->Rr J H1) (EB K φ H xr))
noncomputable def tI (K:Frag)(x:XR)(mi:Ei):TI:=λσ H r=>MI K x mi σ H r
def SI (X:Cx)(x:XR)(t iter:Expr)(mi:Ei):Prop:=PI X t iter (tI X.K x mi)
def PI.imp {t t':TI}(h:PI X tg e t)(i:∀σ H Q,t' σ H Q->t σ H Q):PI X tg e t':=λpins s σ H Q I hw=>h pins s σ H Q I (i σ H Q hw)
abbrev Tg:=W->En->Option En
inductive MG (K:Frag)(tw:Tg)(v:V)(σ:St)(H:Hp)(Q:St->Hp->Prop):Prop
 |mk (φ:bZ) (A:Hx) (ρ:En) (w:W) (ρ':En) (S:zI K φ A H) (re:RE K φ H ρ σ) (rv:RV K φ H w v) (t:tw w ρ=some ρ') (q:∀σ',RE K φ H ρ' σ'->Q σ' H)
noncomputable def tG (K:Frag)(tw:Tg):TG:=λv σ H Q=>MG K tw v σ H Q
def SG (X:Cx)(t:Expr)(tw:Tg):Prop:=PG X t (tG X.K tw)
def PG.imp {t t':TG}(h:PG X tg t)(i:∀v σ H Q,t' v σ H Q->t v σ H Q):PG X tg t':=λpins s σ H v u Q I r hw=>h pins s σ H v u Q I r (i v σ H Q hw)
noncomputable def zC (i:Nat):Tg:=λw ρ=>some (ρ.set i (some w))
noncomputable def jo (i j:Nat):Tg:=λw ρ=>match w with
 |.tup [x,y]=>some ((ρ.set i (some x)).set j (some y))|_=>none
noncomputable def yD (j:jH)(st:W->Ex):Nat->Nat->Ex
 |0,i,ρ,A=>match j.at_ A i with
  |some none=>.ok (.nx ρ) A|_=>.bad
 |f+1,i,ρ,A=>match j.at_ A i with
  |some none=>.ok (.nx ρ) A|some (some w)=>(st w ρ A).bind λl A1=>match l with
   |.nx ρ1=>yD j st f (i+1) ρ1 A1|.ct ρ1=>yD j st f (i+1) ρ1 A1|.bk ρ1=>.ok (.nx ρ1) A1|.rt w=>.ok (.rt w) A1
  |none=>.bad
noncomputable def turn (tw:Tg)(body:Ex)(w:W):Ex:=λρ A=>match tw w ρ with
 |some ρ1=>body ρ1 A|none=>.bad
def qY (mi:Ei)(tw:Tg)(body:Ex):Ex:=λρ A=>(mi ρ A).bind λj A1=>yD j (turn tw body) j.len 0 ρ A1
inductive Mh (K:Frag)(xr:XR)(j:jH)(t:W->Ex)(D:Ends)(φ1:bZ)(H1:Hp)(f i:Nat)(σ':St)(H':Hp):Prop
 |mk (φ2:bZ) (A2:Hx) (ρ2:En) (l:Le K φ1 H1 φ2 H') (S:zI K φ2 A2 H') (re:RE K φ2 H' ρ2 σ') (h:(yD j t f i ρ2 A2).post (FB K φ2 H' D) (EB K φ2 H' xr))
noncomputable def ZU (c:Ev)(body:Ex):Nat->Ex
 |0,ρ,A=>.bad|f+1,ρ,A=>(c ρ A).bind λx A1=>match x with
  |.bl true=>(body ρ A1).bind λl A2=>match l with
   |.nx ρ1=>ZU c body f ρ1 A2|.ct ρ1=>ZU c body f ρ1 A2|.bk ρ1=>.ok (.nx ρ1) A2|.rt w=>.ok (.rt w) A2
  |.bl false=>.ok (.nx ρ) A1|_=>.bad
def V5 (f:Nat)(c:Ev)(body:Ex):Ex:=ZU c body f
noncomputable def Jd (nl:Nat)(cap:b9)(ρ:En):En:=List.replicate nl none++cap.map λi=>(ρ[i]?).join
theorem RE.Zr {K:Frag}{ρ:En}{nl:Nat}(r:RE K φ H ρ σ):RE K φ H (Jd nl cap ρ) (L2.Zr nl cap σ):=by
 refine⟨by simp[Jd,L2.Zr],λi w e=>?_⟩
 unfold Jd at e;unfold L2.Zr
 by_cases hi:i<nl
 ·rw[ah (by simpa using hi),bC]at e
  split at e<;>cases e
 ·rw[aq (by simpa using hi),bj,ao]at e
  rw[aq (by simpa using hi),bj,ao]
  cases c:cap[i-nl]? with
  |none=>rw[c]at e;cases e|some k=>
   rw[c]at e;have E:(ρ[k]?).join=some w:=aA e;cases h:ρ[k]? with
   |none=>rw[h]at E;cases E|some o=>cases o with
    |none=>rw[h]at E;cases E|some d=>
     rw[h]at E;cases E;obtain⟨v,b,a⟩:=r.get k w h;exact⟨v,by simp[b],a⟩
abbrev Em:=En->List W->Hx->R (En×List W)
noncomputable def qa:Nat:=100000
def zK (elt:Ev):Em:=λρ acc A=>(elt ρ A).bind λy A1=>if acc.length<qa then .ok (ρ,acc++[y]) A1 else .bad
noncomputable def jJ (j:jH)(tw:Tg)(ifs:Ev)(em:Em):Nat->Nat->Em
 |0,i,ρ,acc,A=>match j.at_ A i with
  |some none=>.ok (ρ,acc) A|_=>.bad
 |f+1,i,ρ,acc,A=>match j.at_ A i with
  |some none=>.ok (ρ,acc) A|some (some w)=>match tw w ρ with
   |some ρ1=>(ifs ρ1 A).bind λc A1=>match c with
    |.bl true=>(em ρ1 acc A1).bind λp A2=>jJ j tw ifs em f (i+1) p.1 p.2 A2|.bl false=>jJ j tw ifs em f (i+1) ρ1 acc A1|_=>.bad
   |none=>.bad
  |none=>.bad
def Yb (mi:Ei)(tw:Tg)(ifs:Ev)(em:Em):Em:=λρ acc A=>(mi ρ A).bind λj A1=>jJ j tw ifs em j.len 0 ρ acc A1
abbrev j5:=En->Hx->R (List W)
def zM (nl:Nat)(cap:b9)(mi:Ei)(tw:Tg)(ifs:Ev)(em:Em):j5:=λρ A=>(mi ρ A).bind λj A1=>(jJ j tw ifs em j.len 0 (Jd nl cap ρ) [] A1).nox.bind λp A2=>.ok p.2 A2
def Ta (K:Frag)(D:Addr)(φ:bZ)(H:Hp)(Q:St->Hp->Prop)(p:En×List W)(A1:Hx):Prop:=∀a H1 b zs,y0 K D φ H a H1->(∀k:Nat,a[k]?≠some D)->zI K a A1 H1->RE K a H1 p.1 b->H1 D=some (.lst zs)->zy K a H1 p.2 zs->Q b H1
inductive ME (K:Frag)(em:Em)(D:Addr)(σ:St)(H:Hp)(Q:St->Hp->Prop):Prop
 |mk (φ:bZ) (A:Hx) (ρ:En) (acc:List W) (ys:List V) (S:zI K φ A H) (re:RE K φ H ρ σ) (hD:H D=some (.lst ys)) (nD:∀k:Nat,φ[k]?≠some D) (rv:zy K φ H acc ys)
  (h:(em ρ acc A).post (Ta K D φ H Q) gT)
noncomputable def tE (K:Frag)(em:Em):w9:=λD σ H Q=>ME K em D σ H Q
noncomputable abbrev yQ:XR:=λ_ _=>False
def SM (X:Cx)(elt:Expr)(gens:List Comprehension)(sc:Scope)(c:Pos)(d:Nat)(em:Em):Prop:=wO X elt gens sc c d (tE X.K em)
def wO.imp {d:Nat}{t t':w9}(h:wO X elt gens sc pos d t)(i:∀D σ H Q,t' D σ H Q->t D σ H Q):wO X elt gens sc pos d t':=
 λpins s σ H D Q k Q' E I hw a=>h pins s σ H D Q k Q' E I (i D σ H Q hw) a
def Vj {K:Frag}{r:R α}{P:α->Hx->Prop}(h:r.post P gT):r.post P (EB K φ H yQ):=qp h (λ_ _ z=>z) λ_ _ z=>z.elim
def KR (X:Cx)(ifs:cg)(m:Ev):Prop:=ZV X ifs (tT X.K yQ m)
inductive MB (tw:Tg)(ifs:Ev)(em:Em)(j:jH)(K:Frag)(D:Addr)(φ:bZ)(H:Hp)(Q:St->Hp->Prop)(f i:Nat)(σ':St)(H':Hp):Prop
 |mk (φ2:bZ) (A2:Hx) (ρ2:En) (acc2:List W) (ys2:List V) (l:y0 K D φ H φ2 H') (S:zI K φ2 A2 H') (re:RE K φ2 H' ρ2 σ') (hD:H' D=some (.lst ys2)) (nD:∀k:Nat,φ2[k]?≠some D) (ra:zy K φ2 H' acc2 ys2) (h:(jJ j tw ifs em f i ρ2 acc2 A2).post (Ta K D φ H Q) gT)
def jJ.read {tw:Tg}{ifs:Ev}{em:Em}{j:jH}{J:It}{K:Frag}{A:Hx}{ρ:En}{acc:List W}{Q:St->Hp->Prop}{f:Nat}
  (jr:Z7 K φ H j J)
  (S:zI K φ A H)(re:RE K φ H ρ σ)(hD:H D=some (.lst ys))(nD:∀k:Nat,φ[k]?≠some D)(ra:zy K φ H acc ys)
  (h:(jJ j tw ifs em f 0 ρ acc A).post (Ta K D φ H Q) gT):
  Ko J (tG K tw) (tT K yQ ifs) (tE K em) D σ H Q:=by
 refine⟨λi f b P=>MB tw ifs em j K D φ H Q f i b P,
  ⟨f,φ,A,ρ,acc,ys,.refl,S,re,hD,nD,ra,h⟩,?_⟩
 rintro i f U H2 ⟨g,A2,s,e,Y,B,S2,t,M,u,n,a⟩
 obtain⟨j1,j2⟩:=jr i g H2 A2 ⟨B.ex,B.tp,B.fz⟩ S2;cases E:j.at_ A2 i with
 |none=>cases f<;>(unfold jJ at a;rw[E]at a;exact a.elim)|some o=>
  cases o with
  |none=>
   left
   refine⟨j2 E,?_⟩;cases f<;>(unfold jJ at a;rw[E]at a;exact a g H2 U Y B u S2 t M n)
  |some w=>
   right
   obtain⟨go,yl⟩:=j1 w E;cases f with
   |zero=>unfold jJ at a;rw[E]at a;exact a.elim|succ f=>
    unfold jJ at a;rw[E]at a;refine⟨go,λb P=>MB tw ifs em j K D φ H Q f (i+1) b P,λb P z=>⟨f,bz _,z⟩,λx H3 y=>?_⟩;obtain⟨v,S3,q3⟩:=yl x H3 y;obtain⟨hD3,Z⟩:=v.off M u;dsimp only at a;cases et:tw w s with
    |none=>rw[et]at a;exact a.elim|some l=>
     rw[et]at a;refine⟨g,A2,s,w,l,S3,t.mono v,q3,et,λσ3 r=>?_⟩;refine tT.go S3 r (Vj (zZ.mp a)) λc A4 d=>?_;cases c with
     |bl k=>
      refine⟨k,rfl,λq H4 L S4=>?_⟩;obtain⟨I,N⟩:=L.off hD3 Z;have C:=(B.trans (v.trans L).toD);cases k with
      |true=>
       rw[ag rfl];refine⟨q,A4,l,e,Y,S4,r.mono L,I,N,n.mono (v.trans L),qp (zZ.mp d) (λp A5 h5 T H5 σ5 zs l5 n5 S5 X d5 r5=>?_) λ_ _ z=>z⟩;exact⟨T,A5,p.1,p.2,zs,C.trans l5,S5,X,d5,n5,r5,h5⟩
      |false=>
       rw[aj az];exact⟨q,A4,l,e,Y,C,S4,r.mono L,I,N,n.mono (v.trans L),d⟩
     |non=>cases d|int _=>cases d|str _=>cases d|tup _=>cases d|ref _=>cases d|clo _ _ _=>cases d|xc _=>cases d
def Z7.mono {K:Frag}{b:bZ}{H1:Hp}{j:jH}{J:It}(h:Z7 K φ H j J)(l:Z5 K φ H b H1):Z7 K b H1 j J:=
 λi c d A L=>h i c d A ⟨λn a e=>L.ex n a (l.ex n a e),λa vs e=>L.tp a vs (l.tp a vs e),λa o u e=>L.fz a o u (l.fz a o u e)⟩
inductive MF (K:Frag)(xr:XR)(mq:j5)(σ:St)(H:Hp)(Q:VK):Prop
 |mk (φ:bZ) (A:Hx) (ρ:En) (S:zI K φ A H) (re:RE K φ H ρ σ) (h:(mq ρ A).post (λws A1=>∀φ1 H1 D ys,Le K φ H φ1 H1->zI K φ1 A1 H1->H D=none->H1 D=some (.lst ys)->(∀k:Nat,φ1[k]?≠some D)->zy K φ1 H1 ws ys->Q (.ref D) H1) (EB K φ H xr))
noncomputable def tF (K:Frag)(x:XR)(M:j5):TE:=λσ H Q=>MF K x M σ H Q
def SF (X:Cx)(x:XR)(e:Expr)(M:j5):Prop:=PE X e (tF X.K x M)
theorem zM.read {mi:Ei}{tw:Tg}{M:Ev}{em:Em}{nl:Nat}:∀σ H Q,tF X.K xr (zM nl cap mi tw M em) σ H Q->Gx X.K (tI X.K xr mi) (tG X.K tw) (tT X.K yQ M) (tE X.K em) nl cap σ H Q:=by
 rintro σ H Q ⟨φ,A,ρ,S,re,h⟩
 refine⟨φ,A,ρ,S,re,qp (zZ.mp h) (λj A1 u b H1 J l s q D c t=>?_) λ_ _ z=>z⟩;have ln:Le X.K b H1 b (upd H1 D (.lst [])):=Le.new c;have a:=zZ.mp u;refine jJ.read (q.mono ⟨ln.ex,ln.tp,ln.fz⟩) (s.lay c) ((re.mono (l.trans ln)).Zr) jD (s.notin c t) .nil ?_ (f:=j.len) (acc:=[]);cases e:jJ j tw M em j.len 0 (Jd nl cap ρ) [] A1 with
 |ok p A2=>
  rw[e]at a;intro d y g zs o n w r v i;have L:=l.trans (Le.ofD c o);exact a d y D zs L w (l.st D c) v n i
 |exc x A2=>rw[e]at a;exact a.elim|bad=>rw[e]at a;exact a.elim
noncomputable def qt (q:j5):Ev:=λρ A=>(q ρ A).bind λws A1=>.ok (.ref A1.length) (A1++[.lst ws])
def qt.read {q:j5}{K:Frag}:∀σ H Q,tM K xr (qt q) σ H Q->tF K xr q σ H Q:=by
 rintro σ H Q ⟨φ,A,ρ,S,re,h⟩
 refine⟨φ,A,ρ,S,re,qp (zZ.mp h) (λws A1 d b H1 D ys l s h0 c N r=>?_) λ_ _ z=>z⟩;have ll:Le K φ H (b++[D]) H1:=l.Yc h0;have lw:Z5 K b H1 (b++[D]) H1:=⟨λn a h=>by
  have:=(cB.mp h).1
  rw[ah this];exact h,λ_ _ h=>h,λ_ _ _ h=>h⟩
 refine d _ _ _ ll (s.Yc (o:=.lst ws) c N ⟨ys,c,r.monoW lw⟩) ⟨D,rfl,?_⟩;rw[<- s.len];simp
inductive MQ (K:Frag)(xr:XR)(mq:j5)(σ:St)(H:Hp)(Q:VK):Prop
 |mk (φ:bZ) (A:Hx) (ρ:En) (S:zI K φ A H) (re:RE K φ H ρ σ) (h:(mq ρ A).post (λws A1=>∀φ1 H1 a ys,Le K φ H φ1 H1->zI K φ1 A1 H1->(qW K H1 a ys∨qM K H1 a ys)->zy K φ1 H1 ws ys->Q (.ref a) H1) (EB K φ H xr))
noncomputable def tQ (K:Frag)(x:XR)(M:j5):TE:=λσ H Q=>MQ K x M σ H Q
def SQ (X:Cx)(x:XR)(e:Expr)(M:j5):Prop:=PE X e (tQ X.K x M)
noncomputable def zP (w:W)(A:Hx):Option (List W):=match w with
 |.tup ws=>some ws|.ref n=>match A[n]? with
  |some (.lst ws)=>some ws|some (.ro ws)=>some ws|_=>none
 |_=>none
def Wu {K:Frag}{A:Hx}{w:W}{ws:List W}(S:zI K φ A H)(q:RV K φ H w v)(e:zP w A=some ws):∃a ys,v=.ref a/\(qW K H a ys∨qM K H a ys)/\zy K φ H ws ys:=by
 unfold zP at e;cases w with
 |tup xs=>cases e;obtain⟨a,ys,b,d,E⟩:=q;exact⟨a,ys,b,.inr d,E⟩|ref n=>
  obtain⟨a,b,d⟩:=q;dsimp only at e;cases ea:A[n]? with
  |none=>rw[ea]at e;cases e|some o=>
   rw[ea]at e;obtain⟨f,E,r⟩:=S.ob n o ea;rw[d]at E;cases E;cases o with
   |lst xs=>cases e;obtain⟨ys,c,h⟩:=r;exact⟨a,ys,b,.inl (qW.of c),h⟩|ro xs=>cases e;obtain⟨ys,c,h⟩:=r;exact⟨a,ys,b,.inl c.sq,h⟩|dct xs=>cases e|td _=>cases e|tr _=>cases e|tab _ _=>cases e
 |non=>cases e|bl _=>cases e|clo _ _ _=>cases e|xc _=>cases e|int _=>cases e|str _=>cases e
def qg (m:Ev):j5:=λρ A=>(m ρ A).bind λw A1=>match zP w A1 with
 |some ws=>.ok ws A1|none=>.bad
def GS (w:W)(A:Hx):Option jH:=match zP w A with
 |some ws=>some ⟨λA i=>(zP w A).map λws=>ws[i]?,ws.length⟩|none=>none
def qd (m:Ev):Ei:=λρ A=>(m ρ A).bind λw A1=>match GS w A1 with
 |some j=>.ok j A1|none=>.bad
def eg (K:Frag)(t:TE):TI:=λσ H r=>t σ H λx H1=>∃a,x=.ref a/\(((∃xs,qW K H1 a xs)/\r (Mt K a) H1)∨((∃xs,qM K H1 a xs)/\r (Mr K a) H1))
def eh {l:Expr}{t:TE}(j:PE X l t):PI X tg l (eg X.K t):=by
 intro pins s σ H u I h;refine zU (j pins s σ H _ I h) λv s1 ⟨x,H1,i,g,Q⟩=>?_;obtain⟨a,e,q⟩:=Q;subst e;cases g;have f:∀b∈[s1.heap.objs.size],wg X pins H1 b:=λb n=>by
  have e:b=s1.heap.objs.size:=by simpa using n
  subst e;exact i.fpOk (ar _) (i.hok.fresh (ar _))
 rcases q with ⟨⟨xs,d⟩,q⟩|⟨⟨xs,d⟩,q⟩
 ·obtain⟨c,r,p,z⟩:=i.list d
  refine wpAny_pyIter_list p.isList ?_;exact⟨s1.heap.objs.size,[s1.heap.objs.size],_,_,H1,rfl,i.kept (t':=s1.toks) λb o e=>af _ e,El a _,⟨_,av _ rfl,rfl,rfl⟩,f,q⟩
 ·obtain⟨c,r,p,z⟩:=i.tuple d
  refine wpAny_pyIter_tuple (show s1.heap.IsTuple a c.toArray from p) ?_
  exact⟨s1.heap.objs.size,[s1.heap.objs.size],_,_,H1,rfl,i.kept (t':=s1.toks) λb o e=>af _ e,HL a _,⟨_,av _ rfl,rfl,rfl⟩,f,q⟩
noncomputable def j8 (lo:Int)(n:Nat):jH:=⟨λ_ i=>if i<n then some (some (.int (lo+i))) else some none,n⟩
def O7 {K:Frag}{lo:Int}:Z7 K φ H (j8 lo n) (KQ lo n):=λi a h A lw S=>by
 unfold j8;dsimp only
 by_cases hi:i<n
 ·rw[ag hi]
  refine⟨λw e=>?_,λe=>by cases e⟩
  cases e;exact⟨hi,λx H1 ⟨b,E⟩=>by subst b;exact⟨.refl,S,E⟩⟩
 ·rw[aj hi]
  exact⟨λw e=>(by cases e),λ_=>Nat.le_of_not_lt hi⟩
noncomputable def jI (i:Int):Bool:=decide (-(2 ^ 62)<=i)&&decide (i<2 ^ 62)
def Qh {i:Int}(h:jI i=true):-(2 ^ 62)<=i/\i<2 ^ 62:=by
 unfold jI at h;rw[aw,ak,ak]at h;exact h
def qJ (m:Ev):Ei:=λρ A=>(m ρ A).bind λw A1=>match w with
 |.int j=>if jI j then .ok (j8 0 j.toNat) A1 else .bad|_=>.bad
def Ut (m M:Ev):Ei:=λρ A=>(m ρ A).bind λw A1=>(M ρ A1).bind λa A2=>match w,a with
 |.int i,.int j=>if jI i&&jI j then .ok (j8 i (j-i).toNat) A2 else .bad|_,_=>.bad
end
abbrev Fn:=List W->Hx->R W
def kf (K:Frag)(x:Str)(C:Value):Prop:=nsIn K mainGlobals x=some (some C)
def XE (K:Frag)(E:XK)(x:Str)(H:Hp):Prop:=∀C d,kf K x C->E C d H
inductive KO (K:Frag)(n:Nat)(f:Fn)(vs:List V)(H:Hp)(Q:VK)(E:XK):Prop
 |mk (len:vs.length=n) (φ:bZ) (A:Hx) (ws:List W) (S:zI K φ A H) (r:zy K φ H ws vs) (q:(f ws A).post (PB K φ H Q) (EB K φ H (XE K E)))
def KO.len {K:Frag}{f:Fn}{vs:List V}{Q:VK}{E:XK}(h:KO K n f vs H Q E):vs.length=n:=by cases h;assumption
inductive zN (P:Program)(w:World)(K:Frag)(mg:cm)(base:Heap)(k:Nat)(x:Str)(n:Nat)(f:Fn):Prop
 |mk (fa:Addr) (fd:FuncData) (ps:cc) (F:yY P w K mg base gr k fa fd ps (KO K n f)) (at_:mg x=some (.ref fa)) (kp:keepIn K (.ref fa)=true) (bi:Binds K fd ps [])
noncomputable def zH (f:Fn)(a:Ea):Ev:=λρ A=>(a ρ A).bind λws A1=>f ws A1
section
variable {m ma:Ev}
def Zq (m:Ea)(n:Nat):Prop:=∀ρ A ws a,m ρ A=.ok ws a->ws.length=n
def zF:Zq zj 0:=λ_ _ _ _ h=>by unfold zj at h;cases h;rfl
def zp {M:Ea}(h:Zq M n):Zq (zc ma M) (n+1):=λρ A ws a e=>by
 unfold zc at e;cases h1:ma ρ A with
 |ok x A1=>
  rw[h1,zO]at e;cases H:M ρ A1 with
  |ok xs A2=>rw[H,zO]at e;cases e;simp[h ρ A1 xs _ H]|exc x A2=>rw[H]at e;cases e|bad=>rw[H]at e;cases e
 |exc x A1=>rw[h1]at e;cases e|bad=>rw[h1]at e;cases e
end
noncomputable def qU (n:Nat)(m:Ex):Fn:=λws A=>(m (ws.map some++List.replicate (n-ws.length) none) A).nox.bind λf A1=>match f with
 |.rt w=>.ok w A1|.nx _=>.ok .non A1|_=>.bad
theorem RE.start {K:Frag}{ws:List W}{vs:List V}(h:zy K φ H ws vs):RE K φ H (ws.map some++List.replicate (N.length-ws.length) none) (L2.start N vs):=by
 unfold L2.start;refine⟨by simp[h.length],λi w e=>?_⟩
 by_cases hi:i<ws.length
 ·rw[ah (by simpa using hi),ao]at e
  cases hw:ws[i]? with
  |none=>rw[hw]at e;cases e|some c=>
   rw[hw]at e;cases e;obtain⟨v,b,a⟩:=h.get hw;refine⟨v,?_,a⟩;rw[ah (by rw[ai,<- h.length];exact hi),ao,b];rfl
 ·rw[aq (by simpa using hi),bC]at e
  split at e<;>cases e
section
variable {K:Frag}
theorem zN.mono {k:Nat}{f:Fn}(F:zN P w K mg base j x n f)(h:j<=k):zN P w K mg base k x n f:=by cases F with|mk d fd ps F a b c=>exact⟨d,fd,ps,F.mono h,a,b,c⟩
theorem zN.imp {k:Nat}{f g:Fn}(F:zN P w K mg base k x n f)(h:∀ws A,ws.length=n->g ws A=.bad∨f ws A=g ws A):zN P w K mg base k x n g:=by
 obtain⟨d,fd,ps,F,a,b,c⟩:=F;refine⟨d,fd,ps,F.imp λvs H Q E ⟨l,φ,A,ws,S,r,q⟩=>⟨l,φ,A,ws,S,r,?_⟩,a,b,c⟩;rcases h ws A (by rw[r.length];exact l) with e|e
 ·rw[e]at q;exact q.elim
 ·rw[e];exact q
end
section
variable {K:Frag}
def jQ {a:α}{A:Hx}:qR (R.ok a A):=λ_ _ h=>by cases h
def qP:qR (R.bad:R α):=λ_ _ h=>by cases h
def gF {c:Prop} [Decidable c] {a b:R α}(H:qR a)(h:qR b):qR (if c then a else b):=by split<;>assumption
noncomputable def gU (f:Int->Int->W):W->W->Hx->R W
 |.int i,.int j,A=>.ok (f i j) A|_,_,_=>.bad
def QA {f:Int->Int->W}:∀x y A,qR (gU f x y A):=λx y A=>by
 unfold gU;split
 ·exact jQ
 ·exact qP
noncomputable def Z2 (c:Int->Int->Bool)(f:Int->Int->W):W->W->Hx->R W
 |.int i,.int j,A=>if c i j then .ok (f i j) A else .bad|_,_,_=>.bad
def Uz {c:Int->Int->Bool}{f:Int->Int->W}:∀x y A,qR (Z2 c f x y A):=λx y A=>by
 unfold Z2;split
 ·exact gF jQ qP
 ·exact qP
def Qq {f:Int->Int->W}{g:Int->Int->V}(h:∀i j φ H,RV K φ H (f i j) (g i j)):yn K (gO g) (gU f):=λφ A H x y u v Q S a q p=>by
 cases u with
 |int i=>cases v with
  |int j=>obtain rfl:=a;obtain rfl:=q;exact⟨i,j,rfl,rfl,p φ H _ .refl S (h i j φ H)⟩|_=>exact p.elim
 |_=>exact p.elim
def VP {c:Int->Int->Bool}{C:Int->Int->Prop}{f:Int->Int->W}{g:Int->Int->V}(d:∀i j,c i j=true->C i j)(h:∀i j φ H,RV K φ H (f i j) (g i j)):yn K (rI C g) (Z2 c f):=λφ A H x y u v Q S b q p=>by
 cases u with
 |int i=>cases v with
  |int j=>
   obtain rfl:=b;obtain rfl:=q;unfold Z2 at p;dsimp only at p
   by_cases a:c i j=true
   ·rw[ag a]at p;exact⟨i,j,rfl,rfl,d i j a,p φ H _ .refl S (h i j φ H)⟩
   ·rw[aj a]at p;exact p.elim
  |_=>exact p.elim
 |_=>exact p.elim
noncomputable def KA (i j:Int):Bool:=(decide (-(2 ^ 64)<i)&&decide (i<2 ^ 64)) || (decide (-(2 ^ 64)<j)&&decide (j<2 ^ 64))
noncomputable def GR (_ j:Int):Bool:=decide (0<j)
def Bo (i j:Int)(h:KA i j=true):Ku i j:=by
 unfold KA at h;simp only[bO,aw,decide_eq_true_eq]at h;exact h
def C7 (i j:Int)(h:GR i j=true):(λ_ j=>0<j) i j:=by
 unfold GR at h;simpa using h
def kq:=gU λi j=>.int (i-j)
def wc:=Z2 GR λi j=>.int (i%j)
def ZY:=gU λi j=>.int (Builtin.bitXor i j)
def Jz:=gU λi j=>.bl (decide (i<j))
def Z6:=gU λi j=>.bl (decide (i<=j))
def KU:=gU λi j=>.bl (decide (j<i))
def U6:=gU λi j=>.bl (decide (j<=i))
noncomputable def UY (i j:Int):Bool:=decide (0<=j)&&decide (j<=1000000)&&decide (i.natAbs<2 ^ 64)
def BY (i j:Int)(h:UY i j=true):NV i j:=by
 unfold UY at h;simp only[aw,decide_eq_true_eq]at h;exact⟨h.1.1,h.1.2,h.2⟩
def GC:=Z2 UY λi j=>.int (i ^ j.toNat)
variable {a b c:Expr}
noncomputable def Yg:W->Hx->R W
 |.int i,A=>.ok (.int (-i)) A|_,_=>.bad
structure wC (X:Cx)(op:CmpOp)(g:W->W->Hx->R W):Prop where
 ex:∃r:R2,qX X (compareOp op) r/\(∀x y A,qR (g x y A))/\yn X.K r g
 mks:∀b,op≠.In->op≠.NotIn->behindInMarks op b=false
def Ja {r:R2}{g:W->W->Hx->R W}(a:qX X (compareOp op) r)(H:∀x y A,qR (g x y A))(h:yn X.K r g):wC X op g:=⟨⟨r,a,H,h⟩,λb a1 a2=>E6 b a1 a2⟩
def UK:wC X .Lt Jz:=Ja dy QA (Qq λ_ _ _ _=>rfl)
def UU:wC X .LtE Z6:=Ja dz QA (Qq λ_ _ _ _=>rfl)
def N8:wC X .Gt KU:=Ja dA QA (Qq λ_ _ _ _=>rfl)
def ej:wC X .GtE U6:=Ja dB QA (Qq λ_ _ _ _=>rfl)
end
inductive Ty where
 |non|bl|int|str|tup|lst|dct
 deriving DecidableEq
noncomputable def Ty.nm:Ty->String
 |.non => "NoneType" | .bl => "bool" | .int => "int" | .str => "str" | .tup => "tuple" | .lst => "list" | .dct => "dict"
noncomputable def yk (w:W)(A:Hx):Option Ty:=match w with
 |.non=>some .non|.bl _=>some .bl|.int _=>some .int|.str _=>some .str|.tup _=>some .tup|.ref n=>match A[n]? with
  |some (.lst _)=>some .lst|some (.dct _)=>some .dct|_=>none
 |_=>none
noncomputable def kK (a b:Ty):Bool:=a==b || (a==.bl&&b==.int)
def W9 {K:Frag}(a b:Ty):kitOne K (.type a.nm) (.type b.nm)=some (kK a b):=by
 cases a<;>cases b<;>rfl
section
variable {xr:XR}{K:Frag}{a c:Expr}{es:cg}{m:Ev}
def Jy (K:Frag)(H:Hp)(x:V)(t:Ty):Prop:=wY K H x (.type t.nm)∨∃a xs,x=.ref a/\qM K H a xs/\t=.tup
def PN {A:Hx}{w:W}{t:Ty}(S:zI K φ A H)(q:RV K φ H w v)(e:yk w A=some t):Jy K H v t:=by
 cases w with
 |non=>cases e;obtain rfl:=q;exact .inl .non|bl k=>cases e;obtain rfl:=q;exact .inl (.bl k)|clo _ _ _=>cases e|xc _=>cases e|int k=>cases e;obtain rfl:=q;exact .inl (.int k)|str k=>cases e;obtain rfl:=q;exact .inl (.str k)|tup ws=>cases e;obtain⟨a,vs,rfl,h,_⟩:=q;exact .inr ⟨a,vs,rfl,h,rfl⟩|ref n=>
  obtain⟨a,rfl,c⟩:=q;unfold yk at e;dsimp only at e;cases E:A[n]? with
  |none=>rw[E]at e;cases e|some o=>
   rw[E]at e;obtain⟨d,b,r⟩:=S.ob n o E;rw[c]at b;cases b;cases o with
   |lst ws=>cases e;obtain⟨vs,z,_⟩:=r;exact .inl (.lst z)|dct ws=>cases e;obtain⟨vs,z,_⟩:=r;exact .inl (.dK z)|td _=>cases e|tr _=>cases e|tab _ _=>cases e|ro ws=>cases e
def Jy.kit {x:V}{t:Ty}(I:Inv X pins σ H s)(r:RelV x u)(h:Jy X.K H x t):
  (∀{Q:cf}{E:cf}{A:Around}{c:Ty},(∀tk,Q (.bool (kK t c)) { s with toks:=tk })->wpAny (model X.prog X.w) A (call (.builtin "isinstance") [u,.type c.nm]) Q E s):=by
 intro Q E A c q;rcases h with h|⟨a,xs,rfl,h,rfl⟩
 ·exact R4 I r h (W9 t c) q
 ·cases (show u=Value.ref a from r)
  obtain⟨i,_,⟨o,d,b,_⟩,_⟩:=I.tuple h;exact bD kitx_tuple I.kIn ⟨o,d,b⟩ (W9 .tup c) (λz=>nomatch z) q
def eu (K:Frag):List V->Hp->VK->Prop:=λxs H Q=>∃x t c,xs=[x,.ty (Ty.nm c)]/\Jy K H x t/\Q (.bl (kK t c)) H
def C8:j3 X (.builtin "isinstance") (eu X.K):=by
 intro pins s σ H xs us Q I r h;obtain⟨x,t,c,rfl,d,q⟩:=h;obtain⟨u,U,rfl,b,a⟩:=vals2 r;cases (show U=Value.type c.nm from a)
 exact d.kit I b λtk=>⟨.bl (kK t c),H,I.tok tk,rfl,q⟩
def kM (t:Ty)(m:Ev):Ev:=λρ A=>(m ρ A).bind λw A1=>match yk w A1 with
 |some t'=>.ok (.bl (kK t' t)) A1|none=>.bad
def zD:W->W->Hx->R W:=λx y A=>match zP x A,y with
 |some ws,.int i=>match wK ws i with
  |some w=>.ok w A|none=>.bad
 |_,_=>.bad
def ew:∀x y A,qR (zD x y A):=λx y A=>by
 unfold zD;split
 ·split
  ·exact jQ
  ·exact qP
 ·exact qP
def Dx {ws:List W}{i:Int}{w:W}(r:zy K φ H ws ys)(e:wK ws i=some w):∃y,wK ys i=some y/\RV K φ H w y:=by
 unfold wK at e ⊢;rw[<- r.length];cases h:gw ws.length i with
 |none=>rw[h]at e;cases e|some j=>
  rw[h]at e;obtain⟨y,b,a⟩:=r.get (i:=j) e;exact⟨y,b,a⟩
def ez:yn K (MD K) zD:=λφ A H x y u v Q S c q p=>by
 unfold zD at p;cases es:zP u A with
 |none=>rw[es]at p;exact p.elim|some ws=>
  rw[es]at p;cases v with
  |int i=>
   obtain rfl:=q;dsimp only at p;cases e:wK ws i with
   |none=>rw[e]at p;exact p.elim|some w=>
    rw[e]at p;obtain⟨a,ys,rfl,z,r⟩:=Wu S c es;obtain⟨Y,b,h⟩:=Dx r e;rcases z with z|z
    ·exact .inl ⟨a,ys,i,Y,rfl,rfl,z,b,p φ H _ .refl S h⟩
    ·exact .inr (.inl ⟨a,ys,i,Y,rfl,rfl,z,b,p φ H _ .refl S h⟩)
  |non=>exact p.elim|bl _=>exact p.elim|str _=>exact p.elim|tup _=>exact p.elim|ref _=>exact p.elim|clo _ _ _=>exact p.elim|xc _=>exact p.elim
def JB (K:Frag)(r:List V->Hp->VK->Prop)(g:List W->Hx->R W):Prop:=∀φ A H a ys ws Q,zI K φ A H->(qW K H a ys∨qM K H a ys)->zy K φ H ws ys->(g ws A).post (PB K φ H Q) gT->r [.ref a] H Q
noncomputable def mQ (g:List W->Hx->R W)(q:j5):Ev:=λρ A=>(q ρ A).bind λws A1=>g ws A1
def mQ.read {g:List W->Hx->R W}{q:j5}(hn:∀ws A,qR (g ws A))(c:JB X.K r g):∀σ H Q,tM X.K xr (mQ g q) σ H Q->GY r (Gu (tQ X.K xr q) UM) σ H Q:=by
 rintro σ H Q ⟨φ,A,ρ,S,re,h⟩
 refine⟨φ,A,ρ,S,re,qp (zZ.mp h) (λws A1 d b H1 a ys l s z r=>?_) λ_ _ z=>z⟩;exact c b A1 H1 a ys ws Q s z r (qp (JQ (hn _ _) d) (λ_ _ z=>z.mono l) λ_ _ z=>z)
def Uo {id:String}{g:List W->Hx->R W}{q:j5}(d:j3 X (.builtin id) r)(hn:∀ws A,qR (g ws A))(a:JB X.K r g)(hm:X.mg x=none)(v:bootBuiltins x=some (.builtin id))(f:SQ X xr e q)(c:Gl X x:=by rfl)
  (H:x ≠ "__name__":=by decide)(b:(x==("__debug__":Str))=false:=by decide)(he:starEach [e] X.env=(false,eval e X.env)::starEach [] X.env:=by rfl)(h:(backTo pos (starEach [] X.env)).any (·.1)=false:=by rfl):
  SE X xr (.Call (.Name x p) [e] [] pos) (mQ g q):=PE.imp (ZK d c hm v (jk f jZ he) H b he h) (mQ.read hn a)
def eA {id:String}{g:List W->Hx->R W}{q:j5}(d:j3 X (.type id) r)(hn:∀ws A,qR (g ws A))(a:JB X.K r g)(hm:X.mg x=none)(v:bootBuiltins x=some (.type id))(f:SQ X xr e q)(c:Gl X x:=by rfl)
  (H:x ≠ "__name__":=by decide)(b:(x==("__debug__":Str))=false:=by decide)(he:starEach [e] X.env=(false,eval e X.env)::starEach [] X.env:=by rfl)(h:(backTo pos (starEach [] X.env)).any (·.1)=false:=by rfl):
  SE X xr (.Call (.Name x p) [e] [] pos) (mQ g q):=PE.imp (JL d c hm v (jk f jZ he) H b he h) (mQ.read hn a)
noncomputable def qE:List W->Hx->R W:=λws A=>.ok (.int ws.length) A
def Bn:JB K (λxs H Q=>∃p ys,xs=[.ref p]/\(qW K H p ys∨qM K H p ys)/\Q (.int ys.length) H) qE:=λφ A H a ys ws Q S z r p=>
 ⟨a,ys,rfl,z,by rw[<- r.length];exact p φ H _ .refl S rfl⟩
noncomputable def jm:List W->Hx->R W:=λws A=>.ok (.tup ws) A
def C4:JB K (λxs H Q=>∃p ys,xs=[.ref p]/\((qW K H p ys/\∀l,H l=none->Q (.ref l) (upd H l (.tup ys)))∨(qM K H p ys/\Q (.ref p) H))) jm:=λφ A H a ys ws Q S z r p=>by
 refine⟨a,ys,rfl,?_⟩;rcases z with z|z
 ·refine .inl ⟨z,λl h=>?_⟩
  obtain⟨a1,a2,b⟩:=Q8 S h r;exact p _ _ _ a1 a2 b
 ·exact .inr ⟨z,p φ H _ .refl S ⟨a,ys,rfl,z,r⟩⟩
variable {b:Expr}
def P7 {a:Addr}(I:Inv X pins σ H s)(l:X.calm=true)(z:qW X.K H a ys∨qM X.K H a ys)
  (h:∀(c:bY)(j:Addr)(fp wr:bZ)(S:Nat->Heap->Prop)(s2:Shared),Vals ys c->ys.length<=sizeLine->Walks X.prog X.w X.A.in1 j fp wr c.length (λi v=>c[i]? =some v) S->S 0 s2.heap->(∀b∈fp,b<s2.heap.objs.size)->
   (∀(h':Heap)(tk:Nat),(∀b o,b∉wr->s2.heap.get? b=some o->h'.get? b=some o)->Inv X pins σ H { s2 with heap:=h',toks:=tk })->Q (.ref j) s2):
  wpAny (model X.prog X.w) X.A.in1 (pyIter (.ref a)) Q E s:=by
 have g:X.A.in1.handled=none:=I.ok.hd l;have keep:∀(o:Obj)(h':Heap)(tk:Nat),(∀b u,b∉[s.heap.objs.size]->(s.heap.push o).get? b=some u->h'.get? b=some u)->Inv X pins σ H { s with heap:=h',toks:=tk }:=λo h' tk k=>I.kept λb u e=>k b u (by
  intro hm;have q:b=s.heap.objs.size:=by simpa using hm
  exact absurd (q ▸ aG e) (aW _)) (af _ e)
 rcases z with z|z
 ·obtain⟨c,r,p,f⟩:=I.list z
  have t:a<s.heap.objs.size:=by obtain⟨o,n,e,_⟩:=p;exact aG e
  refine wpAny_pyIter_list p.isList ?_;have W:=Walks.list (prog:=X.prog) (w:=X.w) g s.heap.objs.size a (aM t) c.toArray;rw[aF]at W;simp only[List.getElem?_toArray]at W;refine h c s.heap.objs.size _ _ _ _ r f W ⟨⟨_,av _ rfl,rfl,rfl⟩,p.isList.at λo e=>af _ e⟩ (λb d=>?_) λh' tk k=>keep _ h' tk k;show b<(s.heap.push _).objs.size;rw[bf];rcases cA.mp d with e|d
  ·rw[e];exact bz _
  ·have e:b=a:=by simpa using d
   rw[e];exact bc t
 ·obtain⟨c,r,p,f⟩:=I.tuple z
  have t:a<s.heap.objs.size:=p.lt;have P:s.heap.IsTuple a c.toArray:=p;refine wpAny_pyIter_tuple P ?_;have W:=Walks.tuple (prog:=X.prog) (w:=X.w) g s.heap.objs.size a (aM t) c.toArray;rw[aF]at W;simp only[List.getElem?_toArray]at W;refine h c s.heap.objs.size _ _ _ _ r f W ⟨⟨_,av _ rfl,rfl,rfl⟩,P.at λo e=>af _ e⟩ (λb d=>?_) λh' tk k=>keep _ h' tk k;show b<(s.heap.push _).objs.size;rw[bf];rcases cA.mp d with e|d
  ·rw[e];exact bz _
  ·have e:b=a:=by simpa using d
   rw[e];exact bc t
noncomputable def KI:V->Option Bool
 |.bl b=>some b|.int i=>some (i != 0)|.non=>some false|_=>none
noncomputable def KL:W->Option Bool
 |.bl b=>some b|.int i=>some (i != 0)|.non=>some false|_=>none
def Di {w:W}{k:Bool}(q:RV K φ H w v)(e:KL w=some k):KI v=some k:=by
 cases w<;>first
  |(cases e;done)
  |(obtain rfl:=q;exact e)
def F0 {A:Around}{k:Bool}{Q:Bool->Shared->Prop}(r:RelV v u)(e:KI v=some k)(h:Q k s):wpAny (model X.prog X.w) A (truthy u) Q E s:=by
 cases v with
 |bl b=>cases e;cases r;exact wpAny_truthy_bool h|int i=>
  cases e;obtain⟨t,rfl⟩:=r;exact PySem.P.truthy_int h
 |non=>cases e;cases r;exactλ_ _ _=>h|_=>cases e
def gE:List W->Option (List Bool)
 |[]=>some []|w::ws=>match KL w,gE ws with
  |some k,some ks=>some (k::ks)|_,_=>none
theorem Ri:∀{ws:List W}{ys:List V}{ks:List Bool},zy K φ H ws ys->gE ws=some ks->∀(i:Nat)(y:V),ys[i]? =some y->∃k,ks[i]? =some k/\KI y=some k
 |[],_,_,r,e,i,y,h=>by cases r;simp at h|w::ws,_,ks,⟨v,r,g,q,t⟩,e,i,y,h=>by
  subst g;unfold gE at e;cases E:KL w with
  |none=>rw[E]at e;cases e|some k=>
   cases a:gE ws with
   |none=>rw[E,a]at e;cases e|some b=>
    rw[E,a]at e;cases e;cases i with
    |zero=>simp at h;subst h;exact⟨k,by simp,Di q E⟩|succ i=>simp at h;obtain⟨c,f,d⟩:=Ri t a i y h;exact⟨c,by simpa using f,d⟩
theorem Rz:∀{ws:List W}{ks:List Bool},gE ws=some ks->ks.length=ws.length
 |[],_,e=>by cases e;rfl|w::ws,ks,e=>by
  unfold gE at e;cases a:KL w with
  |none=>rw[a]at e;cases e|some k=>
   cases E:gE ws with
   |none=>rw[a,E]at e;cases e|some K=>rw[a,E]at e;cases e;simp[Rz E]
def range_all (ks:List Bool):(List.range ks.length).all (λi=>ks.getD i false)=ks.all id:=by
 rw[Bool.eq_iff_iff,all_eq_true,all_eq_true]
 constructor
 ·intro h x b
  obtain⟨i,a,rfl⟩:=bo b
  have:=h i (cC.mpr a)
  rw[ae,aa a]at this;exact this
 ·intro h i a
  have H:=cC.mp a;rw[ae,aa H];exact h _ (aP H)
def Md (K:Frag)(f:List Bool->Bool):List V->Hp->VK->Prop:=λxs H Q=>∃a ys ks,xs=[.ref a]/\(qW K H a ys∨qM K H a ys)/\ks.length=ys.length/\(∀(i:Nat)(y:V),ys[i]? =some y->∃k,ks[i]? =some k/\KI y=some k)/\Q (.bl (f ks)) H
def D3 {ks:List Bool}{A:Around}(r:Vals ys its)(l:ks.length=ys.length)(t:∀(i:Nat)(y:V),ys[i]? =some y->∃k,ks[i]? =some k/\KI y=some k):TruthOf X.prog X.w A (λi v=>its[i]? =some v) λi=>ks.getD i false:=by
 intro i v s Q E P H;have b:i<its.length:=(cB.mp P).1;have h:i<ys.length:=by rw[r.length];exact b
 obtain⟨u,a,e⟩:=r.get (i:=i) (x:=ys[i]) (by simp[h])
 rw[P]at a;cases a;obtain⟨k,d,c⟩:=t i ys[i] (by simp[h])
 dsimp only at H;rw[ae,d]at H;exact F0 e c H
def Cs (d:X.calm=true):j3 X (.builtin "all") (Md X.K λks=>ks.all id):=by
 intro pins s σ H xs us Q I r h;obtain⟨a,ys,ks,rfl,z,l,t,q⟩:=h;obtain⟨u,rfl,c⟩:=vals1 r;cases c;refine call_all_walk (P7 I d z λb f fp wr S s2 v g W st p back=>?_);refine⟨f,fp,wr,_,_,S,λi=>ks.getD i false,rfl,W,st,D3 v l t,λh' tk k=>?_⟩;have e:b.length=ks.length:=by rw[l,v.length]
 rw[e,range_all];exact⟨.bl _,H,back h' tk k,rfl,q⟩
def Jo (f:List Bool->Bool):List W->Hx->R W:=λws A=>match gE ws with
 |some ks=>.ok (.bl (f ks)) A|none=>.bad
def eB {f:List Bool->Bool}:∀ws A,qR (Jo f ws A):=λws A=>by
 unfold Jo;split
 ·exact jQ
 ·exact qP
def BV {f:List Bool->Bool}:JB K (Md K f) (Jo f):=λφ A H a ys ws Q S z r p=>by
 unfold Jo at p;cases e:gE ws with
 |none=>rw[e]at p;exact p.elim|some ks=>
  rw[e]at p;exact⟨a,ys,ks,rfl,z,by rw[Rz e,r.length],Ri r e,p φ H _ .refl S rfl⟩
abbrev Jk:=Jo λks=>ks.all id
def eC:qX X (compareOp .Is) (λx y H Q=>∃i j,x=.bl i/\y=.bl j/\Q (.bl (i==j)) H):=by
 intro pins s σ H x y v u Q I a r h;obtain⟨i,j,rfl,rfl,q⟩:=h;cases a;cases r;exact is_bool ⟨.bl _,H,I,rfl,q⟩
noncomputable def UH:W->Bool
 |.non=>true|_=>false
def Fd {w:W}(q:RV K φ H w v):decide (v=.non)=UH w:=by
 cases w with
 |non=>obtain rfl:=q;rfl|bl b=>obtain rfl:=q;rfl|clo _ _ _=>obtain⟨a,_,_,_,_,_,_,rfl,_⟩:=q;rfl|xc _=>obtain⟨a,_,_,_,rfl,_⟩:=q;rfl|int b=>obtain rfl:=q;rfl|str b=>obtain rfl:=q;rfl|tup ws=>obtain⟨a,vs,rfl,_⟩:=q;rfl|ref n=>obtain⟨a,rfl,_⟩:=q;rfl
def Yu (neg:Bool):W->W->Hx->R W:=λx y A=>match x,y with
 |.bl i,.bl j=>.ok (.bl (if neg then !(i==j) else i==j)) A|w,.non=>.ok (.bl (if neg then !UH w else UH w)) A|_,_=>.bad
def eD {n:Bool}:∀x y A,qR (Yu n x y A):=λx y A=>by
 unfold Yu;split
 ·exact jQ
 ·exact jQ
 ·exact qP
def eE:yn K (λx y H Q=>(y=.non/\Q (.bl (decide (x=.non))) H)∨∃i j,x=.bl i/\y=.bl j/\Q (.bl (i==j)) H) (Yu false):=λφ A H x y u v Q S b a p=>by
 cases v with
 |non=>
  have q:y=.non:=a;refine .inl ⟨q,?_⟩;rw[Fd b];cases u<;>exact p φ H _ .refl S rfl
 |bl j=>
  cases u with
  |bl i=>obtain rfl:=b;obtain rfl:=a;exact .inr ⟨i,j,rfl,rfl,p φ H _ .refl S rfl⟩|_=>exact p.elim
 |_=>cases u<;>exact p.elim
def eF:wC X .Is (Yu false):=Ja (dC.or eC) eD eE
end
noncomputable def N6 (outer sc:Scope):Bool:=sc.kind==.function&&decide ((sc.names.map (·.1)).Nodup)&&sc.names.all λy=>y.2 != .free || (outer.names.lookup y.1==some .cell || outer.names.lookup y.1==some .free)
def cps (h:N6 X.env.scope sc=true):Zb X sc:=by
 unfold N6 at h;rw[aw,aw,ak,aK,all_eq_true]at h;refine⟨h.1.1,h.1.2,λy H e=>?_⟩
 have:=h.2 y H
 rw[e]at this;simp only[bne_self_eq_false,Bool.false_or,bO,aK]at this;exact this
section
variable {xr:XR}{K:Frag}{a b:Expr}{ma mb:Ev}
theorem zI.lst {φ:bZ}{A:Hx}{H:Hp}{n:Nat}{ws:List W}{v:V}(S:zI K φ A H)(q:RV K φ H (.ref n) v)(e:A[n]? =some (.lst ws)):∃p vs,v=.ref p/\φ[n]? =some p/\H p=some (.lst vs)/\zy K φ H ws vs:=by
 obtain⟨p,rfl,a⟩:=q;obtain⟨P,h,vs,c,b⟩:=S.ob n _ e;rw[a]at h;cases h;exact⟨p,vs,rfl,a,c,b⟩
def DY {prog:Program}{A:Around}{t b:Addr}{ws:bY}(a:IsTup s.heap t ([]:bY).toArray)(e:IsTup s.heap b ws.toArray)(h0:Q (.ref b) s):
  wpAny (model prog w) A (binaryOp .Add (.ref t) (.ref b)) Q E s:=by
 obtain⟨⟨cls,dd,data,l⟩,o,c,n,hd⟩:=id a;obtain⟨⟨C,d,data2,S⟩,h,H,N,hd2⟩:=id e;simp only at c hd H hd2;subst c hd H hd2;exact concat_meets ⟨_,o,rfl⟩ ⟨_,h,rfl⟩ noFill_tuple_add seq_tuple_add slot_tuple_add entry_tuple_add (args_tuple_add_2 _ _)
   (tuple_addW0 t b ([]:bY).toArray ws.toArray n N dd d l S (by simp)) ⟨o,h,h0⟩
noncomputable def Ng (K:Frag):R2:=λx y H Q=>∃a b ys,x=.ref a/\y=.ref b/\qM K H a []/\qM K H b ys/\Q (.ref b) H
def DQ:qX X (binaryOp .Add) (Ng X.K):=by
 intro pins s σ H x y v u Q I c r h;obtain⟨a,b,ys,rfl,rfl,g,f,q⟩:=h;cases c;cases r;obtain⟨e,d,P,_⟩:=I.tuple g;obtain⟨i,j,p,_⟩:=I.tuple f;cases d;exact DY P p ⟨.ref b,H,I,rfl,q⟩
def qB:W->W->Hx->R W:=λx y A=>match x,y with
 |.int i,.int j=>.ok (.int (i+j)) A|.tup xs,.tup ys=>if xs.length+ys.length<=qa then .ok (.tup (xs++ys)) A else .bad|.ref n,.ref k=>match A[n]?,A[k]? with
  |some (.lst xs),some (.lst ys)=>if xs.length+ys.length<=qa then .ok (.ref A.length) (A++[.lst (xs++ys)]) else .bad|_,_=>.bad
 |_,_=>.bad
def Ar:∀x y A,qR (qB x y A):=λx y A=>by
 unfold qB
 split
 ·exact jQ
 ·exact gF jQ qP
 ·split
  ·exact gF jQ qP
  ·exact qP
 ·exact qP
def ZI (h:n<=qa):n<=sizeLine:=by
 have:sizeLine=16777216:=sizeLine_eq
 unfold qa at h;omega
def BW:yn K (λx y H Q=>gO (λi j=>.int (i+j)) x y H Q∨NA K x y H Q∨Ng K x y H Q∨N9 x y H Q) qB:=λφ A H x y u v Q S f q p=>by
 cases u with
 |int i=>cases v with
  |int j=>obtain rfl:=f;obtain rfl:=q;exact .inl ⟨i,j,rfl,rfl,p φ H _ .refl S rfl⟩|_=>exact p.elim
 |tup xs=>cases v with
  |tup ys=>
   obtain⟨a1,b,rfl,t1,c⟩:=f;obtain⟨a2,a,rfl,t,r⟩:=q;unfold qB at p;dsimp only at p
   by_cases h:xs.length+ys.length<=qa
   ·rw[ag h]at p
    by_cases z:b=[]
    ·subst z
     have o:xs=[]:=by
      have:=c.length
      simpa using this
     subst o;exact .inr (.inr (.inl ⟨a1,a2,a,rfl,rfl,t1,t,p φ H _ .refl S ⟨a2,a,rfl,t,r⟩⟩))
    ·refine .inr (.inl ⟨a1,a2,b,a,rfl,rfl,t1,t,z,by rw[<- c.length,<- r.length];exact ZI h,λe=>?_,λne l g=>?_⟩)
     ·subst e
      have o:ys=[]:=by
       have:=r.length
       simpa using this
      subst o;rw[bH]at p;exact p φ H _ .refl S ⟨a1,b,rfl,t1,c⟩
     ·obtain⟨w,s,B⟩:=Q8 S g (c.append r)
      exact p _ _ _ w s B
   ·rw[aj h]at p;exact p.elim
  |_=>exact p.elim
 |ref n=>cases v with
  |ref k=>
   unfold qB at p;dsimp only at p;cases E:A[n]? with
   |none=>rw[E]at p;exact p.elim|some I=>cases I with
    |lst xs=>
     cases d:A[k]? with
     |none=>rw[E,d]at p;exact p.elim|some D=>cases D with
      |lst ys=>
       rw[E,d]at p;dsimp only at p;obtain⟨C,v1,rfl,f1,g1,c⟩:=S.lst f E;obtain⟨P,v2,rfl,f2,g2,r⟩:=S.lst q d
       by_cases h:xs.length+ys.length<=qa
       ·rw[ag h]at p
        refine .inr (.inr (.inr ⟨C,P,v1,v2,rfl,rfl,g1,g2,by rw[<- c.length,<- r.length];exact ZI h,λl g=>?_⟩))
        obtain⟨w,s,B⟩:=Zd S g (c.append r);exact p _ _ _ w s B
       ·rw[aj h]at p;exact p.elim
      |_=>rw[E,d]at p;exact p.elim
    |_=>rw[E]at p;exact p.elim
  |_=>exact p.elim
 |_=>cases v<;>exact p.elim
def je:W->W->Hx->R W:=λx y A=>match x,y with
 |.int i,.int j=>if KA i j then .ok (.int (i * j)) A else .bad|.ref n,.int k=>match A[n]? with
  |some (.lst xs)=>if jI k&&decide (xs.length * k.toNat<=qa) then .ok (.ref A.length) (A++[.lst (List.replicate k.toNat xs).flatten]) else .bad|_=>.bad
 |_,_=>.bad
def eG:∀x y A,qR (je x y A):=λx y A=>by
 unfold je
 split
 ·exact gF jQ qP
 ·split
  ·exact gF jQ qP
  ·exact qP
 ·exact qP
theorem zy.rep {ws:List W}{vs:List V}(r:zy K φ H ws vs):∀n:Nat,zy K φ H (List.replicate n ws).flatten (List.replicate n vs).flatten
 |0=>.nil|n+1=>by rw[bh,bh,a6,a6];exact r.append (zy.rep r n)
def An:yn K (λx y H Q=>rI Ku (λi j=>.int (i * j)) x y H Q∨NX x y H Q) je:=λφ A H x y u v Q S a q p=>by
 cases v with
 |int j=>cases u with
  |int i=>
   obtain rfl:=a;obtain rfl:=q;unfold je at p;dsimp only at p
   by_cases c:KA i j=true
   ·rw[ag c]at p;exact .inl ⟨i,j,rfl,rfl,Bo i j c,p φ H _ .refl S rfl⟩
   ·rw[aj c]at p;exact p.elim
  |ref n=>
   obtain rfl:=q;unfold je at p;dsimp only at p;cases e:A[n]? with
   |none=>rw[e]at p;exact p.elim|some o=>cases o with
    |lst xs=>
     rw[e]at p;dsimp only at p;obtain⟨P,v1,rfl,f1,g1,r⟩:=S.lst a e
     by_cases h:(jI j&&decide (xs.length * j.toNat<=qa))=true
     ·rw[ag h]at p
      rw[aw,ak]at h;obtain⟨g,B⟩:=Qh h.1;refine .inr ⟨P,j,v1,rfl,rfl,g1,by omega,by omega,by rw[<- r.length];exact ZI h.2,λl b=>?_⟩
      obtain⟨f,d,C⟩:=Zd S b (r.rep j.toNat);exact p _ _ _ f d C
     ·rw[aj h]at p;exact p.elim
    |_=>rw[e]at p;exact p.elim
  |_=>exact p.elim
 |_=>cases u<;>exact p.elim
def yA:W->W->Hx->R W:=λx y A=>match x with
 |.ref n=>match A[n]? with
  |some (.lst ws)=>if ws.length<qa then .ok .non (A.set n (.lst (ws++[y]))) else .bad|_=>.bad
 |_=>.bad
noncomputable def Ys (x:W)(A:Hx):Bool:=match x with
 |.ref n=>match A[n]? with
  |some (.lst _)=>true|_=>false
 |_=>false
def E1 {A:Hx}{w:W}(S:zI K φ A H)(q:RV K φ H w v)(e:Ys w A=true):Xb K "list" v H:=by
 unfold Ys at e;cases w with
 |ref n=>
  dsimp only at e;cases E:A[n]? with
  |none=>rw[E]at e;cases e|some o=>cases o with
   |lst ws=>obtain⟨p,vs,rfl,_,h,_⟩:=S.lst q E;exact .inl ⟨rfl,_,qW.of h⟩|_=>rw[E]at e;cases e
 |_=>cases e
def j9 (g:W->W->Hx->R W)(a b:Ev):Ev:=λρ A=>(a ρ A).bind λx A1=>if Ys x A1 then(b ρ A1).bind λy A2=>g x y A2 else .bad
def UA {nm:Str}{id:String}{r:V->List V->Hp->VK->Prop}{g:W->W->Hx->R W}{apos:Pos}(slot:Slot "list" nm id)(j:typeOf (.builtin id)=pure (.type "method_descriptor"))(hm:U5 X id r)(hn:∀x y A,qR (g x y A))
  (D:∀φ A H x y u v Q,zI X.K φ A H->RV X.K φ H u x->RV X.K φ H v y->(g u v A).post (PB X.K φ H Q) gT->r x [y] H Q)(C:SE X xr a ma)(he:SE X xr b mb)
  (s:starEach [b] X.env=(false,eval b X.env)::starEach [] X.env)(c:attributeBase a nm X.env (eval a X.env)=eval a X.env)
  (d:((backTo cpos (starEach [b] X.env)).all (λx=>!x.1)&&(backToKw cpos (keywordEach [] X.env)).all (λx=>x.1.isSome)
   && decide ([b].length+([]:cu).length+(if ([]:cu).isEmpty then 0 else 1)<30))=true)(e:(apos.endLine==cpos.line)=true):
  SE X xr (.Call (.Attribute a nm apos) [b] [] cpos) (j9 g ma mb):=
 PE.imp (NK PySem.F.plainAttrs_list slot j hm C (jk he jZ s) c d e s (by rfl)) λσ H Q ⟨φ,A,ρ,S,re,h⟩=>by
  refine tM.go S re (zZ.mp h) λw A1 p H1 v f l o q=>?_
  by_cases n:Ys w A1=true
  ·rw[ag n]at f
   refine⟨E1 o q n,?_⟩;refine tM.go o (re.mono l) (qp (zZ.mp f) (λ_ _ z=>z) λ_ _ z=>z.mono l) λt A2 i J v2 E L I B=>?_;exact D i A2 J v v2 w t Q I (q.mono L) B (qp (JQ (hn _ _ _) E) (λ_ _ z=>z.mono (l.trans L)) λ_ _ z=>z)
  ·rw[aj n]at f;exact f.elim
def FR:∀x y A,qR (yA x y A):=λx y A=>by
 unfold yA
 split
 ·split
  ·exact gF jQ qP
  ·exact qP
 ·exact qP
def Ze:W->W->Hx->R W:=λx y A=>match x,y with
 |.ref n,.int i=>match A[n]? with
  |some (.lst ws)=>match (if jI i then seqIndex? i ws.length else none) with
   |some k=>match ws[k]? with
    |some w=>.ok w (A.set n (.lst (ws.eraseIdx k)))|none=>.bad
   |none=>.bad
  |_=>.bad
 |_,_=>.bad
def D7:∀x y A,qR (Ze x y A):=λx y A=>by
 unfold Ze
 split
 ·split
  ·split
   ·split
    ·exact jQ
    ·exact qP
   ·exact qP
  ·exact qP
 ·exact qP
def yu:W->W->W->Hx->R Unit:=λo i v A=>match o,i with
 |.ref n,.int k=>match A[n]? with
  |some (.lst ws)=>match gw ws.length k with
   |some j=>.ok () (A.set n (.lst (ws.set j v)))|none=>.bad
  |_=>.bad
 |_,_=>.bad
def Ni:∀o i v A,qR (yu o i v A):=λo i v A=>by
 unfold yu
 split
 ·split
  ·split
   ·exact jQ
   ·exact qP
  ·exact qP
 ·exact qP
def OC:Up K NN yu:=λφ A H o i v a w wv Q S f d q p=>by
 unfold yu at p;cases a with
 |ref n=>cases w with
  |int k=>
   obtain rfl:=d;dsimp only at p;cases e:A[n]? with
   |none=>rw[e]at p;exact p.elim|some g=>cases g with
    |lst ws=>
     rw[e]at p;dsimp only at p;cases E:gw ws.length k with
     |none=>rw[E]at p;exact p.elim|some j=>
      rw[E]at p;obtain⟨l,vs,rfl,f1,g1,r⟩:=S.lst f e;have ln:Le K φ H φ (upd H l (.lst (vs.set j v))):=Le.upd f1 (λxs z=>by rw[g1]at z;cases z) (λ_ _ z=>by rw[g1]at z;cases z)
      obtain⟨c,b⟩:=S.write (o:=.lst ws) (o':=.lst (ws.set j wv)) e rfl rfl f1 ⟨_,jD,(r.mono ln).set (q.mono ln) j⟩;exact⟨l,vs,k,j,rfl,rfl,g1,by rw[<- r.length];exact E,p _ _ c b⟩
    |_=>rw[e]at p;exact p.elim
  |_=>exact p.elim
 |_=>cases w<;>exact p.elim
variable {es:cg}{m:Ev}
def NO {id:String}{g:W->Hx->R W}(i:j3 X (.builtin id) r)(hn:∀w A,qR (g w A))(f:KN X.K (λv=>r [v]) g)(hm:X.mg x=none)(d:bootBuiltins x=some (.builtin id))(j:SE X xr e m)(b:Gl X x:=by rfl)
  (a:x ≠ "__name__":=by decide)(c:(x==("__debug__":Str))=false:=by decide)(he:starEach [e] X.env=(false,eval e X.env)::starEach [] X.env:=by rfl)(l:(backTo pos (starEach [] X.env)).any (·.1)=false:=by rfl):
  SE X xr (.Call (.Name x p) [e] [] pos) (jR g m):=PE.imp (ZK i b hm d (jk j jZ he) a c he l) λσ H Q h=>jR.read (r:=λv=>r [v]) hn f σ H Q h
def eI {id:String}{g:W->Hx->R W}(i:j3 X (.type id) r)(hn:∀w A,qR (g w A))(f:KN X.K (λv=>r [v]) g)(hm:X.mg x=none)(d:bootBuiltins x=some (.type id))(j:SE X xr e m)(b:Gl X x:=by rfl)
  (a:x ≠ "__name__":=by decide)(c:(x==("__debug__":Str))=false:=by decide)(he:starEach [e] X.env=(false,eval e X.env)::starEach [] X.env:=by rfl)(l:(backTo pos (starEach [] X.env)).any (·.1)=false:=by rfl):
  SE X xr (.Call (.Name x p) [e] [] pos) (jR g m):=PE.imp (JL i b hm d (jk j jZ he) a c he l) λσ H Q h=>jR.read (r:=λv=>r [v]) hn f σ H Q h
def UC {id:String}{g:W->W->Hx->R W}(q:j3 X (.builtin id) r)(hn:∀w j A,qR (g w j A))(o:yn X.K (λv c=>r [v,c]) g)(hm:X.mg x=none)(n:bootBuiltins x=some (.builtin id))(t:SE X xr a ma)(s:SE X xr b mb)(e:Gl X x)
  (d:x ≠ "__name__")(f:(x==("__debug__":Str))=false)(i:starEach [a,b] X.env=(false,eval a X.env)::starEach [b] X.env)(u:starEach [b] X.env=(false,eval b X.env)::starEach [] X.env)(l:(backTo pos (starEach [b] X.env)).any (·.1)=false):
  SE X xr (.Call (.Name x p) [a,b] [] pos) (zi g ma mb):=PE.imp (ZK q e hm n (jk t (jk s jZ u) i) d f i l) λσ H Q h=>zi.read (r:=λv c=>r [v,c]) hn o σ H Q h
noncomputable def KD:W->Hx->R W
 |.int i,A=>.ok (.int (if i<0 then -i else i)) A|_,_=>.bad
noncomputable def Jv:W->Hx->R W
 |.int i,A=>.ok (.int i) A|.bl k,A=>.ok (.int (if k then 1 else 0)) A|_,_=>.bad
def Uh:=gU λi j=>.int (if j > i then j else i)
def ZQ:=gU λi j=>.int (if j<i then j else i)
noncomputable def gi:W->Bool
 |.tup _=>false|.ref _=>false|.clo _ _ _=>false|.xc _=>false|_=>true
noncomputable def UX:W->W->Bool
 |.non,.non=>true|.bl a,.bl b=>a==b|.bl a,.int b=>(if a then 1 else 0)==b|.int a,.bl b=>a==(if b then 1 else 0)|.int a,.int b=>a==b|.str a,.str b=>a==b|_,_=>false
def Yt (x:W)(xs:List W):Bool:=xs.any λy=>UX y x
def R3 {w:W}(q:RV K φ H w v)(e:gi w=true):Zn v=true:=by
 cases w<;>first
  |(cases e;done)
  |(obtain rfl:=q;rfl)
def EI {w a:W}{b:V}(q:RV K φ H w v)(Q:RV K φ H a b)(e:gi w=true)(E:gi a=true):Z8 v b=UX w a:=by
 cases w<;>cases a<;>first
  |(cases e;done)
  |(cases E;done)
  |(obtain rfl:=q;obtain rfl:=Q;rfl)
theorem PH {x:W}(q:RV K φ H x v)(e:gi x=true):∀{xs:List W}{vs:List V},zy K φ H xs vs->xs.all gi=true->vs.all Zn=true/\G3 v vs=Yt x xs
 |[],_,r,_=>by cases r;exact⟨rfl,rfl⟩|w::ws,_,⟨y,r,E,h,t⟩,a=>by
  subst E;rw[List.all_cons,aw]at a;obtain⟨I,i⟩:=PH q e t a.2;refine⟨by rw[List.all_cons,R3 h a.1,I];rfl,?_⟩
  unfold G3 Yt at i ⊢;rw[bR,bR,i,EI h q a.1 e]
def Jq (neg:Bool):W->W->Hx->R W:=λx y A=>match zP y A with
 |some ws=>if gi x&&ws.all gi then .ok (.bl (if neg then !Yt x ws else Yt x ws)) A else .bad|none=>.bad
abbrev G4:=Jq false
def eJ {n:Bool}:∀x y A,qR (Jq n x y A):=λx y A=>by
 unfold Jq
 split
 ·exact gF jQ qP
 ·exact qP
def eK {n:Bool}:yn K (Mj K n) (Jq n):=λφ A H x y u v Q S q b p=>by
 unfold Jq at p;cases es:zP v A with
 |none=>rw[es]at p;exact p.elim|some ws=>
  rw[es]at p;dsimp only at p
  by_cases hf:(gi u&&ws.all gi)=true
  ·rw[ag hf]at p
   rw[aw]at hf;obtain⟨a,ys,rfl,z,r⟩:=Wu S b es;obtain⟨I,i⟩:=PH q hf.1 r hf.2;exact⟨a,ys,rfl,z,R3 q hf.1,I,by rw[i];exact p φ H _ .refl S rfl⟩
  ·rw[aj hf]at p;exact p.elim
structure GN (X:Cx)(op:CmpOp)(g:W->W->Hx->R W):Prop where
 ex:∃r:R2,qX X (compareOp op) r/\(∀x y A,qR (g x y A))/\yn X.K r g
def N3:GN X .In G4:=⟨_,Ef,eJ,eK⟩
end
noncomputable def yN (f:W->Option PyData):List W->Option (List PyData)
 |[]=>some []|w::ws=>match f w,yN f ws with
  |some d,some ds=>some (d::ds)|_,_=>none
def qm (A:Hx):Nat->W->Option PyData
 |_,.non=>some .none|_,.bl b=>some (.bool b)|_,.int i=>some (.int i)|_,.str x=>if PyData.strOk x then some (.str x) else none|_,.clo _ _ _=>none|_,.xc _=>none|0,.tup _=>none|0,.ref _=>none|n+1,.tup ws=>(yN (qm A n) ws).map .tuple|n+1,.ref k=>match zP (.ref k) A with
  |some ws=>(yN (qm A n) ws).map .list|none=>none
def Dk {K:Frag}{A:Hx}{us:List W}(S:zI K φ A H)(q:RV K φ H (.ref n) v)(e:zP (.ref n) A=some us):∃a ys,v=.ref a/\qW K H a ys/\zy K φ H us ys:=by
 obtain⟨a,rfl,d⟩:=q;unfold zP at e;dsimp only at e;cases E:A[n]? with
 |none=>rw[E]at e;cases e|some o=>
  rw[E]at e;obtain⟨f,c,r⟩:=S.ob n o E;rw[d]at c;cases c;cases o with
  |lst xs=>cases e;obtain⟨ys,b,h⟩:=r;exact⟨a,ys,rfl,qW.of b,h⟩|ro xs=>cases e;obtain⟨ys,b,h⟩:=r;exact⟨a,ys,rfl,b.sq,h⟩|dct xs=>cases e|td _=>cases e|tr _=>cases e|tab _ _=>cases e
section
variable {a:Expr}
theorem X6 {K:Frag}{f:W->Option PyData}(hf:∀w v u d,RV K φ H w v->RelV v u->f w=some d->∃as,Reads h u d as):
  ∀{ws:List W}{vs:List V}{us:bY}{ds:List PyData},zy K φ H ws vs->Vals vs us->yN f ws=some ds->∃as,ReadsAll h us ds as
 |[],_,_,_,r,a,e=>by cases r;cases a;cases e;exact⟨[],.nil⟩|w::ws,_,_,ds,⟨v,r,l,q,t⟩,a,e=>by
  subst l;cases a with
  |cons g c=>
   unfold yN at e;cases E:f w with
   |none=>rw[E]at e;cases e|some d=>
    cases b:yN f ws with
    |none=>rw[E,b]at e;cases e|some D=>
     rw[E,b]at e;cases e;obtain⟨as,j⟩:=hf w v _ d q g E;obtain⟨bs,i⟩:=X6 hf t c b;exact⟨_,.cons j i⟩
def Qi {A:Hx}(I:Inv X pins σ H s)(S:zI X.K φ A H):∀(n:Nat)(w:W)(v:V)(u:Value)(d:PyData),RV X.K φ H w v->RelV v u->qm A n w=some d->∃as,Reads s.heap u d as:=by
 intro n
 induction n with
 |zero=>
  intro w v u d q r e;cases w with
  |non=>obtain rfl:=q;cases r;cases e;exact⟨_,.none⟩|bl k=>obtain rfl:=q;cases r;cases e;exact⟨_,.bool k⟩|int k=>obtain rfl:=q;obtain⟨t,rfl⟩:=r;cases e;exact⟨_,.int k t⟩|str k=>
   obtain rfl:=q;obtain⟨t,rfl⟩:=r;unfold qm at e
   split at e
   ·cases e;exact⟨_,.str k t⟩
   ·cases e
  |tup _=>cases e|ref _=>cases e|clo _ _ _=>unfold qm at e;cases e|xc _=>unfold qm at e;cases e
 |succ n x=>
  intro w v u d q r e;cases w with
  |non=>obtain rfl:=q;cases r;cases e;exact⟨_,.none⟩|bl k=>obtain rfl:=q;cases r;cases e;exact⟨_,.bool k⟩|clo _ _ _=>unfold qm at e;cases e|xc _=>unfold qm at e;cases e|int k=>obtain rfl:=q;obtain⟨t,rfl⟩:=r;cases e;exact⟨_,.int k t⟩|str k=>
   obtain rfl:=q;obtain⟨t,rfl⟩:=r;unfold qm at e
   split at e
   ·cases e;exact⟨_,.str k t⟩
   ·cases e
  |tup ws=>
   obtain⟨a,vs,rfl,h,c⟩:=q;cases r;unfold qm at e;cases E:yN (qm A n) ws with
   |none=>rw[E]at e;cases e|some ds=>
    rw[E]at e;cases e;obtain⟨i,b,⟨o,l,j,k,g⟩,_⟩:=I.tuple h;obtain⟨as,f⟩:=X6 x c b E;exact⟨_,.tuple l j g (by simpa using f)⟩
  |ref k=>
   unfold qm at e;cases E:zP (.ref k) A with
   |none=>rw[E]at e;cases e|some ws=>
    rw[E]at e;dsimp only at e;obtain⟨a,ys,rfl,h,c⟩:=Dk S q E;cases r;cases p:yN (qm A n) ws with
    |none=>rw[p]at e;cases e|some ds=>
     rw[p]at e;cases e;obtain⟨i,b,⟨o,y,l,j,_,g⟩,_⟩:=I.list h;obtain⟨as,f⟩:=X6 x c b p;exact⟨_,.list l j g (by simpa using f)⟩
def WB {A:Hx}:∀(n:Nat)(w:W)(d:PyData),qm A n w=some d->d.canLay0=true/\d.depth<=n:=by
 intro n;have lst:∀{n:Nat},(∀(w:W)(d:PyData),qm A n w=some d->d.canLay0=true/\d.depth<=n)->∀(ws:List W)(ds:List PyData),yN (qm A n) ws=some ds->PyData.canLayAll0 ds=true/\PyData.depthAll ds<=n:=by
  intro n i ws
  induction ws with
  |nil=>intro ds e;cases e;exact⟨by simp[PyData.canLayAll0],by simp[PyData.depthAll]⟩|cons w ws I=>
   intro ds e;unfold yN at e;cases E:qm A n w with
   |none=>rw[E]at e;cases e|some d=>
    cases b:yN (qm A n) ws with
    |none=>rw[E,b]at e;cases e|some D=>
     rw[E,b]at e;cases e;obtain⟨h,c⟩:=i w d E;obtain⟨f,g⟩:=I D b;refine⟨by simp[PyData.canLayAll0,h,f],?_⟩
     simp only[PyData.depthAll];omega
 induction n with
 |zero=>
  intro w d e;cases w with
  |tup _=>cases e|ref _=>cases e|clo _ _ _=>unfold qm at e;cases e|xc _=>unfold qm at e;cases e|str x=>
   unfold qm at e
   split at e
   ·rename_i H;cases e;exact⟨by simp[PyData.canLay0,H],by simp[PyData.depth]⟩
   ·cases e
  |_=>cases e;exact⟨by simp[PyData.canLay0],by simp[PyData.depth]⟩
 |succ n i=>
  intro w d e;cases w with
  |clo _ _ _=>unfold qm at e;cases e|xc _=>unfold qm at e;cases e|tup ws=>
   unfold qm at e;cases a:yN (qm A n) ws with
   |none=>rw[a]at e;cases e|some ds=>
    rw[a]at e;cases e;obtain⟨h,c⟩:=lst i ws ds a;refine⟨by simp[PyData.canLay0,h],?_⟩
    simp only[PyData.depth];omega
  |ref k=>
   unfold qm at e;cases a:zP (.ref k) A with
   |none=>rw[a]at e;cases e|some ws=>
    rw[a]at e;dsimp only at e;cases E:yN (qm A n) ws with
    |none=>rw[E]at e;cases e|some ds=>
     rw[E]at e;cases e;obtain⟨h,c⟩:=lst i ws ds E;refine⟨by simp[PyData.canLay0,h],?_⟩
     simp only[PyData.depth];omega
  |str x=>
   unfold qm at e
   split at e
   ·rename_i H;cases e;exact⟨by simp[PyData.canLay0,H],by simp[PyData.depth]⟩
   ·cases e
  |_=>cases e;exact⟨by simp[PyData.canLay0],by simp[PyData.depth]⟩
def Zu (neg:Bool):W->W->Hx->R W:=λx y A=>match qm A 8 x,qm A 8 y with
 |some d,some d'=>.ok (.bl (if neg then !PyData.eqv d d' else PyData.eqv d d')) A|_,_=>.bad
abbrev jA:=Zu false
abbrev jz:=Zu true
def OZ {n:Bool}:∀x y A,qR (Zu n x y A):=λx y A=>by
 unfold Zu
 split
 ·exact jQ
 ·exact qP
def UJ (K:Frag)(neg:Bool):R2:=λx y H Q=>∃φ A u v d d',zI K φ A H/\RV K φ H u x/\RV K φ H v y/\qm A 8 u=some d/\qm A 8 v=some d'/\Q (.bl (if neg then !PyData.eqv d d' else PyData.eqv d d')) H
def WY {A:Hx}{w:W}{d:PyData}(h:qm A 8 w=some d):SeqAt.shaped d=true:=by
 obtain⟨H,a⟩:=WB 8 w d h;unfold SeqAt.shaped;rw[H,Bool.true_and,ak];omega
def eL (g:X.A.units+64<cLine):qX X (compareOp .Eq) (UJ X.K false):=by
 intro pins s σ H x y v u Q I b r h;obtain⟨φ,A,a,w,d,d',S,f,c,E,e,q⟩:=h;obtain⟨as,j⟩:=Qi I S 8 a x v d f b E;obtain⟨bs,i⟩:=Qi I S 8 w y u d' c r e;exact eq_dataH j i (WY E) (WY e) g ⟨.bl _,H,I,rfl,q⟩
def eM (g:X.A.units+64<cLine):qX X (compareOp .NotEq) (UJ X.K true):=by
 intro pins s σ H x y v u Q I b r h;obtain⟨φ,A,a,w,d,d',S,f,c,E,e,q⟩:=h;obtain⟨as,j⟩:=Qi I S 8 a x v d f b E;obtain⟨bs,i⟩:=Qi I S 8 w y u d' c r e;exact ne_dataH j i (WY E) (WY e) g ⟨.bl _,H,I,rfl,q⟩
def Oh {K:Frag}{n:Bool}:yn K (UJ K n) (Zu n):=λφ A H x y u v Q S a q p=>by
 unfold Zu at p;cases e:qm A 8 u with
 |none=>rw[e]at p;exact p.elim|some d=>
  cases E:qm A 8 v with
  |none=>rw[e,E]at p;exact p.elim|some d'=>
   rw[e,E]at p;exact⟨φ,A,u,v,d,d',S,a,q,e,E,p φ H _ .refl S rfl⟩
def ka {k:Nat}(h:jq k X.A):wC X .Eq jA:=Ja (eL h.units) OZ Oh
def wU {k:Nat}(h:jq k X.A):wC X .NotEq jz:=Ja (eM h.units) OZ Oh
end
mutual
noncomputable def W.nr:W->Bool
 |.tup ws=>qS ws|.ref _=>false|.clo _ ws _=>qS ws|_=>true
noncomputable def qS:List W->Bool
 |[]=>true|w::ws=>w.nr&&qS ws
end
def iso (f:Fn):Fn:=λus A=>if qS us then(match f us [] with
 |.ok w A1=>(match w with
  |.ref n=>(match A1[n]? with
   |some (.lst ws)=>if qS ws then .ok (.ref A.length) (A++[.lst ws]) else .bad|some (.dct kvs)=>if qS (kvs.map (·.2)) then .ok (.ref A.length) (A++[.dct kvs]) else .bad|_=>.bad)
  |w=>if w.nr then .ok w A else .bad)
 |_=>.bad) else .bad
def wH (f:Fn):Fn:=λus A=>match us with
 |.ref n::us=>(match A[n]? with
  |some (.lst ws)=>if qS ws&&qS us then(match f (.ref 0::us) [.lst ws] with
   |.ok w A1=>(match (List.head? A1:Option O) with
    |some (.lst a)=>if qS a&&w.nr then .ok w (A.set n (.lst a)) else .bad|_=>.bad)
   |_=>.bad) else .bad
  |_=>.bad)
 |_=>.bad
section
variable {K:Frag}{φ' φ1:bZ}{H' H1:Hp}{A A1:Hx}
mutual
theorem RV.nrm (tp:∀a vs,qM K H a vs->qM K H' a vs)(fz:∀a o u,H a=some (.frz o u)->H' a=some (.frz o u)):∀{w:W}{v:V},w.nr=true->RV K φ H w v->RV K φ' H' w v
 |.non,_,_,h=>h|.bl _,_,_,h=>h|.int _,_,_,h=>h|.str _,_,_,h=>h|.tup ws,_,n,⟨a,vs,e,t,r⟩=>⟨a,vs,e,tp _ _ t,zy.nrm tp fz n r⟩|.ref _,_,n,_=>nomatch n
 |.clo _ ws P,_,n,⟨a,ob,u,c,g,uc,vs,e,d,b,i,r⟩=>⟨a,ob,u,c,g,uc,vs,e,fz _ _ _ d,fz _ _ _ b,i,zy.nrm tp fz n r⟩|.xc _,_,_,⟨a,f,u,C,e,d,b⟩=>⟨a,f,u,C,e,fz _ _ _ d,b⟩
theorem zy.nrm (tp:∀a vs,qM K H a vs->qM K H' a vs)(fz:∀a o u,H a=some (.frz o u)->H' a=some (.frz o u)):∀{ws:List W}{vs:List V},qS ws=true->zy K φ H ws vs->zy K φ' H' ws vs
 |[],_,_,h=>h|w::ws,_,n,⟨v,r,e,h,t⟩=>by
  have N:(w.nr&&qS ws)=true:=n;rw[aw]at N;exact⟨v,r,e,RV.nrm tp fz N.1 h,zy.nrm tp fz N.2 t⟩
end
def zI.none:zI K [] [] H:=⟨rfl,λi j a o o' _ _ h=>by simp at h,λn o h=>by simp at h⟩
def zI.frame (S:zI K φ A H)(k:∀a o,H a=some o->H1 a=some o)(l:Le K φ H φ H1):zI K φ A H1:=
 ⟨S.len,S.inj,λn o e=>let ⟨a,h1,q⟩:=S.ob n o e;⟨a,h1,q.keep l λu h=>k a u h⟩⟩
def Le.apart (l:Le K [] H φ1 H1):Le K φ H φ H1/\∀a o,H a=some o->H1 a=some o:=
 have k:∀a o,H a=some o->H1 a=some o:=λa o h=>l.fr a o h λn e=>by simp at e
 ⟨⟨λ_ _ h=>h,l.tp,λa o h _=>k a o h,λ_ _ h=>.inl h,l.st,l.fz⟩,k⟩
def zI.trackN {u:HO}{o:O}(S:zI K φ A H)(J:H D=some u)(n:∀(k:Nat)(q:O),φ[k]? =some D->A[k]? =some q->q.mut=false)(new:OR K (φ++[D]) H D o):zI K (φ++[D]) (A++[o]) H:=by
 have l:Z5 K φ H (φ++[D]) H:=⟨λn a h=>by
  have:=(cB.mp h).1
  rw[ah this];exact h,λ_ _ h=>h,λ_ _ _ h=>h⟩
 have old:∀(i:Nat) a,(φ++[D])[i]? =some a->i<A.length->φ[i]? =some a:=λi a e f=>by
  rw[ah (by rw[S.len];exact f)]at e;exact e
 have last:∀a,(φ++[D])[A.length]? =some a->a=D:=λa e=>by
  rw[aq (by rw[S.len];exact ar _),S.len]at e
  simpa using e.symm
 refine⟨by simp[S.len],λi j a E C B y g b m1 m2=>?_,λk o' e=>?_⟩
 ·by_cases f:i<A.length
  ·rw[ah f]at g
   by_cases c:j<A.length
   ·rw[ah c]at b
    exact S.inj i j a E C (old i a B f) (old j a y c) g b m1 m2
   ·exfalso
    have v:j=A.length:=by have:=(cB.mp b).1;simp at this;omega
    subst v;have z:=n i E (by rw[<- last a y];exact old i a B f) g
    rw[m1]at z;cases z
  ·have w:i=A.length:=by have:=(cB.mp g).1;simp at this;omega
   by_cases c:j<A.length
   ·exfalso
    rw[ah c]at b;subst w;have z:=n j C (by rw[<- last a B];exact old j a y c) b
    rw[m2]at z;cases z
   ·have:=(cB.mp b).1;simp at this;omega
 ·by_cases hn:k<A.length
  ·rw[ah hn]at e
   obtain⟨a,I,q⟩:=S.ob k o' e;refine⟨a,l.ex _ _ I,?_⟩;cases o' with
   |lst ws=>obtain⟨vs,z,r⟩:=q;exact⟨vs,z,r.monoW l⟩|dct ws=>obtain⟨vs,z,Z,r⟩:=q;exact⟨vs,z,Z,r.monoW l⟩|td _=>obtain⟨vs,z,Z,t,r⟩:=q;exact⟨vs,z,Z,λx p=>l.tp _ _ (t x p),r.monoW l⟩|tr _=>obtain⟨ob,u,vs,z,d,Z,t,r⟩:=q;exact⟨ob,u,vs,z,d,Z,λx p=>l.tp _ _ (t x p),r.monoW l⟩|tab _ _=>exact q|ro ws=>obtain⟨vs,z,r⟩:=q;exact⟨vs,z,r.monoW l⟩
  ·have s:k=A.length:=by have:=(cB.mp e).1;simp at this;omega
   subst s;rw[aq (ar _)]at e;simp at e;subst e;exact⟨D,by rw[aq (by rw[S.len];exact ar _),S.len];simp,new⟩
def zI.adopt {o:O}(S:zI K φ A H)(l:Le K [] H φ1 H1)(d:φ1[n]? =some a)(m:∃u,H1 a=some u)(new:OR K (φ++[a]) H1 a o):
  Le K φ H (φ++[a]) H1/\zI K (φ++[a]) (A++[o]) H1/\RV K (φ++[a]) H1 (.ref A.length) (.ref a):=by
 obtain⟨L,k⟩:=l.apart (φ:=φ);have h0:H a=Option.none:=by
  rcases l.nw n a d with e|e
  ·simp at e
  ·exact e
 obtain⟨u,b⟩:=m;have s:=S.frame k L;refine⟨L.Yc h0,s.trackN b (λk q g f=>?_) new,a,rfl,by rw[<- S.len];simp⟩
 cases c:q.mut with
 |false=>rfl|true=>
  obtain⟨i,E,r⟩:=S.ob k q f;rw[g]at E;cases E;obtain⟨z,h,_⟩:=r.there c;rw[h0]at h;cases h
def OR.nrL {ws:List W}(h:OR K φ H a (.lst ws))(n:qS ws=true):OR K φ' H a (.lst ws):=let ⟨vs,e,r⟩:=h;⟨vs,e,r.nrm (λ_ _ t=>t) (λ_ _ _ t=>t) n⟩
def OR.nrD {kvs:List (Key×W)}(h:OR K φ H a (.dct kvs))(n:qS (kvs.map (·.2))=true):OR K φ' H a (.dct kvs):=let ⟨vs,e,E,r⟩:=h;⟨vs,e,E,r.nrm (λ_ _ t=>t) (λ_ _ _ t=>t) n⟩
theorem zN.iso {k:Nat}{f:Fn}(F:zN P w K mg base k x n f):zN P w K mg base k x n (iso f):=by
 obtain⟨C,fd,ps,F,a,b,c⟩:=F;refine⟨C,fd,ps,F.imp λvs H Q E ⟨z,φ,A,ws,S,r,q⟩=>?_,a,b,c⟩;unfold Mi.iso at q
 by_cases hn:qS ws=true
 ·rw[ag hn]at q
  refine⟨z,[],[],ws,zI.none,r.nrm (λ_ _ t=>t) (λ_ _ _ t=>t) hn,?_⟩;cases hf:f ws [] with
  |ok w A1=>
   rw[hf]at q;dsimp only at q;intro u H1 v L D g;cases w with
   |ref m=>
    dsimp only at q;cases hm:A1[m]? with
    |none=>rw[hm]at q;exact q.elim|some o=>
     rw[hm]at q;obtain⟨I,j,d⟩:=D.ob m o hm;obtain⟨a2,rfl,e⟩:=g;rw[j]at e;cases e;cases o with
     |lst us=>
      dsimp only at q
      by_cases h:qS us=true
      ·rw[ag h]at q
       obtain⟨t,i,_⟩:=d.there rfl;obtain⟨s,p,B⟩:=S.adopt L j ⟨t,i⟩ (o:=.lst us) (d.nrL h);exact q _ _ _ s p B
      ·rw[aj h]at q;exact q.elim
     |dct us=>
      dsimp only at q
      by_cases h:qS (us.map (·.2))=true
      ·rw[ag h]at q
       obtain⟨t,i,_⟩:=d.there rfl;obtain⟨s,p,B⟩:=S.adopt L j ⟨t,i⟩ (o:=.dct us) (d.nrD h);exact q _ _ _ s p B
      ·rw[aj h]at q;exact q.elim
     |ro us=>exact q.elim|td _=>exact q.elim|tr _=>exact q.elim|tab _ _=>exact q.elim
   |_=>
    all_goals
     dsimp only at q;obtain⟨l,kk⟩:=L.apart (φ:=φ)
     first
      |exact q φ H1 v l (S.frame kk l) g
      |(
        split at q
        ·rename_i hw
         exact q φ H1 v l (S.frame kk l) (RV.nrm (λ_ _ t=>t) (λ_ _ _ t=>t) hw g)
        ·exact q.elim)
  |exc y A1=>rw[hf]at q;exact q.elim|bad=>rw[hf]at q;exact q.elim
 ·rw[aj hn]at q;exact q.elim
theorem zN.wH {k:Nat}{f:Fn}(F:zN P w K mg base k x n f):zN P w K mg base k x n (wH f):=by
 obtain⟨fa,fd,ps,F,a,b,c⟩:=F;refine⟨fa,fd,ps,F.imp λvs H Q E ⟨hl,φ,A,ws,S,r,q⟩=>?_,a,b,c⟩;unfold Mi.wH at q;cases ws with
 |nil=>exact q.elim|cons w0 us=>cases w0 with
  |ref n=>
   dsimp only at q;cases l:A[n]? with
   |none=>rw[l]at q;exact q.elim|some o=>cases o with
    |lst xs=>
     rw[l]at q;dsimp only at q
     by_cases hn:(qS xs&&qS us)=true
     ·rw[ag hn]at q
      rw[aw]at hn;obtain⟨v0,vr,rfl,q0,qr⟩:=r;obtain⟨p,ys,rfl,f1,g1,g⟩:=S.lst q0 l;have S0:zI K [p] [.lst xs] H:=by
       refine⟨rfl,λi j a o o' J I X T _ _=>?_,λm o e=>?_⟩
       ·have:=(cB.mp J).1
        have:=(cB.mp I).1
        simp at*;omega
       ·have:m=0:=by have:=(cB.mp e).1;simp at this;omega
        subst this;simp at e;subst e;exact⟨p,rfl,ys,g1,g.nrm (λ_ _ t=>t) (λ_ _ _ t=>t) hn.1⟩
      refine⟨hl,[p],[.lst xs],.ref 0::us,S0,.cons ⟨p,rfl,rfl⟩ (qr.nrm (λ_ _ t=>t) (λ_ _ _ t=>t) hn.2),?_⟩;cases hf:f (.ref 0::us) [.lst xs] with
      |ok w A1=>
       rw[hf]at q;dsimp only at q;intro B H1 v L S1 q1;cases h0:List.head? A1 with
       |none=>rw[h0]at q;exact q.elim|some o=>cases o with
        |lst zs=>
         rw[h0]at q;dsimp only at q
         by_cases hw:(qS zs&&w.nr)=true
         ·rw[ag hw]at q
          rw[aw]at hw;have apart:∀a o,a≠p->H a=some o->H1 a=some o:=λa o ne h=>L.fr a o h λm e=>by
           have:m=0:=by have:=(cB.mp e).1;simp at this;omega
           subst this;simp at e;exact ne e.symm
          have lf:Le K φ H φ H1:=⟨λ_ _ h=>h,L.tp,λa o h nn=>apart a o (λe=>nn n (by rw[e];exact f1)) h,λ_ _ h=>.inl h,L.st,L.fz⟩
          have hp:B[0]? =some p:=L.ex 0 p rfl;obtain⟨p',s,U,M,D⟩:=S1.ob 0 _ (by rw[<- List.head?_eq_getElem?];exact h0)
          rw[hp]at s;cases s;refine q φ H1 v lf ?_ (RV.nrm (λ_ _ t=>t) (λ_ _ _ t=>t) hw.2 q1);have mt:∀(i:Nat)(w:O),(A.set n (.lst zs))[i]? =some w->w.mut=true->∃N,A[i]? =some N/\N.mut=true:=λi w e mw=>by
           by_cases hi:i=n
           ·subst hi;exact⟨_,l,rfl⟩
           ·rw[aH (Ne.symm hi)]at e;exact⟨w,e,mw⟩
          refine⟨by simp[S.len],λi j a o1 o2 J I X T m1 m2=>?_,λi w e=>?_⟩
          ·obtain⟨Z,s,k1⟩:=mt i o1 X m1
           obtain⟨Y,M,k2⟩:=mt j o2 T m2;exact S.inj i j a Z Y J I s M k1 k2
          ·by_cases hi:i=n
           ·subst hi
            have:i<A.length:=(cB.mp l).1
            rw[aJ this]at e;cases e;exact⟨p,f1,U,M,D.nrm (λ_ _ t=>t) (λ_ _ _ t=>t) hw.1⟩
           ·rw[aH (Ne.symm hi)]at e
            obtain⟨a,s,C⟩:=S.ob i w e;refine⟨a,s,?_⟩
            by_cases hm:w.mut=true
            ·have ne:a≠p:=λz=>hi (S.inj i n a w _ s (by rw[z];exact f1) e l hm rfl)
             exact C.keep lf λz hz=>apart a z ne hz
            ·cases w with
             |lst _=>exact absurd rfl hm|dct _=>exact absurd rfl hm|td _=>exact absurd rfl hm|tr _=>obtain⟨ob,u,vs,q,d,k,t,r⟩:=C;exact⟨ob,u,vs,lf.fz _ _ _ q,d,k,λx hx=>lf.tp _ _ (t x hx),r.mono lf⟩|tab _ _=>exact absurd rfl hm|ro ws=>
              obtain⟨vs,g,D⟩:=C;refine⟨vs,?_,D.mono lf⟩;rcases g with ⟨ob,g⟩|g
              ·refine .inl ⟨ob,apart a _ ?_ g⟩
               intro z;subst z;rw[g1]at g;cases g
              ·exact .inr g
         ·rw[aj hw]at q;exact q.elim
        |_=>rw[h0]at q;exact q.elim
      |exc y A1=>rw[hf]at q;exact q.elim|bad=>rw[hf]at q;exact q.elim
     ·rw[aj hn]at q;exact q.elim
    |_=>rw[l]at q;exact q.elim
  |_=>exact q.elim
end
section
variable {K:Frag}{a b:Expr}{m:Ev}{st:Stmt}
noncomputable def intsOf:List W->Option (bX)
 |[]=>some []|w::ws=>match w with
  |.int i=>match intsOf ws with
   |some is=>some (i::is)|none=>none
  |_=>none
theorem YL:∀{ws:List W}{ns:bX},intsOf ws=some ns->ws=ns.map W.int
 |[],_,e=>by cases e;rfl|w::ws,ns,e=>by
  unfold intsOf at e;cases w with
  |int i=>
   dsimp only at e;cases E:intsOf ws with
   |none=>rw[E]at e;cases e|some is=>rw[E]at e;cases e;rw[YL E];rfl
  |_=>cases e
noncomputable def yi:List Int->Int->Int
 |[],m=>m|i::is,m=>yi is (if i > m then i else m)
def FW (ns:bX):∀(k:Nat)(a:k<ns.length),yi (ns.drop (k+1)) (ns.getD (argBest (λi j=>decide (ns.getD i 0 > ns.getD j 0)) k) 0)=yi ns.tail (ns.getD 0 0):=by
 intro k
 induction k with
 |zero=>intro _;rw[show argBest _ 0=0 from rfl,List.drop_one]|succ k I=>
  intro a;have H:k<ns.length:=by omega
  rw[<- I H];have e:ns.drop (k+1)=ns[k+1]::ns.drop (k+1+1):=bg a;rw[e];have E:ns.getD (k+1) 0=ns[k+1]:=by rw[ae,aa a];rfl
  show yi _ (ns.getD (if decide (ns.getD (k+1) 0 > ns.getD (argBest _ k) 0)=true then k+1 else argBest _ k) 0)=yi _ (if ns[k+1] > ns.getD (argBest _ k) 0 then ns[k+1] else ns.getD (argBest _ k) 0);rw[E]
  by_cases h:ns[k+1] > ns.getD (argBest (λi j=>decide (ns.getD i 0 > ns.getD j 0)) k) 0
  ·rw[ag (by rw[ak];exact h),ag h,E]
  ·rw[aj (by rw[ak];exact h),aj h]
noncomputable def NI (K:Frag)(C:List Int->Prop)(f:List Int->Int):List V->Hp->VK->Prop:=λxs H Q=>∃a ns,xs=[.ref a]/\(qW K H a (ns.map V.int)∨qM K H a (ns.map V.int))/\C ns/\Q (.int (f ns)) H
def VD (r:Vals (ns.map V.int) its){v:Value}(h:its[i]? =some v):∃t,v=.int (ns.getD i 0) t:=by
 have c:i<its.length:=(cB.mp h).1;have H:i<ns.length:=by have:=r.length;rw[ai]at this;omega
 obtain⟨u,a,b⟩:=r.get (i:=i) (x:=V.int ns[i]) (by simp[H])
 rw[h]at a;cases a;obtain⟨t,rfl⟩:=b;exact⟨t,by rw[ae,aa H];rfl⟩
def Es (n:X.calm=true):j3 X (.builtin "max") (NI X.K (λns=>ns≠[]) λns=>yi ns.tail (ns.getD 0 0)):=by
 intro pins s σ H xs us Q I r h;obtain⟨a,ns,rfl,z,f,q⟩:=h;obtain⟨u,rfl,g⟩:=vals1 r;cases g;have M:0<ns.length:=List.length_pos_iff.mpr f;refine call_max_walk (P7 I n z λd C fp wr S s2 c L W st p back=>?_);have e:d.length=ns.length:=by have:=c.length;rw[ai]at this;omega
 refine⟨C,fp,wr,_,_,S,λi j=>decide (ns.getD i 0 > ns.getD j 0),rfl,W,st,p,by omega,?_,λv h' tk l k=>?_⟩
 ·intro i j J D s' Q' E y x o
  obtain⟨t1,rfl⟩:=VD c y;obtain⟨T,rfl⟩:=VD c x;exact(PyProof.Rows.gt_int o:wpAny (model X.prog X.w) X.A.in1 (compareOp .Gt (.int (ns.getD i 0) t1) (.int (ns.getD j 0) T)) Q' E s')
 ·obtain⟨t,rfl⟩:=VD c l
  rw[e];have b:=FW ns (ns.length-1) (by omega)
  rw[show ns.length-1+1=ns.length by omega,drop_length]at b
  have B:ns.getD (argBest (λi j=>decide (ns.getD i 0 > ns.getD j 0)) (ns.length-1)) 0=yi ns.tail (ns.getD 0 0):=b;rw[B];exact⟨.int _,H,back h' tk k,⟨_,rfl⟩,q⟩
def yh:List W->Hx->R W:=λws A=>match intsOf ws with
 |some (i::is)=>.ok (.int (yi is i)) A|_=>.bad
def AK:∀ws A,qR (yh ws A):=λws A=>by
 unfold yh;split
 ·exact jQ
 ·exact qP
def FL {ws:List W}{a:Addr}(z:qW K H a ys∨qM K H a ys)(r:zy K φ H ws ys)(e:intsOf ws=some ns):qW K H a (ns.map V.int)∨qM K H a (ns.map V.int):=by
 rw[YL e]at r;rw[<- zy.ints.mp r];exact z
def Bk:JB K (NI K (λns=>ns≠[]) λns=>yi ns.tail (ns.getD 0 0)) yh:=λφ A H a ys ws Q S z r p=>by
 unfold yh at p;cases e:intsOf ws with
 |none=>rw[e]at p;exact p.elim|some ns=>cases ns with
  |nil=>rw[e]at p;exact p.elim|cons i is=>rw[e]at p;exact⟨a,i::is,rfl,FL z r e,(by intro z;cases z),p φ H _ .refl S rfl⟩
def eN (y:W):List W->Nat->Nat
 |[],n=>n|w::ws,n=>eN y ws (if UX w y then n+1 else n)
noncomputable def eO (lo d:Int)(n:Nat):It:=⟨λi _=>i<n,λi H x h=>h=H/\x=.int (lo+i * d),λi _=>n<=i⟩
def zdq (t:TA):TI:=λσ H R=>t σ H λvs H1=>∃i j:Int,vs=[.int i,.int j,.int (-1)]/\(-(2 ^ 62)<=i/\i<2 ^ 62/\-(2 ^ 62)<=j/\j<2 ^ 62)/\R (eO i (-1) (i-j).toNat) H1
noncomputable def eQ (h:Int)(n:Nat):jH:=⟨λ_ i=>if i<n then some (some (.int (h-i))) else some none,n⟩
def zdp (m M:Ev):Ei:=λρ A=>(m ρ A).bind λw A1=>(M ρ A1).bind λa A2=>match w,a with
 |.int i,.int j=>if jI i&&jI j then .ok (eQ i (i-j).toNat) A2 else .bad|_,_=>.bad
def eR (t:TA):TE:=λσ H Q=>t σ H λvs H1=>∃j:Int,vs=[.int j]/\∀p,H1 p=none->Q (.ref p) (upd H1 p (.rng 0 j))
def Ae {T:TA}(g:Gl X "range")(hm:X.mg "range"=none)(e:PA X [a] T)(d:starEach [a] X.env=[(false,eval a X.env)]):PE X (.Call (.Name "range" p) [a] [] pos) (eR T):=by
 intro pins s σ H Q I h;refine Call_ (Zg I g hm boot_range (PyProof.Rows.callWith_type1 (zU (e pos pins s σ H _ I h) λus s1 ⟨vs,H1,i,r,c⟩=>?_) d rfl));obtain⟨j,rfl,q⟩:=c;obtain⟨u,rfl,⟨t,rfl⟩⟩:=r.one;refine call_range_1 ⟨.ref _,_,i.laid (o:=.rng 0 j) (λb o E=>af _ E) (ar _) ?_,rfl,q _ (i.hok.fresh (ar _))⟩;exact⟨_,_,_,av _ rfl⟩
noncomputable def Jt (n:Nat):List V:=(List.range n).map λ(i:Nat)=>V.int i
def Fs (A:X.calm=true):j3 X (.type "list") (λxs H Q=>∃(r:Addr) (j:Int),xs=[.ref r]/\H r=some (.rng 0 j)/\(-(2 ^ 62)<=j/\j<2 ^ 62)/\j.toNat<=sizeLine/\∀l,H l=none->Q (.ref l) (upd H l (.lst (Jt j.toNat)))):=by
 intro pins s σ H xs us Q I r h;obtain⟨p,j,rfl,x,⟨D,B⟩,z,q⟩:=h;obtain⟨u,rfl,g⟩:=vals1 r;cases g;obtain⟨t1,T,t3,y⟩:=I.hok p _ x;have E:sizeLine=16777216:=sizeLine_eq;refine PySem.call_list_range (n:=j.toNat) (I.ok.hd A) (show IsRange s.heap p 0 j 1 t1 T t3 from y) (small_one (by omega) (by omega) D B) (by rw[rangeSize_one];split<;>omega) (by omega) λh' tk acc C kk S ⟨hn,d⟩=>?_
 refine⟨.ref s.heap.objs.size,_,I.laid (t':=tk) (o:=.lst (Jt j.toNat)) kk (ar _) ?_,rfl,q _ (I.hok.fresh (ar _))⟩;refine⟨by unfold Jt;simpa using z,acc.toList,C,?_,by simpa using S⟩
 have a:∀(l:bY)(k:Nat),(∀(i:Nat) v,l[i]? =some v->∃t,v=.int ((k+i:Nat):Int) t)->Vals ((List.range' k l.length).map λ(i:Nat)=>V.int i) l:=by
  intro l
  induction l with
  |nil=>intro k _;exact .nil|cons v l w=>
   intro k e;rw[aV,bT,aL];refine .cons ?_ (w (k+1) λi f a=>?_)
   ·obtain⟨t,rfl⟩:=e 0 v rfl
    exact⟨t,rfl⟩
   ·obtain⟨t,rfl⟩:=e (i+1) f (by simpa using a)
    exact⟨t,by congr 1;omega⟩
 have b:acc.toList.length=j.toNat:=by simpa using hn
 have:=a acc.toList 0 λi v c=>by
  obtain⟨t,rfl⟩:=d i v (by simpa using c)
  exact⟨t,by congr 1;omega⟩
 rw[b]at this;unfold Jt;rw[bJ];exact this
def Y9 (m:Ev):Ev:=λρ A=>(m ρ A).bind λw A1=>match w with
 |.int j=>if jI j&&decide (j.toNat<=qa) then .ok (.ref A1.length) (A1++[.lst ((List.range j.toNat).map λ(i:Nat)=>W.int i)]) else .bad|_=>.bad
noncomputable def zds (i:Nat)(m:Ev):Ex:=λρ A=>match ρ[i]? with
 |some (some (.int x))=>(m ρ A).bind λw A1=>match w with
  |.int y=>.ok (.nx (ρ.set i (some (.int (x+y))))) A1|_=>.bad
 |_=>.bad
noncomputable def eS:V->V->Hp->VK->Prop:=λo i H Q=>∃p xs k v,o=.ref p/\i=.int k/\0<=k/\H p=some (.lst xs)/\xs[k.toNat]? =some v/\Q v H
def Dt:Mb X eS:=by
 intro pins s σ H o i g j Q I ro d h;obtain⟨p,xs,k,v,rfl,rfl,h0,f,e,q⟩:=h;cases ro;obtain⟨t,rfl⟩:=d;obtain⟨a,r,P,z⟩:=I.list (qW.of f);obtain⟨u,b,c⟩:=r.get e;have hn:=J3;have l:=r.length;have n:k.toNat<a.length:=(cB.mp b).1;exact wpAny_getItem_list P.isList h0 (by omega) (by simpa using b) ⟨v,H,I,c,q⟩
def Jb (mo mi me:Ev):Ex:=λρ A=>(mo ρ A).bind λo A1=>(mi ρ A1).bind λi A2=>match o,i with
 |.ref n,.int k=>if 0<=k then(match (A2[n]?:Option O) with
  |some (.lst ws)=>match ws[k.toNat]? with
   |some (.int x)=>(me ρ A2).bind λy b=>match y with
    |.int y=>(yu (.ref n) (.int k) (.int (x+y)) b).bind λ_ a=>.ok (.nx ρ) a|_=>.bad
   |_=>.bad
  |_=>.bad) else .bad
 |_,_=>.bad
noncomputable def J6 (i j k:Nat):Tg:=λw ρ=>match w with
 |.tup [x,.tup [y,z]]=>some (((ρ.set i (some x)).set j (some y)).set k (some z))|_=>none
end
def jE (k:Bool)(h:Heap)(it a:Addr)(i:Nat):Prop:=if k=true then h.IsListIter it a i else h.IsTupleIter it a i
def yc (k:Bool)(h:Heap)(a:Addr)(items:Array Value):Prop:=if k=true then h.IsList a items else h.IsTuple a items
def yP (k:Bool)(K:Frag)(H:Hp)(a:Addr)(xs:List V):Prop:=if k=true then qW K H a xs else qM K H a xs
noncomputable def Jf (k:Bool):String:=if k then "list_iterator" else "tuple_iterator"
def jE.ob {k:Bool}(x:jE k h it a i):∃o,h.get? it=some o/\o.cls=.type (Jf k)/\o.data=.fields #[.ref a,.int i 0]:=by
 cases k<;>exact x
def jE.mk {k:Bool}(x:∃o,h.get? it=some o/\o.cls=.type (Jf k)/\o.data=.fields #[.ref a,.int i 0]):jE k h it a i:=by
 cases k<;>exact x
def jE.to {k:Bool}(x:jE k h it a i)(e:∀o,h.get? it=some o->h'.get? it=some o):jE k h' it a i:=let ⟨o,h1,r⟩:=x.ob;.mk ⟨o,e o h1,r⟩
def yc.ob {k:Bool}(x:yc k h a items):∃o,h.get? a=some o/\o.cls=.type (if k then "list" else "tuple")/\∃n,o.data=.seq items n:=by
 cases k<;>exact x
def yc.to {k:Bool}(x:yc k h a items)(e:∀o,h.get? a=some o->h'.get? a=some o):yc k h' a items:=by
 cases k with
 |false=>exact let ⟨o,h1,r⟩:=x.ob;⟨o,e o h1,r⟩|true=>exact let ⟨o,h1,r⟩:=x.ob;⟨o,e o h1,r⟩
section
variable {prog:Program}{A:Around}{k:Bool}
def OP (h:yc k s.heap a items)(H:Q (.ref s.heap.objs.size) { s with heap:=s.heap.push { cls:=.type (Jf k),data:=.fields #[.ref a,.int 0 0] } }):wpAny (model prog w) A (pyIter (.ref a)) Q E s:=by
 cases k with
 |true=>exact wpAny_pyIter_list h H|false=>exact wpAny_pyIter_tuple h H
def WW {x:Value}(hit:jE k s.heap it a i)(l:yc k s.heap a items)(f:items[i]? =some x)
  (g:∀h',jE k h' it a (i+1)->Heap.SameBut it s.heap h'->Q x { s with heap:=h' }):wpAny (model prog w) A (Builtin.SmallTypes.nextOf (.ref it)) Q E s:=by
 cases k with
 |true=>exact wpAny_nextOf_list_item hit l f g|false=>
  have h:s.heap.IsTupleIter it a i:=hit;obtain⟨o,b,e,H⟩:=id h;obtain⟨j,c,_,na,d⟩:s.heap.IsTuple a items:=l;unfold Builtin.SmallTypes.nextOf;refine cy (wpAny_callSpecial?_slot (name:=Str.ofString "__next__") h.typeIs F.slot_tuple_iterator_next (wpAny_call_entry F.slot_tuple_iterator_next h.typeIs F.entry_tuple_iterator_next ?_ (F.args_tuple_iterator_next_1 _)));show wpAny _ _ (field (.ref it) 0 >>= _) _ _ s;refine cy (wpAny_field b H (x:=.ref a) rfl ?_);show wpAny _ _ (if (Value.ref a==Value.none)=true then _ else _) _ _ s;rw[aj (show ¬((Value.ref a==Value.none)=true) from az)]
  show wpAny _ _ (field (.ref it) 1 >>= _) _ _ s;refine cy (wpAny_field b H (x:=.int i 0) rfl ?_);show wpAny _ _ (seqItems? (.ref a) >>= _) _ _ s;refine cy (wpAny_seqItems c d ?_);simp only[aI,f];refine cy (wpAny_setField b H (by simp) (cz ⟨x,rfl,cz (g _ (.mk ?_) (Heap.SameBut.update ..))⟩))
  exact⟨_,bb _ b (Obj.isFreed_of_fields (Obj.data_mapFields H _)),(Obj.cls_mapFields ..).trans e,by rw[Obj.data_mapFields H];simp[rawInt]⟩
def V6 (d:A.handled=none)(hit:jE k s.heap it a i)(l:yc k s.heap a items)(g:items[i]? =none)
  (j:∀h' e,Heap.ExtBut it s.heap h'->(∃o,h'.get? e=some o/\o.cls=.type "StopIteration")->E (.ref e) { s with heap:=h' }):wpAny (model prog w) A (Builtin.SmallTypes.nextOf (.ref it)) Q E s:=by
 cases k with
 |true=>exact wpAny_nextOf_list_end d hit l g j|false=>
  have h:s.heap.IsTupleIter it a i:=hit;obtain⟨p,H,n,b⟩:=id h;obtain⟨q,c,_,na,f⟩:s.heap.IsTuple a items:=l;unfold Builtin.SmallTypes.nextOf;refine cy (wpAny_callSpecial?_slot (name:=Str.ofString "__next__") h.typeIs F.slot_tuple_iterator_next (wpAny_call_entry F.slot_tuple_iterator_next h.typeIs F.entry_tuple_iterator_next ?_ (F.args_tuple_iterator_next_1 _)));show wpAny _ _ (field (.ref it) 0 >>= _) _ _ s;refine cy (wpAny_field H b (x:=.ref a) rfl ?_);show wpAny _ _ (if (Value.ref a==Value.none)=true then _ else _) _ _ s;rw[aj (show ¬((Value.ref a==Value.none)=true) from az)]
  show wpAny _ _ (field (.ref it) 1 >>= _) _ _ s;refine cy (wpAny_field H b (x:=.int i 0) rfl ?_);show wpAny _ _ (seqItems? (.ref a) >>= _) _ _ s;refine cy (wpAny_seqItems c f ?_);simp only[aI,g];refine cy (wpAny_rule (cy (wpAny_setField H b (by simp) ?_)))
  show wpAny _ _ (newExc (.type "StopIteration") [] >>= _) _ _ _;refine cy ?_;simp only[newExc,newTuple];refine cy (wpAny_newObj_type ?_ (by size_fits))
  refine cy (m:=firstArgMember _ _) (wpAny_of_eq (a:=Value.none) (by first|rfl|(simp only[firstArgMember];rfl)) ?_);refine wpAny_newObj_type ?_ (by size_fits)
  simp only[raiseNew];refine cy (wpAny_handled ?_)
  first|rw[show A.in1.handled=none from d]|rw[d]
  refine cy (cz (wpAny_throw ?_));exact j _ _ (((Heap.SameBut.update ..).extBut.push _).push _) ⟨_,av _ rfl,rfl⟩
def WC (j:A.handled=none)(c:a≠it):Draws prog w A it [it,a] items.size (λi v=>items[i]? =some v) (λi h=>jE k h it a i/\yc k h a items) where
 live:=λ_ _ st=>let ⟨o,g,_⟩:=st.1.ob;⟨o,g⟩
 frame:=λ_ _ _ st d=>⟨st.1.to λo e=>d it (by simp) o e,st.2.to λo e=>d a (by simp) o e⟩
 item:=λi s Q E f st l=>WW st.1 st.2 (x:=items[i]) (by simp[f]) λh' b H=>l _ h' s.toks (by simp[f]) ⟨b,st.2.to λo e=>H.extBut a o c e⟩ H
 done:=λs Q E st n=>V6 j st.1 st.2 (by simp) n
end
section
def _root_.L2.Inv.spun {T:Addr}{o:HO}(I:Inv X pins σ H s)(k:∀b u,b∉fp->s.heap.get? b=some u->h'.get? b=some u)(hf:∀b∈fp,wg X pins H b)(hT:s.heap.objs.size<=T)
  (new:jd X.prog X.w (upd H T o) h' T o):Inv X pins σ (upd H T o) { s with heap:=h',toks:=t' }:=by
 have hn:H T=none:=I.hok.fresh hT;have lt:∀b u,s.heap.get? b=some u->b≠T:=λb u e=>aM (aD (aG e) hT);have N:∀b u,H b=some u->b∉fp:=λb u e z=>by rw[(hf b z).1]at e;cases e
 refine I.step (g':=s.gens) (d':=s.drawn) (ch:=fp) (λb a=>let ⟨_,f1,_,g,f4,f⟩:=hf b a;⟨g,f1,f4,f⟩) (λb o _ _ h e _=>k b o h e) (λb o _ _ h e _=>⟨o.slots,k b o h e⟩)
  (λb o _ e n=>by rw[qh (lt b o e)];exact n) (λb o h e=>⟨o,k b o h e⟩) (λb xs e=>by rw[qh (kD e hn)];exact e) (λb u xs e=>by rw[qh (kD e hn)];exact e)
  (λb ps e=>⟨#[],by rw[qh (kD e hn),e];simp⟩) (λm hm=>?_) (λb u e=>?_) I.bare
 ·obtain⟨o,E,p,d,r⟩:=hm
  exact⟨o,E,p,k _ o (λz=>(hf _ z).2.1 rfl) d,r⟩
 ·by_cases a:b=T
  ·subst a;rw[jD]at e;cases e;exact new
  ·rw[qh a]at e
   refine(I.hok b u e).stay (λc v h q=>k c v ?_ q) (λc q=>by rw[qh (kD q hn)];exact q) λc xs q=>by rw[qh (kD q hn)];exact q
   rcases h with z|z
   ·rw[z];exact N b u e
   ·exact N c _ z
def _root_.L2.Inv.spun0 (I:Inv X pins σ H s)(k:∀b u,b∉fp->s.heap.get? b=some u->h'.get? b=some u)(hf:∀b∈fp,wg X pins H b):Inv X pins σ H { s with heap:=h',toks:=t' }:=by
 have N:∀b u,H b=some u->b∉fp:=λb u e z=>by rw[(hf b z).1]at e;cases e
 refine I.step (g':=s.gens) (d':=s.drawn) (ch:=fp) (λb d=>let ⟨_,f1,_,g,f4,f⟩:=hf b d;⟨g,f1,f4,f⟩) (λb o _ _ h e _=>k b o h e) (λb o _ _ h e _=>⟨o.slots,k b o h e⟩)
  (λb o _ e n=>n) (λb o h e=>⟨o,k b o h e⟩) (λb xs e=>e) (λb u xs e=>e) (λb ps e=>⟨#[],by rw[e];simp⟩) (λm hm=>?_) (λb u e=>?_) I.bare
 ·obtain⟨o,E,p,a,r⟩:=hm
  exact⟨o,E,p,k _ o (λz=>(hf _ z).2.1 rfl) a,r⟩
 ·refine(I.hok b u e).stay (λc v h q=>k c v ?_ q) (λc q=>q) λc xs q=>q
  rcases h with z|z
  ·rw[z];exact N b u e
  ·exact N c _ z
def _root_.L2.Inv.sq {k:Bool}{xs:List V}(I:Inv X pins σ H s)(h:yP k X.K H a xs):∃i:bY,Vals xs i/\yc k s.heap a i.toArray/\xs.length<=sizeLine:=by
 cases k with
 |true=>obtain⟨i,r,p,z⟩:=I.list h;exact⟨i,r,p.isList,z⟩|false=>obtain⟨i,r,p,z⟩:=I.tuple h;exact⟨i,r,(show s.heap.IsTuple a i.toArray from p),z⟩
def _root_.L2.Inv.sq_inj {k:Bool}{xs:List V}(I:Inv X pins σ H s)(h:yP k X.K H a xs)(h':yP k X.K H a ys):xs=ys:=by
 cases k with
 |true=>exact I.list_inj h h'|false=>exact I.tuple_inj h h'
end
def Ti (k:Bool)(K:Frag)(a:Addr):It:=
 ⟨λi H=>∃xs x,yP k K H a xs/\xs[i]? =some x,λi H x h=>∃p y,(∀xs,yP k K H a xs->xs[i]? =some y)/\H p=none/\x=.ref p/\h=upd H p (.tup [.int i,y]),λi H=>∃xs,yP k K H a xs/\xs.length=i⟩
def FO {K:Frag}(k:Bool)(a n it:Addr):Turn P w K (.Tuple elts kk tpos) (Ti k K a) [n,it] n (λi h=>(∃old,IsEnum h n it i old)/\jE k h it a i/\n≠it) where
 mem:=by simp
 obj:=λi h st b f=>by
  obtain⟨⟨old,he⟩,g,_⟩:=st;rcases cA.mp f with rfl|f
  ·exact⟨_,he,λv z=>nomatch z⟩
  ·rw[cE.mp f]
   obtain⟨o,S,_,hd⟩:=g.ob;exact⟨o,S,λv z=>by rw[hd]at z;cases z⟩
 keep:=λi h h' ⟨⟨old,he⟩,g,ne⟩ kp=>⟨⟨old,kp n (by simp) _ he⟩,g.to λo r=>kp it (by simp) o r,ne⟩
 item:=by
  intro X hP hw hK hc i pins s σ H E I hf st U;subst hP hw hK;obtain⟨⟨old,he⟩,g,ne⟩:=st;obtain⟨xs,x,D,C⟩:=U;obtain⟨d,J,t,hz⟩:=I.sq D;obtain⟨u,hu,ru⟩:=J.get C;have T:i<d.toArray.size:=by simpa using (cB.mp hu).1
  obtain⟨oa,j,hca,na,e⟩:=t.ob;have A:a≠it:=λz=>by
   obtain⟨oi,c,Z,p⟩:=g.ob;rw[<- z,j]at c;cases c;rw[p]at e;cases e
  have ane:n≠a:=λz=>by
   have B:s.heap.get? a=_:=z ▸ he;rw[j]at B;cases B;cases e
  refine wpAny_pyNext_enum_itemD (WC (k:=k) (items:=d.toArray) (I.ok.hd hc) A) he ⟨g,t⟩ T ne (by simp[ne,ane]) λy h1 tk M S Q hT hsz hk=>?_
  have ey:y=u:=by
   have:d[i]? =some y:=by simpa using M
   rw[hu]at this;exact(aA this).symm
  subst ey;refine⟨_,rfl,wpAny_letOwnedTupleGo_enum S λh2 Y l=>?_⟩;have L:n<s.heap.objs.size:=aG he;have hT2:h2.get? s.heap.objs.size=some { cls:=.type "tuple",data:=.seq #[.int i tk,y] }:=l.extBut _ _ (bq L) hT;refine⟨.ref s.heap.objs.size,upd H s.heap.objs.size (.tup [.int i,x]),?_,rfl,⟨s.heap.objs.size,x,λys M=>by rw[I.sq_inj M D];exact C,I.hok.fresh (ar _),rfl,rfl⟩,⟨⟨_,by simpa using Y⟩,?_,ne⟩,λb f=>?_⟩
  ·refine I.spun (fp:=[n,it]) (t':=tk+1) (λb o f r=>?_) hf (ar _) ?_
   ·exact l.extBut _ _ (λz=>f (by simp[z])) (hk b o (λz=>f (by simp[z])) (λz=>f (by simp[z])) r)
   ·exact⟨by show 2<=sizeLine;decide,[.int i tk,y],.cons ⟨tk,rfl⟩ (.cons ru .nil),_,hT2,⟨rfl,rfl⟩,0,rfl⟩
  ·exact Q.1.to λo r=>l.extBut _ _ (λz=>ne z.symm) r
  ·have bn:b≠s.heap.objs.size:=λz=>by
    rcases cA.mp f with q|q
    ·exact absurd L (by rw[<- q,z];exact aW _)
    ·obtain⟨oi,c,_⟩:=g.ob
     exact absurd (aG c) (by rw[<- cE.mp q,z];exact aW _)
   show upd H s.heap.objs.size _ b=none;rw[qh bn];exact(hf b f).1
 done:=by
  intro X hP hw hK hc i pins s σ H E I hf st U;subst hP hw hK;obtain⟨⟨old,he⟩,g,ne⟩:=st;obtain⟨xs,D,C⟩:=U;obtain⟨d,J,t,hz⟩:=I.sq D;have en':d.toArray.size=i:=by rw[aF,<- J.length];exact C
  obtain⟨oa,j,hca,na,e⟩:=t.ob;have A:a≠it:=λz=>by
   obtain⟨oi,c,Z,p⟩:=g.ob;rw[<- z,j]at c;cases c;rw[p]at e;cases e
  refine wpAny_pyNext_enum_endD (WC (k:=k) (items:=d.toArray) (I.ok.hd hc) A) he ⟨by rw[en'];exact g,t⟩ λh1 N=>⟨rfl,?_⟩
  exact I.spun0 (fp:=[n,it]) (t':=s.toks) (λb o f r=>N b o (λz=>f (by simp[z])) r) hf
 self:=λ_ _ _ _ _ ⟨⟨_,he⟩,_⟩ h=>wpAny_pyIter_enum he h
open AutoSeq1 (wpAny_loadPart')
abbrev gm (h:Heap)(k:Bool)(a:Addr):Heap:=h.push { cls:=.type (Jf k),data:=.fields #[.ref a,.int 0 0] }
abbrev N7 (h:Heap)(k:Bool)(a:Addr):Heap:=(gm h k a).push { cls:=.type "enumerate",data:=.fields #[.none,.bool false,.ref h.objs.size,rawInt 0,.none,.none] }
def Hi (a:Addr)(items:Array Value)(n:Nat)(dd:cw)(S:Array (cb)):
  Meets (Builtin.«enumerate.__new__» ⟨[.type "enumerate",.ref a],[]⟩) (λ_ R s=>s.heap.get? a=some { cls:=.type "tuple",dict:=dd,data:=.seq items n,slots:=S }/\R (.ok (.ret (.ref (gm s.heap false a).objs.size))) { s with heap:=N7 s.heap false a }):=
 .of_wp λprog w A R s h=>by
  obtain⟨p,g,d,tk,os⟩:=s;obtain⟨H,h⟩:=h;have b:=sub_enumerate;have hT:Heap.IsTuple (Shared.heap ⟨p,g,d,tk,os⟩) a items:=⟨_,H,rfl,n,rfl⟩
  wp_walk using wpAny_loadPart' H
  refine wpAny_stack_any λst=>cz ?_;split
  ·rename_i c _ _ _ _ _
   cases (c==Value.type "enumerate")<;>(wp_walk using wpAny_loadPart' H,wpAny_pyIter_tuple hT;exact⟨_,rfl,h⟩)
  ·wp_walk using wpAny_loadPart' H,wpAny_pyIter_tuple hT
   exact⟨_,rfl,h⟩
section
variable {prog:Program}{A:Around}
def Ec {k:Bool}(l:yc k s.heap a items)
  (h:∀h',IsEnum h' (s.heap.objs.size+1) s.heap.objs.size 0 .none->jE k h' s.heap.objs.size a 0->(∀b o,s.heap.get? b=some o->h'.get? b=some o)->Q (.ref (s.heap.objs.size+1)) { s with heap:=h' }):
  wpAny (model prog w) A (call (.type "enumerate") [.ref a]) Q E s:=by
 cases k with
 |true=>exact call_enumerate_list l λh' g f _ e=>h h' g f e|false=>
  obtain⟨⟨c,dd,D,S⟩,d,H,n,hd⟩:=(show s.heap.IsTuple a items from l)
  replace H:c=.type "tuple":=H
  replace hd:D=.seq items n:=hd
  subst H hd;refine callType_new F.called_enumerate (by decide) (F.typeCall_enumerate_1 _) (F.newCall_enumerate_1 _) (λobj=>F.args_object_init_2 obj _) F.entry_enumerate_new (Hi a items n dd S) ⟨d,?_⟩
  have z:(gm s.heap false a).objs.size=s.heap.objs.size+1:=bf ..;have he:IsEnum (N7 s.heap false a) (gm s.heap false a).objs.size s.heap.objs.size 0 .none:=av _ rfl;show _/\_;rw[z]at he ⊢;exact⟨⟨_,he,rfl⟩,h _ he (.mk ⟨_,af _ (av _ rfl),rfl,rfl⟩) λb o x=>af _ (af _ x)⟩
end
section
variable {a b:Expr}{m:Ev}
def eT (K:Frag)(t:TA):TI:=λσ H R=>t σ H λvs H1=>∃p k xs,vs=[.ref p]/\yP k K H1 p xs/\R (Ti k K p) H1
def boot_enumerate:bootBuiltins "enumerate"=some (.type "enumerate"):=by rfl
def boot_zip:bootBuiltins "zip"=some (.type "zip"):=by rfl
def Be {t:TA}(l:Gl X "enumerate")(hm:X.mg "enumerate"=none)(o:PA X [a] t)(g:starEach [a] X.env=[(false,eval a X.env)]):
  PI X (.Tuple elts kk tpos) (.Call (.Name "enumerate" p) [a] [] pos) (eT X.K t):=by
 intro pins s σ H R I h;refine Call_ (Zg I l hm boot_enumerate (PyProof.Rows.callWith_type1 (zU (o pos pins s σ H _ I h) λus s1 ⟨vs,H1,i,d,Q⟩=>?_) g rfl));obtain⟨p,k,xs,rfl,j,q⟩:=Q;obtain⟨u,rfl,r⟩:=d.one;cases r;obtain⟨f,w,sq,x⟩:=i.sq j;refine Ec sq λh' e v E=>wpAny_pyIter_enum e ?_;refine⟨s1.heap.objs.size+1,[s1.heap.objs.size+1,s1.heap.objs.size],_,_,H1,rfl,i.kept (t':=s1.toks) E,FO k p _ _,⟨⟨_,by simpa using e⟩,v,Nat.succ_ne_self _⟩,λb n=>?_,q⟩
 have c:s1.heap.objs.size<=b:=by
  rcases cA.mp n with z|z
  ·rw[z];exact le_succ _
  ·rw[cE.mp z];exact ar _
 exact i.fpOk c (i.hok.fresh c)
noncomputable def atEnd (ws:List W)(i:Nat)(f:W->W):Option (Option W):=match ws[i]? with
 |some x=>some (some (f x))|none=>if ws.length=i then some none else none
def ko (w:W)(n:Nat):jH:=⟨λA i=>match zP w A with
 |some ws=>atEnd ws i λx=>.tup [.int i,x]|none=>none,n⟩
noncomputable def Qz (w:W):Bool:=match w with
 |.tup _=>false|_=>true
def YZ {K:Frag}{A:Hx}{w:W}{ws:List W}(S:zI K φ A H)(q:RV K φ H w v)(e:zP w A=some ws):∃p ys,v=.ref p/\yP (Qz w) K H p ys/\zy K φ H ws ys:=by
 cases w with
 |tup us=>cases e;obtain⟨a,vs,E,t,r⟩:=q;exact⟨a,vs,E,t,r⟩|ref n=>
  obtain⟨a,E,f⟩:=q;unfold zP at e;dsimp only at e;cases c:A[n]? with
  |none=>rw[c]at e;cases e|some o=>
   rw[c]at e;obtain⟨g,d,r⟩:=S.ob n o c;rw[f]at d;cases d;cases o with
   |lst xs=>cases e;obtain⟨y,b,h⟩:=r;exact⟨a,y,E,qW.of b,h⟩|ro xs=>cases e;obtain⟨y,b,h⟩:=r;exact⟨a,y,E,b.sq,h⟩|dct xs=>cases e|td _=>cases e|tr _=>cases e|tab _ _=>cases e
 |non=>cases e|bl _=>cases e|clo _ _ _=>cases e|xc _=>cases e|int _=>cases e|str _=>cases e
def Wx {K:Frag}{a:bZ}{A:Hx}{h:Hp}{w:W}{b:List W}{p:Addr}(q:RV K φ H w (.ref p))(lw:Z5 K φ H a h)(S:zI K a A h)(E:zP w A=some b):∃y,yP (Qz w) K h p y/\zy K a h b y:=by
 obtain⟨P,ys,e,d,c⟩:=YZ S (RV.monoW lw q) E;cases e;exact⟨ys,d,c⟩
def eU {K:Frag}{w:W}{p:Addr}(q:RV K φ H w (.ref p)):Z7 K φ H (ko w n) (Ti (Qz w) K p):=λi c o l lw S=>by
 unfold ko;dsimp only;cases es:zP w l with
 |none=>exact⟨λ_ z=>(by cases z),λz=>(by cases z)⟩|some ws=>
  dsimp only;obtain⟨ys,a,b⟩:=Wx q lw S es;unfold atEnd;cases E:ws[i]? with
  |none=>
   dsimp only
   by_cases h:ws.length=i
   ·rw[ag h]
    exact⟨λ_ z=>(by cases z),λ_=>⟨ys,a,by rw[<- b.length];exact h⟩⟩
   ·rw[aj h]
    exact⟨λ_ z=>(by cases z),λz=>(by cases z)⟩
  |some x=>
   dsimp only;refine⟨λu z=>?_,λz=>(by cases z)⟩
   cases z;obtain⟨y,e,j⟩:=b.get E;refine⟨⟨ys,y,a,e⟩,λX H1 ⟨t,Y,d,f,ex,g⟩=>?_⟩;subst ex g
   have:=d ys a
   rw[e]at this;cases this;obtain⟨a1,a2,A⟩:=Q8 S f (.cons (w:=.int i) (v:=.int i) rfl (.one j));exact⟨a1,a2,A⟩
def kH (m:Ev):Ei:=λρ A=>(m ρ A).bind λw A1=>match zP w A1 with
 |some ws=>.ok (ko w ws.length) A1|none=>.bad
end
section
variable {prog:Program}{A:Around}{z TI TO i1 i2 l1 l2:Addr}{n1 n2:Nat}{c1 c2:Bool}{xs ys:Array Value}{x y a b:Value}
def CZ (D:ZipApart z TI TO i1 i2 l1 l2)(H:IsZip s.heap z TI TO .none)(I:IsPair s.heap TI (.ref i1) (.ref i2))(u:IsPair s.heap TO a b)
  (g1:jE c1 s.heap i1 l1 n1)(g2:jE c2 s.heap i2 l2 n2)(s1:yc c1 s.heap l1 xs)(s2:yc c2 s.heap l2 ys)(X:xs[n1]? =some x)(U:ys[n2]? =some y)
  (hQ:∀h',IsZip h' z TI TO (rawInt s.heap.objs.size)->IsPair h' TI (.ref i1) (.ref i2)->IsPair h' TO x y->jE c1 h' i1 l1 (n1+1)->jE c2 h' i2 l2 (n2+1)->IsPair h' s.heap.objs.size x y->
   (∀c o,c≠z->c≠TO->c≠i1->c≠i2->s.heap.get? c=some o->h'.get? c=some o)->Q (.ref s.heap.objs.size) { s with heap:=h' }):
  wpAny (model prog w) A (Builtin.«zip.__next__» ⟨[.ref z],[]⟩) (λfin s'=>∃v,fin=.done (.ret v)/\Q v s') E s:=by
 show wpAny _ _ (field (.ref z) 2 >>= _) _ _ _;refine cy (wpAny_field H rfl (x:=.bool false) rfl ?_);show wpAny _ _ (field (.ref z) 3 >>= _) _ _ _;refine cy (wpAny_field H rfl (x:=.ref TI) rfl (cy (wpAny_seqItems I rfl ?_)));show wpAny _ _ (Builtin.SmallTypes.ownedTupleIsFree (.ref z) >>= _) _ _ _;refine cy ?_;unfold Builtin.SmallTypes.ownedTupleIsFree;refine cy (wpAny_field H rfl (x:=.none) rfl (cz ?_));simp only[if_true];refine cy (wpAny_rule (cy (wpAny_field H rfl (x:=.ref TO) rfl ?_)));refine cy (wpAny_setField_rec H (by simp) λha p sa=>?_);replace p:IsZip ha z TI TO .ellipsis:=p
 refine cy ?_;simp only[List.zipIdx_cons,List.zipIdx_nil,forIn_cons,forIn_nil];refine cy (cy (wpAny_onRaise ?_));show wpAny _ _ (Builtin.SmallTypes.nextOf (.ref i1) >>= _) _ _ _;refine cy (WW (g1.to λo e=>sa.extBut _ _ D.i1z e) (s1.to λo e=>sa.extBut _ _ D.l1z e) X λhb gb j=>cz ?_);have J:IsPair hb TO a b:=j.extBut _ _ D.TOi1 (sa.extBut _ _ D.TOz u);refine cy (wpAny_seqItems J rfl (cy (wpAny_updateSeq_pair J λN T sc=>cy (wpAny_letGo (cz ?_)))));replace T:IsPair N TO x b:=T;refine cy (cy (wpAny_onRaise ?_));show wpAny _ _ (Builtin.SmallTypes.nextOf (.ref i2) >>= _) _ _ _;have up:∀c o,c≠z->c≠i1->c≠TO->s.heap.get? c=some o->N.get? c=some o:=λc o f d h e=>sc.extBut _ _ h (j.extBut _ _ d (sa.extBut _ _ f e));refine cy (WW (g2.to λo e=>up _ o D.i2z D.i12.symm D.TOi2.symm e) (s2.to λo e=>up _ o D.l2z D.l2i1 D.l2TO e) U λhd gd g=>cz ?_);have td:IsPair hd TO x b:=g.extBut _ _ D.TOi2 T;refine cy (wpAny_seqItems td rfl (cy (wpAny_updateSeq_pair td λhe t S=>cy (wpAny_letGo (cz (cz ?_))))));replace t:IsPair he TO x y:=t;refine cy (wpAny_seqItems t rfl (cy (wpAny_newTuple ?_)));have hsz:he.objs.size=s.heap.objs.size:=by rw[S.1,g.1,sc.1,j.1,sa.1]
 have C:IsZip he z TI TO .ellipsis:=S.extBut _ _ D.TOz.symm (g.extBut _ _ D.i2z.symm (sc.extBut _ _ D.TOz.symm (j.extBut _ _ D.i1z.symm p)));have M:∀c o,c≠z->c≠TO->c≠i1->c≠i2->s.heap.get? c=some o->he.get? c=some o:=λc o f d h r e=>S.extBut _ _ d (g.extBut _ _ r (up c o f h d e));have ge1:jE c1 he i1 l1 (n1+1):=((gb.to λo e=>sc.extBut _ _ D.TOi1.symm e).to λo e=>g.extBut _ _ D.i12 e).to λo e=>S.extBut _ _ D.TOi1.symm e;have B:jE c2 he i2 l2 (n2+1):=gd.to λo e=>S.extBut _ _ D.TOi2.symm e;have Z:z<he.objs.size:=aG C;show wpAny _ _ (Builtin.SmallTypes.ownedTupleHandOut (.ref z) (.ref he.objs.size) >>= _) _ _ _;refine cy ?_;unfold Builtin.SmallTypes.ownedTupleHandOut;have P:IsZip (he.push { cls:=.type "tuple",data:=.seq #[x,y] }) z TI TO .ellipsis:=af _ C;refine cy (wpAny_setField_rec P (by simp) λY n L=>?_);replace n:IsZip Y z TI TO (rawInt he.objs.size):=n
 refine wpAny_setField_rec n (by simp) λl i K=>?_;replace i:IsZip l z TI TO (rawInt he.objs.size):=i
 have fin:∀c o,c≠z->he.get? c=some o->l.get? c=some o:=λc o q e=>K.extBut _ _ q (L.extBut _ _ q (af _ e));have tk:IsPair l he.objs.size x y:=K.extBut _ _ (bq Z) (L.extBut _ _ (bq Z) (av _ rfl));rw[hsz]at i tk;refine cz ⟨_,rfl,?_⟩;show Q (.ref he.objs.size) _;rw[hsz];exact hQ l i (fin _ _ D.TIz (M _ _ D.TIz D.TITO D.TIi1 D.TIi2 I)) (fin _ _ D.TOz t) (ge1.to λo e=>fin _ o D.i1z e) (B.to λo e=>fin _ o D.i2z e) tk λc o f d h r e=>fin c o f (M c o f d h r e)
def eV {Q:Fin->Shared->Prop}(K:A.handled=none)(D:ZipApart z TI TO i1 i2 l1 l2)(i:IsZip s.heap z TI TO .none)(I:IsPair s.heap TI (.ref i1) (.ref i2))(v:IsPair s.heap TO a b)
  (g1:jE c1 s.heap i1 l1 n1)(g2:jE c2 s.heap i2 l2 n2)(s1:yc c1 s.heap l1 xs)(s2:yc c2 s.heap l2 ys)(j:xs[n1]? =none∨ys[n2]? =none)
  (L:∀h' e,(∀c o,c≠z->c≠TO->c≠i1->c≠i2->s.heap.get? c=some o->h'.get? c=some o)->(∃o,h'.get? e=some o/\o.cls=.type "StopIteration")->E (.ref e) { s with heap:=h' }):
  wpAny (model prog w) A (Builtin.«zip.__next__» ⟨[.ref z],[]⟩) Q E s:=by
 show wpAny _ _ (field (.ref z) 2 >>= _) _ _ _;refine cy (wpAny_field i rfl (x:=.bool false) rfl ?_);show wpAny _ _ (field (.ref z) 3 >>= _) _ _ _;refine cy (wpAny_field i rfl (x:=.ref TI) rfl (cy (wpAny_seqItems I rfl ?_)));show wpAny _ _ (Builtin.SmallTypes.ownedTupleIsFree (.ref z) >>= _) _ _ _;refine cy ?_;unfold Builtin.SmallTypes.ownedTupleIsFree;refine cy (wpAny_field i rfl (x:=.none) rfl (cz ?_));simp only[if_true];refine cy (wpAny_rule (cy (wpAny_field i rfl (x:=.ref TO) rfl ?_)));refine cy (wpAny_setField_rec i (by simp) λu Z sa=>?_);replace Z:IsZip u z TI TO .ellipsis:=Z
 refine cy ?_;simp only[List.zipIdx_cons,List.zipIdx_nil,forIn_cons,forIn_nil];refine cy (cy (wpAny_onRaise ?_));show wpAny _ _ (Builtin.SmallTypes.nextOf (.ref i1) >>= _) _ _ _;have ga:=g1.to (h':=u) λo e=>sa.extBut _ _ D.i1z e;have Y:=s1.to (h':=u) λo e=>sa.extBut _ _ D.l1z e;cases p:xs[n1]? with
 |none=>
  refine cy (V6 K ga Y p λt e S he=>?_);obtain⟨n,h,H⟩:=he;have B:IsZip t z TI TO .ellipsis:=S _ _ D.i1z.symm Z;have f:e≠z:=λq=>by subst q;rw[B]at h;cases h;simp at H
  exact wpAny_setField_rec B (by simp) λr _ sc=>L r e (λc o d _ g _ q=>sc.extBut _ _ d (S _ _ g (sa.extBut _ _ d q))) ⟨n,sc.extBut _ _ f h,H⟩
 |some x=>
  have N:ys[n2]? =none:=by
   rcases j with q|q
   ·rw[p]at q;cases q
   ·exact q
  refine cy (WW ga Y p λt U S=>cz ?_);have T:IsPair t TO a b:=S.extBut _ _ D.TOi1 (sa.extBut _ _ D.TOz v);refine cy (wpAny_seqItems T rfl (cy (wpAny_updateSeq_pair T λr P sc=>cy (wpAny_letGo (cz ?_)))));refine cy (cy (wpAny_onRaise ?_));show wpAny _ _ (Builtin.SmallTypes.nextOf (.ref i2) >>= _) _ _ _;have up:∀c o,c≠z->c≠i1->c≠TO->s.heap.get? c=some o->r.get? c=some o:=λc o d l g e=>sc.extBut _ _ g (S.extBut _ _ l (sa.extBut _ _ d e));refine cy (V6 K (g2.to λo e=>up _ o D.i2z D.i12.symm D.TOi2.symm e) (s2.to λo e=>up _ o D.l2z D.l2i1 D.l2TO e) N λhd e J he=>?_);obtain⟨n,h,H⟩:=he;have y:IsZip hd z TI TO .ellipsis:=J _ _ D.i2z.symm (sc.extBut _ _ D.TOz.symm (S.extBut _ _ D.i1z.symm Z));have f:e≠z:=λq=>by subst q;rw[y]at h;cases h;simp at H
  exact wpAny_setField_rec y (by simp) λhf _ C=>L hf e (λc o d l g M q=>C.extBut _ _ d (J _ _ M (up c o d g l q))) ⟨n,C.extBut _ _ f h,H⟩
def CT {Q:Option Value->Shared->Prop}(D:ZipApart z TI TO i1 i2 l1 l2)(d:IsZip s.heap z TI TO .none)(H:IsPair s.heap TI (.ref i1) (.ref i2))(h:IsPair s.heap TO a b)
  (g1:jE c1 s.heap i1 l1 n1)(g2:jE c2 s.heap i2 l2 n2)(s1:yc c1 s.heap l1 xs)(s2:yc c2 s.heap l2 ys)(p:xs[n1]? =some x)(n:ys[n2]? =some y)
  (r:∀h',IsZip h' z TI TO (rawInt s.heap.objs.size)->IsPair h' TI (.ref i1) (.ref i2)->IsPair h' TO x y->jE c1 h' i1 l1 (n1+1)->jE c2 h' i2 l2 (n2+1)->IsPair h' s.heap.objs.size x y->
   (∀c o,c≠z->c≠TO->c≠i1->c≠i2->s.heap.get? c=some o->h'.get? c=some o)->Q (some (.ref s.heap.objs.size)) { s with heap:=h' }):wpAny (model prog w) A (pyNext (.ref z)) Q E s:=by
 have hT:s.TypeIs (.ref z) "zip":=⟨_,d,rfl⟩;unfold pyNext;exact cy (wpAny_attempt (wpAny_callSpecial?_slot (name:=Str.ofString "__next__") hT F.slot_zip_next (wpAny_call_entry F.slot_zip_next hT F.entry_zip_next
  (CZ D d H h g1 g2 s1 s2 p n λh' l j i g f e q=>cz (r h' l j i g f e q)) (F.args_zip_next_1 _))))
def Ad {Q:Option Value->Shared->Prop}(i:A.handled=none)(D:ZipApart z TI TO i1 i2 l1 l2)(d:IsZip s.heap z TI TO .none)(I:IsPair s.heap TI (.ref i1) (.ref i2))(H:IsPair s.heap TO a b)
  (g1:jE c1 s.heap i1 l1 n1)(g2:jE c2 s.heap i2 l2 n2)(s1:yc c1 s.heap l1 xs)(s2:yc c2 s.heap l2 ys)(h:xs[n1]? =none∨ys[n2]? =none)
  (l:∀h',(∀c o,c≠z->c≠TO->c≠i1->c≠i2->s.heap.get? c=some o->h'.get? c=some o)->Q none { s with heap:=h' }):wpAny (model prog w) A (pyNext (.ref z)) Q E s:=by
 have hT:s.TypeIs (.ref z) "zip":=⟨_,d,rfl⟩;unfold pyNext;refine cy (wpAny_attempt (wpAny_callSpecial?_slot (name:=Str.ofString "__next__") hT F.slot_zip_next (wpAny_call_entry F.slot_zip_next hT F.entry_zip_next (eV i D d I H g1 g2 s1 s2 h λh' e g he=>?_) (F.args_zip_next_1 _))));obtain⟨o,f,j⟩:=he;exact cy (wpAny_isInstance (T := "StopIteration") (b:=true) ⟨o,f,j⟩ isSubtype_stop (cz (l _ g)))
end
abbrev GP (h:Heap)(c:Bool)(l:Addr):Heap:=h.push { cls:=.type (Jf c),data:=.fields #[.ref l,.int 0 0] }
abbrev GH (h:Heap)(C c:Bool)(L l:Addr):Heap:=(GP h C L).push { cls:=.type (Jf c),data:=.fields #[.ref l,.int 0 0] }
abbrev GK (h:Heap)(c C:Bool)(l L:Addr):Heap:=(GH h c C l L).push { cls:=.type "tuple",data:=.seq #[.ref h.objs.size,.ref (GP h c l).objs.size] }
abbrev GF (h:Heap)(C c:Bool)(L l:Addr):Heap:=(GK h C c L l).push { cls:=.type "tuple",data:=.seq #[.none,.none] }
abbrev Yo (h:Heap)(C c:Bool)(L l:Addr):Heap:=(GF h C c L l).push { cls:=.type "zip",data:=.fields #[.none,.bool false,.bool false,.ref (GH h C c L l).objs.size,.ref (GK h C c L l).objs.size] }
def F1 (c C:Bool)(l L:Addr)(xs ys:Array Value):
  Meets (Builtin.«zip.__new__» ⟨[.type "zip",.ref l,.ref L],[]⟩) (λ_ R s=>yc c s.heap l xs/\yc C s.heap L ys/\R (.ok (.ret (.ref (GF s.heap c C l L).objs.size))) { s with heap:=Yo s.heap c C l L }):=
 .of_wp λprog w A R s h=>by
  obtain⟨p,g,d,tk,os⟩:=s;obtain⟨Q,q,h⟩:=h;have H:=sub_zip;have k1:yc c (Shared.heap ⟨p,g,d,tk,os⟩) l xs:=Q;have k2:yc C (Shared.heap ⟨p.push { cls:=.type (Jf c),data:=.fields #[.ref l,.int 0 0] },g,d,tk,os⟩) L ys:=q.to λo e=>af _ e
  wp_walk using OP k1,OP k2
  exact⟨_,rfl,h⟩
section
variable {prog:Program}{A:Around}{c1 c2:Bool}{l1 l2:Addr}{xs ys:Array Value}
def Cp (s1:yc c1 s.heap l1 xs)(s2:yc c2 s.heap l2 ys)
  (h:∀h' n,n=s.heap.objs.size->IsZip h' (n+4) (n+2) (n+3) .none->IsPair h' (n+2) (.ref n) (.ref (n+1))->IsPair h' (n+3) .none .none->jE c1 h' n l1 0->jE c2 h' (n+1) l2 0->
   (∀c o,s.heap.get? c=some o->h'.get? c=some o)->Q (.ref (n+4)) { s with heap:=h' }):wpAny (model prog w) A (call (.type "zip") [.ref l1,.ref l2]) Q E s:=by
 refine callType_new F.called_zip (by decide) (F.typeCall_zip_2 _ _) (F.newCall_zip_2 _ _) (λobj=>F.args_object_init_3 obj _ _) F.entry_zip_new (F1 c1 c2 l1 l2 xs ys) ⟨s1,s2,?_⟩
 have a:(GP s.heap c1 l1).objs.size=s.heap.objs.size+1:=bf ..;have Z:(GH s.heap c1 c2 l1 l2).objs.size=s.heap.objs.size+2:=by rw[bf,a]
 have z:(GK s.heap c1 c2 l1 l2).objs.size=s.heap.objs.size+3:=by rw[bf,Z]
 have b:(GF s.heap c1 c2 l1 l2).objs.size=s.heap.objs.size+4:=by rw[bf,z]
 have y:(Yo s.heap c1 c2 l1 l2).get? (GF s.heap c1 c2 l1 l2).objs.size=some _:=av _ rfl;have y4:(Yo s.heap c1 c2 l1 l2).get? (GK s.heap c1 c2 l1 l2).objs.size=some _:=af _ (av _ rfl);have Y:(Yo s.heap c1 c2 l1 l2).get? (GH s.heap c1 c2 l1 l2).objs.size=some _:=af _ (af _ (av _ rfl));have d:(Yo s.heap c1 c2 l1 l2).get? (GP s.heap c1 l1).objs.size=some _:=af _ (af _ (af _ (av _ rfl)));have e:(Yo s.heap c1 c2 l1 l2).get? s.heap.objs.size=some _:=af _ (af _ (af _ (af _ (av _ rfl))));show _/\_;rw[Z,z,b]at y;rw[a,Z]at Y;rw[z]at y4;rw[a]at d;rw[b];exact⟨⟨_,y,rfl⟩,h _ _ rfl y Y y4 (.mk ⟨_,e,rfl,rfl⟩) (.mk ⟨_,d,rfl,rfl⟩) λc o q=>
  af _ (af _ (af _ (af _ (af _ q))))⟩
end
def Th (C c:Bool)(K:Frag)(p q:Addr):It:=
 ⟨λi H=>∃xs ys x y,yP C K H p xs/\yP c K H q ys/\xs[i]? =some x/\ys[i]? =some y,
  λi H v h=>∃t x y,(∀xs,yP C K H p xs->xs[i]? =some x)/\(∀ys,yP c K H q ys->ys[i]? =some y)/\H t=none/\v=.ref t/\h=upd H t (.tup [x,y]),
  λi H=>∃xs ys,yP C K H p xs/\yP c K H q ys/\(xs[i]? =none∨ys[i]? =none)⟩
def DI {K:Frag}(c1 c2:Bool)(p q z TI TO t r:Addr)(D:ZipApart z TI TO t r p q):
  Turn P w K (.Tuple elts kk tpos) (Th c1 c2 K p q) [z,TI,TO,t,r] z (λi h=>IsZip h z TI TO .none/\IsPair h TI (.ref t) (.ref r)/\(∃a b,IsPair h TO a b)/\jE c1 h t p i/\jE c2 h r q i) where
 mem:=by simp
 obj:=λi h st b d=>by
  obtain⟨j,g,⟨T,Q,f⟩,g1,g2⟩:=st;simp only[mem_cons,not_mem_nil,or_false]at d;rcases d with rfl|rfl|rfl|rfl|rfl
  ·exact⟨_,j,λv e=>nomatch e⟩
  ·exact⟨_,g,λv e=>nomatch e⟩
  ·exact⟨_,f,λv e=>nomatch e⟩
  ·obtain⟨o,B,_,hd⟩:=g1.ob;exact⟨o,B,λv e=>by rw[hd]at e;cases e⟩
  ·obtain⟨o,B,_,hd⟩:=g2.ob;exact⟨o,B,λv e=>by rw[hd]at e;cases e⟩
 keep:=λi h h' ⟨j,g,⟨T,Q,f⟩,g1,g2⟩ k=>⟨k z (by simp) _ j,k TI (by simp) _ g,⟨T,Q,k TO (by simp) _ f⟩,g1.to λo e=>k t (by simp) o e,g2.to λo e=>k r (by simp) o e⟩
 item:=by
  intro X hP hw hK hc i pins s σ H E I hf st hg;subst hP hw hK;obtain⟨j,g,⟨T,Q,f⟩,g1,g2⟩:=st;obtain⟨xs,ys,x,y,N,M,ex,ey⟩:=hg;obtain⟨n,r1,u,_⟩:=I.sq N;obtain⟨l,r2,S,_⟩:=I.sq M;obtain⟨Y,eu1,ru1⟩:=r1.get ex;obtain⟨U,eu2,Z⟩:=r2.get ey;refine CT D j g f g1 g2 u S (x:=Y) (y:=U) (by simpa using eu1) (by simpa using eu2) λhh z1 z2 z3 z4 z5 z6 kp=>?_
  refine⟨_,rfl,wpAny_letOwnedTupleGo_zip z1 λhk zk J=>?_⟩;have lt:∀{c o},s.heap.get? c=some o->c≠s.heap.objs.size:=λe=>aM (aG e);have T2:IsPair hk s.heap.objs.size Y U:=J.extBut _ _ (lt j).symm z6;have fre:∀b∈[z,TI,TO,t,r],b≠s.heap.objs.size:=λb d=>by
   simp only[mem_cons,not_mem_nil,or_false]at d;rcases d with rfl|rfl|rfl|rfl|rfl
   ·exact lt j
   ·exact lt g
   ·exact lt f
   ·obtain⟨o,B,_⟩:=g1.ob;exact lt B
   ·obtain⟨o,B,_⟩:=g2.ob;exact lt B
  refine⟨.ref s.heap.objs.size,upd H s.heap.objs.size (.tup [x,y]),?_,rfl,⟨s.heap.objs.size,x,y,λzs A=>by rw[I.sq_inj A N];exact ex,λzs A=>by rw[I.sq_inj A M];exact ey,I.hok.fresh (ar _),rfl,rfl⟩,
   ⟨zk,J.extBut _ _ D.TIz z2,⟨_,_,J.extBut _ _ D.TOz z3⟩,z4.to λo e=>J.extBut _ _ D.i1z e,z5.to λo e=>J.extBut _ _ D.i2z e⟩,λb d=>?_⟩
  ·refine I.spun (fp:=[z,TI,TO,t,r]) (t':=s.toks) (λb o d eo=>?_) hf (ar _) ?_
   ·exact J.extBut _ _ (λe=>d (by simp[e])) (kp b o (λe=>d (by simp[e])) (λe=>d (by simp[e])) (λe=>d (by simp[e])) (λe=>d (by simp[e])) eo)
   ·exact⟨by show 2<=sizeLine;decide,[Y,U],.cons ru1 (.cons Z .nil),_,T2,⟨rfl,rfl⟩,0,rfl⟩
  ·show upd H s.heap.objs.size _ b=none
   rw[qh (fre b d)];exact(hf b d).1
 done:=by
  intro X hP hw hK hc i pins s σ H E I hf st hg;subst hP hw hK;obtain⟨j,g,⟨T,Q,f⟩,g1,g2⟩:=st;obtain⟨xs,ys,N,M,L⟩:=hg;obtain⟨n,r1,u,_⟩:=I.sq N;obtain⟨l,r2,S,_⟩:=I.sq M;have C:n.toArray[i]? =none∨l.toArray[i]? =none:=by
   rcases L with e|e
   ·exact .inl (by simpa using r1.none_of e)
   ·exact .inr (by simpa using r2.none_of e)
  exact Ad (I.ok.hd hc) D j g f g1 g2 u S C λhh kp=>⟨rfl,I.spun0 (fp:=[z,TI,TO,t,r]) (t':=s.toks) (λb o d eo=>kp b o (λe=>d (by simp[e])) (λe=>d (by simp[e])) (λe=>d (by simp[e])) (λe=>d (by simp[e])) eo) hf⟩
 self:=λ_ _ _ _ _ st h=>wpAny_pyIter_zip st.1 h
section
variable {a b:Expr}{m:Ev}
def eX (K:Frag)(t:TA):TI:=λσ H R=>t σ H λvs H1=>∃p q C c xs ys,vs=[.ref p,.ref q]/\yP C K H1 p xs/\yP c K H1 q ys/\R (Th C c K p q) H1
def eY {T:TA}(U:Gl X "zip")(hm:X.mg "zip"=none)(Y:PA X [a,b] T)(N:starEach [a,b] X.env=(false,eval a X.env)::starEach [b] X.env)(P:(backTo pos (starEach [b] X.env)).any (·.1)=false):
  PI X (.Tuple elts kk tpos) (.Call (.Name "zip" p) [a,b] [] pos) (eX X.K T):=by
 intro pins s σ H R I h;refine Call_ (Zg I U hm boot_zip (PyProof.Rows.callWith_type1 (zU (Y pos pins s σ H _ I h) λus s1 ⟨vs,H1,g,M,Q⟩=>?_) N P));obtain⟨p,q,c1,c2,xs,ys,rfl,h1,h2,hR⟩:=Q;obtain⟨u1,u2,rfl,o,r⟩:=M.two;cases o;cases r;obtain⟨w,J,d,_⟩:=g.sq h1;obtain⟨v,C,S,_⟩:=g.sq h2;obtain⟨op,u,_⟩:=d.ob;obtain⟨oq,t,_⟩:=S.ob;have L:p<s1.heap.objs.size:=aG u;have l:q<s1.heap.objs.size:=aG t;refine Cp d S λh' n E z B A y Z kp=>wpAny_pyIter_zip z ?_;rw[<- E]at L l;have ne1:∀(i j:Nat),i≠j->n+i≠n+j:=λi j h e=>h (Nat.add_left_cancel e);have ne2:∀(c:Nat)(i:Nat),c<n->c≠n+i:=λc i h e=>absurd h (by rw[e];exact Nat.not_lt.mpr (le_add_right n i))
 have D:ZipApart (n+4) (n+2) (n+3) (n+0) (n+1) p q:=⟨ne1 2 4 (by decide),ne1 3 4 (by decide),ne1 0 4 (by decide),ne1 1 4 (by decide),ne1 2 3 (by decide),ne1 2 0 (by decide),ne1 2 1 (by decide),ne1 3 0 (by decide),ne1 3 1 (by decide),ne1 0 1 (by decide),
  ne2 p 4 L,ne2 p 3 L,ne2 p 0 L,ne2 p 1 L,ne2 q 4 l,ne2 q 3 l,ne2 q 0 l,ne2 q 1 l⟩
 refine⟨n+4,[n+4,n+2,n+3,n,n+1],_,_,H1,rfl,g.kept (t':=s1.toks) kp,DI c1 c2 p q _ _ _ _ _ D,⟨z,B,⟨_,_,A⟩,y,Z⟩,λc x=>?_,hR⟩;have f:s1.heap.objs.size<=c:=by
  rw[<- E];simp only[mem_cons,not_mem_nil,or_false]at x;rcases x with rfl|rfl|rfl|rfl|rfl
  ·exact le_add_right _ _
  ·exact le_add_right _ _
  ·exact le_add_right _ _
  ·exact ar _
  ·exact le_add_right _ _
 exact g.fpOk f (g.hok.fresh f)
noncomputable def zip2:Option W->Option W->Option W
 |some x,some y=>some (.tup [x,y])|_,_=>none
def Jn (w a:W)(n:Nat):jH:=⟨λA i=>match zP w A,zP a A with
 |some us,some vs=>some (zip2 us[i]? vs[i]?)|_,_=>none,n⟩
def eZ {K:Frag}{w a:W}{p P:Addr}(q:RV K φ H w (.ref p))(Q:RV K φ H a (.ref P)):Z7 K φ H (Jn w a n) (Th (Qz w) (Qz a) K p P):=λi c I A lw S=>by
 unfold Jn;dsimp only;cases es:zP w A with
 |none=>exact⟨λ_ z=>(by cases z),λz=>(by cases z)⟩|some us=>
  cases es':zP a A with
  |none=>exact⟨λ_ z=>(by cases z),λz=>(by cases z)⟩|some vs=>
   dsimp only;obtain⟨xs,b,f⟩:=Wx q lw S es;obtain⟨ys,h,d⟩:=Wx Q lw S es';have non:∀{us:List W}{xs:List V},zy K c I us xs->us[i]? =none->xs[i]? =none:=λr e=>by
    rw[List.getElem?_eq_none_iff]at e ⊢;rw[<- r.length];exact e
   cases j:us[i]? with
   |none=>exact⟨λ_ z=>(by cases z),λ_=>⟨xs,ys,b,h,.inl (non f j)⟩⟩|some x=>
    cases E:vs[i]? with
    |none=>exact⟨λ_ z=>(by cases z),λ_=>⟨xs,ys,b,h,.inr (non d E)⟩⟩|some y=>
     refine⟨λu z=>?_,λz=>(by cases z)⟩
     cases z;obtain⟨l,f1,f2⟩:=f.get j;obtain⟨v,g,f4⟩:=d.get E;refine⟨⟨xs,ys,l,v,b,h,f1,g⟩,λX H1 ⟨t,J,Y,s,o,B,ex,C⟩=>?_⟩;subst ex C;have g1:=s xs b;have g2:=o ys h;rw[f1]at g1;cases g1;rw[g]at g2;cases g2;obtain⟨a1,a2,D⟩:=Q8 S B (.cons f2 (.one f4));exact⟨a1,a2,D⟩
def Ju (m M:Ev):Ei:=λρ A=>(m ρ A).bind λw A1=>(M ρ A1).bind λa A2=>match zP w A2,zP a A2 with
 |some us,some _=>.ok (Jn w a us.length) A2|_,_=>.bad
variable {K:Frag}{c:Expr}
noncomputable def Kv:Ev:=λ_ A=>.ok (.ref A.length) (A++[.dct []])
noncomputable def QD:W->Option Key
 |.int i=>some (.inl i)|_=>none
noncomputable def kz (k:Key):List (Key×W)->Option W
 |[]=>none|(j,w)::r=>if j=k then some w else kz k r
theorem X3 (k:Key):∀{kvs:List (Key×W)}{us:List (Key×V)},us.map (·.1)=kvs.map (·.1)->zy K φ H (kvs.map (·.2)) (us.map (·.2))->
  (∀w,kz k kvs=some w->∃v,kA us k=some v/\RV K φ H w v)/\(kz k kvs=none->kA us k=none)
 |[],[],_,_=>⟨λw h=>(by cases h),λ_=>rfl⟩|[],_::_,h,_=>by simp at h|_::_,[],h,_=>by simp at h|(j,w)::kvs,(J,v)::us,h,r=>by
  simp only[aL,List.cons.injEq]at h;obtain⟨g,l,e,d,c⟩:=r;simp only[aL,List.cons.injEq]at e;obtain⟨rfl,rfl⟩:=e;have i:=X3 k h.2 c;have b:J=j:=h.1;subst b
  by_cases a:J=k
  ·refine⟨λf hw=>⟨v,WG a,?_⟩,λhn=>?_⟩
   ·unfold kz at hw;rw[ag a]at hw;cases hw;exact d
   ·unfold kz at hn;rw[ag a]at hn;cases hn
  ·unfold kz
   rw[aj a,WR (p:=(J,v)) a];exact i
theorem zI.dct {A:Hx}{kvs:List (Key×W)}(S:zI K φ A H)(q:RV K φ H (.ref n) v)(e:A[n]? =some (.dct kvs)):∃p us,v=.ref p/\φ[n]? =some p/\H p=some (.dK us)/\us.map (·.1)=kvs.map (·.1)/\zy K φ H (kvs.map (·.2)) (us.map (·.2)):=by
 obtain⟨p,rfl,a⟩:=q;obtain⟨P,h,us,d,c,b⟩:=S.ob n _ e;rw[a]at h;cases h;exact⟨p,us,rfl,a,d,c,b⟩
def Kr:W->W->Hx->R W:=λd k A=>match d,QD k with
 |.ref n,some k=>match A[n]? with
  |some (.dct kvs)=>match kz k kvs with
   |some w=>.ok w A|none=>.bad
  |_=>.bad
 |_,_=>.bad
def Bd:V->List V->Hp->VK->Prop:=λx vs H Q=>∃p us k d,x=.ref p/\vs=[kV k,d]/\H p=some (.dK us)/\us.length<sizeLine/\(∀v,kA us k=some v->Q v H)/\(kA us k=none->Q d (upd H p (.dK (putK us k d))))
def Ee:U5 X "dict.setdefault" Bd:=by
 intro pins s σ H x vs v us Q I g i h;obtain⟨p,kvs,k,d,rfl,rfl,f,A,n,l⟩:=h;cases g;obtain⟨U,u,rfl,j,c⟩:=i.two;obtain⟨z,hd,ws,rel,dd⟩:=Gz I.hok f;refine call_meetsIn PySem.F.slot_dict_setdefault dd.typeIs PySem.F.entry_dict_setdefault (PySem.F.args_dict_setdefault_3 _ _ _) (kt_meets_setdefault (yB X.prog X.w) p (Kj j) hd u) ⟨ws,dd,by rw[<- rel.length];exact z,λv o=>?_,λhn h' D t=>?_⟩
 ·have r:=rel.val k
  rw[o]at r;cases e:kA kvs k with
  |none=>rw[e]at r;exact r.elim|some a=>rw[e]at r;exact⟨a,H,I.tok _,r,n a e⟩
 ·have r:=rel.val k
  rw[hn]at r;cases e:kA kvs k with
  |some a=>rw[e]at r;exact r.elim|none=>
   have b:(putK kvs k d).length<=sizeLine:=by have:=Wq kvs k d;omega
   have he:∃q,h'.get? p=some q:=let ⟨q,_,_,y,_⟩:=D;⟨q,y⟩
   exact⟨d,_,WZ I (by rw[f];exact True.intro) t he (Ue b hd (rel.put k c) D),c,l e⟩
noncomputable def G1 (x:W)(A:Hx):Bool:=match x with
 |.ref n=>match A[n]? with
  |some (.dct _)=>true|_=>false
 |_=>false
def ZL:W->W->W->Hx->R W:=λd k v A=>match d,QD k with
 |.ref n,some k=>match A[n]? with
  |some (.dct kvs)=>if kvs.length<qa then(match kz k kvs with
   |some w=>.ok w A|none=>.ok v (A.set n (.dct (kvs++[(k,v)])))) else .bad
  |_=>.bad
 |_,_=>.bad
def J4 (g:W->W->W->Hx->R W)(a b c:Ev):Ev:=λρ A=>(a ρ A).bind λx A1=>if G1 x A1 then(b ρ A1).bind λy A2=>(c ρ A2).bind λz d=>g x y z d else .bad
def D5 {A:Hx}{w:W}(S:zI K φ A H)(q:RV K φ H w v)(e:G1 w A=true):Xb K "dict" v H:=by
 unfold G1 at e;cases w with
 |ref n=>
  dsimp only at e;cases E:A[n]? with
  |none=>rw[E]at e;cases e|some o=>cases o with
   |dct ws=>obtain⟨p,us,rfl,_,h,_⟩:=S.dct q E;exact .inr (.inr (.inl ⟨rfl,.inl ⟨us,h⟩⟩))|_=>rw[E]at e;cases e
 |_=>cases e
end
def Tc (d:Addr)(o:Obj)(us:List (Key×V)):It:=
 ⟨λi H=>H d=some (.frz o (.dK us))/\i<us.length,λi H x h=>∃t p,us[i]? =some p/\H t=none/\x=.ref t/\h=upd H t (.tup [kV p.1,p.2]),λi H=>H d=some (.frz o (.dK us))/\us[i]? =none⟩
def e8 {k:Key}(h:(yB P w).is k u=true):RelV (kV k) u:=by
 rw[Hz]at h;rcases gZ h with ⟨i,t,rfl,rfl⟩|⟨x,t,rfl,rfl⟩
 ·exact⟨t,rfl⟩
 ·exact⟨t,rfl⟩
theorem KV.at:∀{us:List (Key×V)}{vs:List (Key×Value)}{i:Nat}{p:Key×V},KV us vs->us[i]? =some p->∃u,vs[i]? =some (p.1,u)/\RelV p.2 u
 |[],_,_,_,_,e=>by simp at e|q::us,_,0,p,.cons (b:=b) r t,e=>by
  simp at e;subst e;exact⟨b.2,by simp only[List.getElem?_cons_zero];rw[r.1],r.2⟩
 |q::us,_,i+1,p,.cons r t,e=>by
  obtain⟨u,H,h⟩:=KV.at (i:=i) (p:=p) t (by simpa using e)
  exact⟨u,by simpa using H,h⟩
section
def _root_.L2.Inv.frzD {d:Addr}{o:Obj}{us:List (Key×V)}{f:Nat}(I:Inv X pins σ H s)(h:H d=some (.frz o (.dK us)))(p:∃E,o.data=.dict E f):∃vs,KV us vs/\s.heap.DictAt (yB X.prog X.w) d vs f:=by
 obtain⟨a,z,hd,vs,rel,dd⟩:=I.hok d _ h;obtain⟨i,o',es',e,g,c,r⟩:=dd.dictAt;rw[a]at e;cases e;obtain⟨E,he⟩:=p;have b:=c;rw[he]at b;injection b with l j
 subst j;exact⟨vs,rel,o,es',a,g,c,r⟩
end
def Cr:entryFor table "dict_itemiterator.__iter__"=some Builtin.«dict_keyiterator.__iter__»:=entryFor_alias (id' := "dict_keyiterator.__iter__") (by kernel_rfl)
 (by first|rfl|decide +kernel|(unfold String.splitOn;simp +decide [String.splitOnAux])) (by decide +kernel) (by kernel_rfl)
def Fe {K:Frag}(d it:Addr)(o:Obj)(us:List (Key×V))(l:Nat)(j:∃U,o.data=.dict U l):
  Turn P w K (.Tuple elts kk tpos) (Tc d o us) [it] it (λi h=>∃ok a,IsItemIter h it d i us.length l ok a) where
 mem:=by simp
 obj:=λi h ⟨ok,a,st⟩ b c=>by
  rw[cE.mp c];exact⟨_,st,λv e=>nomatch e⟩
 keep:=λi h h' ⟨ok,a,st⟩ k=>⟨ok,a,k it (by simp) _ st⟩
 item:=by
  intro X r hw t B i pins s σ H E I hf st n;subst r hw t;obtain⟨ok,a,st⟩:=st;obtain⟨hd,g⟩:=n;obtain⟨vs,rel,D⟩:=I.frzD hd j;obtain⟨u,L,C⟩:=KV.at rel (i:=i) (p:=us[i]) (by simp[g])
  have S:IsItemIter s.heap it d i vs.length l ok a:=by rw[<- rel.length];exact st
  refine wpAny_pyNext_items_item S D L λkey T y M hT hsz kp=>⟨_,rfl,wpAny_letOwnedTupleGo_items M λN q f=>?_⟩;have lt:it<s.heap.objs.size:=aG st;have Y:N.get? s.heap.objs.size=some { cls:=.type "tuple",data:=.seq #[key,u] }:=f.extBut _ _ (bq lt) hT;refine⟨.ref s.heap.objs.size,upd H s.heap.objs.size (.tup [kV us[i].1,us[i].2]),?_,rfl,⟨s.heap.objs.size,us[i],by simp[g],I.hok.fresh (ar _),rfl,rfl⟩,⟨_,_,by rw[rel.length];exact q⟩,λb c=>?_⟩
  ·refine I.spun (fp:=[it]) (t':=s.toks) (λb ob c x=>?_) hf (ar _) ?_
   ·exact f.extBut _ _ (λz=>c (by simp[z])) (kp b ob (λz=>c (by simp[z])) x)
   ·exact⟨by show 2<=sizeLine;decide,[key,u],.cons (e8 y) (.cons C .nil),_,Y,⟨rfl,rfl⟩,0,rfl⟩
  ·show upd H s.heap.objs.size _ b=none
   have bn:b≠s.heap.objs.size:=λz=>by rw[cE.mp c]at z;exact absurd lt (by rw[z];exact aW _)
   rw[qh bn];exact(hf b c).1
 done:=by
  intro X r hw t B i pins s σ H E I hf st n;subst r hw t;obtain⟨ok,a,st⟩:=st;obtain⟨hd,g⟩:=n;obtain⟨vs,rel,D⟩:=I.frzD hd j;have S:IsItemIter s.heap it d i vs.length l ok a:=by rw[<- rel.length];exact st
  have hn:vs[i]? =none:=by
   rw[List.getElem?_eq_none_iff]at g ⊢;rw[<- rel.length];exact g
  exact wpAny_pyNext_items_end (I.ok.hd B) S D hn λT J=>⟨rfl,I.spun0 (fp:=[it]) (t':=s.toks) (λb ob c x=>J b ob (λz=>c (by simp[z])) x) hf⟩
 self:=λA i s Q E ⟨ok,a,st⟩ h=>by
  have hT:s.TypeIs (.ref it) "dict_itemiterator":=⟨_,st,rfl⟩;refine wpAny_pyIter_slot hT F.slot_dict_itemiterator_iter (wpAny_call_entry F.slot_dict_itemiterator_iter hT Cr ?_ (F.args_dict_itemiterator_iter_1 _));show wpAny _ _ (ret (.ref it)) _ _ s;exact cz ⟨_,rfl,"dict_itemiterator",_,hT,F.slot_dict_itemiterator_next.lookup,h⟩
section
variable {a b:Expr}{m:Ev}
def AG (td:TE):TI:=λσ H R=>td σ H λx H1=>∃d us,x=.ref d/\H1 d=some (.dK us)/\∀o,R (Tc d o us) (upd H1 d (.frz o (.dK us)))
def D6 {apos:Pos}{td:TE}(y:PE X a td)(i:attributeBase a "items" X.env (eval a X.env)=eval a X.env)(g:(apos.endLine==cpos.line)=true):
  PI X (.Tuple elts kk tpos) (.Call (.Attribute a "items" apos) [] [] cpos) (AG td):=by
 intro pins s σ H R I h;refine wpAny_Call_method0_late i g (zU (y pins s σ H _ I h) λv s1 ⟨x,H1,n,u,d,us,ex,hd,q⟩=>?_);subst ex;cases u;obtain⟨z,f,vs,rel,dd⟩:=Gz n.hok hd;obtain⟨o,l,p,c,hex,t,r⟩:=id dd;refine⟨"dict","dict.items",PySem.F.plainAttrs_dict,PySem.F.slot_dict_items,PySem.F.type_dict_items,dd.typeIs,λb E=>by cases E;exact⟨o,c,hex.2.1⟩,Calls.callWith_builtin rfl (PySem.evalArgs_none ?_)⟩
 refine call_meetsIn PySem.F.slot_dict_items dd.typeIs PySem.F.entry_dict_items (PySem.F.args_dict_items_1 _) (meets_dict_items (yB X.prog X.w) d f) ⟨⟨vs,dd⟩,?_⟩;have B:Inv X pins σ (upd H1 d (.frz o (.dK us))) { s1 with heap:=s1.heap,toks:=s1.toks }:=n.write (x:=d) (e:=d) (o:=.frz o (.dK us)) (t':=s1.toks) (h':=s1.heap) (by rw[hd];exact True.intro) (.inl rfl) (λ_ _ _ q=>q) ⟨o,c⟩ ⟨c,z,f,vs,rel,dd⟩
 have j:Inv X pins σ (upd H1 d (.frz o (.dK us))) { s1 with heap:=s1.heap.push { cls:=.type "dict_items",data:=.fields #[.ref d] } }:=B.kept (t':=s1.toks) λb ob q=>af _ q
 have D:(s1.heap.push { cls:=.type "dict_items",data:=.fields #[.ref d] }).DictAt (yB X.prog X.w) d vs p:=⟨o,l,af _ c,hex,t,r⟩;refine wpAny_pyIter_items (s:={ s1 with heap:=s1.heap.push { cls:=.type "dict_items",data:=.fields #[.ref d] } }) ⟨_,av _ rfl,rfl,rfl⟩ D ?_
 refine⟨_,[_],_,_,_,rfl,j.kept (t':=s1.toks) λb ob q=>af _ q,Fe d _ o us p ⟨l,t⟩,⟨.none,.none,?_⟩,λb A=>?_,q o⟩
 ·rw[rel.length];exact av _ rfl
 ·have E:=cE.mp A
  subst E;exact j.fpOk (ar _) (j.hok.fresh (ar _))
noncomputable def kW:Key->W
 |.inl i=>.int i|.inr x=>.str x
def Yf (kvs:List (Key×W)):jH:=⟨λ_ i=>some (kvs[i]?.map λp=>.tup [kW p.1,p.2]),kvs.length⟩
def Kd (m:Ev):Ei:=λρ A=>match A with
 |[]=>(m ρ []).bind λw A1=>match w,A1 with
  |.ref 0,[.dct kvs]=>if qS (kvs.map (·.2)) then .ok (Yf kvs) [] else .bad|_,_=>.bad
 |_=>.bad
def e9 {K:Frag}{d:Addr}{o:Obj}{us:List (Key×V)}{kvs:List (Key×W)}(hd:H d=some (.frz o (.dK us)))(f:us.map (·.1)=kvs.map (·.1))(B:zy K φ H (kvs.map (·.2)) (us.map (·.2)))(n:qS (kvs.map (·.2))=true):
  Z7 K φ H (Yf kvs) (Tc d o us):=λi a g J lw S=>by
 unfold Yf;dsimp only;have h:=lw.fz d o _ hd;have E:zy K a g (kvs.map (·.2)) (us.map (·.2)):=B.nrm lw.tp lw.fz n;have l:us.length=kvs.length:=by have:=congrArg List.length f;simpa using this
 cases e:kvs[i]? with
 |none=>
  refine⟨λ_ z=>(by cases z),λ_=>⟨h,?_⟩⟩
  rw[List.getElem?_eq_none_iff]at e ⊢;rw[l];exact e
 |some p=>
  have s:i<kvs.length:=(cB.mp e).1;refine⟨λu z=>?_,λz=>(by cases z)⟩
  cases z;refine⟨⟨h,by rw[l];exact s⟩,λx H1 ⟨t,q,b,j,ex,A⟩=>?_⟩
  subst ex A;have k1:q.1=p.1:=by
   have a1:(us.map (·.1))[i]? =some q.1:=by simp[b]
   rw[f]at a1;simp[e]at a1;exact a1.symm
  have a2:(kvs.map (·.2))[i]? =some p.2:=by simp[e]
  obtain⟨v,c,y⟩:=E.get a2;have w:v=q.2:=by simp[b]at c;exact c.symm
  subst w;rw[k1];have r:RV K a g (kW p.1) (kV p.1):=by cases p.1<;>rfl
  obtain⟨I,D,C⟩:=Q8 S j (.cons r (.one y));exact⟨I,D,C⟩
end
mutual
noncomputable def W.beq:W->W->Bool
 |.non,.non=>true|.bl a,.bl b=>a==b|.int a,.int b=>decide (a=b)|.str a,.str b=>decide (a=b)|.tup a,.tup b=>KG a b|_,_=>false
noncomputable def KG:List W->List W->Bool
 |[],[]=>true|a::as,b::bs=>a.beq b&&KG as bs|_,_=>false
end
mutual
theorem W.eq_of:∀{a b:W},a.beq b=true->a=b
 |.non,.non,_=>rfl|.bl a,.bl b,h=>by have h':(a==b)=true:=h;rw[aK]at h';rw[h']|.int a,.int b,h=>by have h':decide (a=b)=true:=h;rw[ak]at h';rw[h']|.str a,.str b,h=>by have h':decide (a=b)=true:=h;rw[ak]at h';rw[h']|.tup a,.tup b,h=>by have h':KG a b=true:=h;rw[O2 h']|.non,.bl _,h=>nomatch h|.non,.int _,h=>nomatch h|.non,.str _,h=>nomatch h|.non,.tup _,h=>nomatch h|.non,.ref _,h=>nomatch h
 |.bl _,.non,h=>nomatch h|.bl _,.int _,h=>nomatch h|.bl _,.str _,h=>nomatch h|.bl _,.tup _,h=>nomatch h|.bl _,.ref _,h=>nomatch h
 |.int _,.non,h=>nomatch h|.int _,.bl _,h=>nomatch h|.int _,.str _,h=>nomatch h|.int _,.tup _,h=>nomatch h|.int _,.ref _,h=>nomatch h
 |.str _,.non,h=>nomatch h|.str _,.bl _,h=>nomatch h|.str _,.int _,h=>nomatch h|.str _,.tup _,h=>nomatch h|.str _,.ref _,h=>nomatch h
 |.tup _,.non,h=>nomatch h|.tup _,.bl _,h=>nomatch h|.tup _,.int _,h=>nomatch h|.tup _,.str _,h=>nomatch h|.tup _,.ref _,h=>nomatch h
 |.ref _,.non,h=>nomatch h|.ref _,.bl _,h=>nomatch h|.ref _,.int _,h=>nomatch h|.ref _,.str _,h=>nomatch h|.ref _,.tup _,h=>nomatch h|.ref _,.ref _,h=>nomatch h
theorem O2:∀{a b:List W},KG a b=true->a=b
 |[],[],_=>rfl|a::as,b::bs,h=>by
  have h':(a.beq b&&KG as bs)=true:=h;rw[aw]at h';rw[W.eq_of h'.1,O2 h'.2]
 |[],_::_,h=>nomatch h
 |_::_,[],h=>nomatch h
end
section
variable {K:Frag}
def FD (K:Frag)(x:Str)(st:Stmt):Prop:=∃f fd,wL K x x st f fd/\nsIn K mainGlobals x=some (some (.ref f))
def zcy {st:Stmt}{b:Value}{o an:cw}{kV doc pm C ct:Value}(a:nsIn K mainGlobals x=some (some (.ref f)))
  (l:K.lookup f=some ⟨b,o,.func (fnOf x x (Qm st) (wz st) (qo st) .none kV doc pm an C ct),osl⟩)(c:codeIn K C x=true)(k:keepIn K (.ref f)=true):FD K x st:=⟨f,_,dW l c k,a⟩
def CD (K:Frag)(x:Str)(i:Int):Prop:=∃t,nsIn K mainGlobals x=some (some (.int i t))
def zcv {i:Int}{t:Tok}(a:nsIn K mainGlobals x=some (some (.int i t))):CD K x i:=⟨t,a⟩
end
open PySem PySem.Spec PyProof.Rows L2 Mi
@[irreducible] noncomputable def zA (X:Cx)(x:XR)(e:Expr)(m:Ev):Prop:=Mi.SE X x e m
def Ge:@zA=@Mi.SE:=by
 funext X xr e m
 unfold zA
 rfl
@[irreducible] noncomputable def wM (X:Cx)(x:XR)(e:cg)(m:Ea):Prop:=Mi.SA X x e m
def Uc:@wM=@Mi.SA:=by
 funext X xr es m
 unfold wM
 rfl
@[irreducible] noncomputable def yI (X:Cx)(x:XR)(e:Expr)(m:Ev):Prop:=Mi.ST X x e m
def VX:@yI=@Mi.ST:=by
 funext X xr e m
 unfold yI
 rfl
@[irreducible] noncomputable def gv (X:Cx)(x:XR)(e:Expr)(m:Ev):Prop:=Mi.SW X x e m
def VM:@gv=@Mi.SW:=by
 funext X xr e m
 unfold gv
 rfl
@[irreducible] noncomputable def ki (X:Cx)(x:XR)(st:Stmt)(m:Ex):Prop:=Mi.SS X x st m
def Ub:@ki=@Mi.SS:=by
 funext X xr st m
 unfold ki
 rfl
@[irreducible] noncomputable def kJ (X:Cx)(x:XR)(st:cx)(m:Ex):Prop:=Mi.KZ X x st m
def VI:@kJ=@Mi.KZ:=by
 funext X xr st m
 unfold kJ
 rfl
@[irreducible] noncomputable def kL (X:Cx)(x:XR)(t e:Expr)(m:Ei):Prop:=Mi.SI X x t e m
def V9:@kL=@Mi.SI:=by
 funext X xr tg e m
 unfold kL
 rfl
@[irreducible] noncomputable def wI (X:Cx)(t:Expr)(m:Tg):Prop:=Mi.SG X t m
def V2:@wI=@Mi.SG:=by
 funext X tg m
 unfold wI
 rfl
@[irreducible] noncomputable def Z3 (X:Cx)(x:XR)(e:Expr)(m:j5):Prop:=Mi.SF X x e m
def VZ:@Z3=@Mi.SF:=by
 funext X xr e m
 unfold Z3
 rfl
@[irreducible] noncomputable def gA (X:Cx)(x:XR)(e:Expr)(m:j5):Prop:=Mi.SQ X x e m
def V4:@gA=@Mi.SQ:=by
 funext X xr e m
 unfold gA
 rfl
@[irreducible] noncomputable def gI (X:Cx)(e:cg)(m:Ev):Prop:=Mi.KR X e m
def VG:@gI=@Mi.KR:=by
 funext X es m
 unfold gI
 rfl
@[irreducible] noncomputable def gz (X:Cx)(elt:Expr)(gens:List Comprehension)(sc:Scope)(c:Pos)(d:Nat)(em:Em):Prop:=Mi.SM X elt gens sc c d em
def VR:@gz=@Mi.SM:=by
 funext X elt gens sc cpos d em
 unfold gz
 rfl
section
variable {xr:XR}{K:Frag}{a b c:Expr}{es:cg}{m ma mb mc:Ev}{m1 m2:Ex}{st:Stmt}{rest:cx}
def zY:@zA=@Mi.SE/\@wM=@Mi.SA/\@yI=@Mi.ST/\@gv=@Mi.SW/\@ki=@Mi.SS/\@kJ=@Mi.KZ/\@kL=@Mi.SI/\@wI=@Mi.SG/\@Z3=@Mi.SF/\@gA=@Mi.SQ/\@gI=@Mi.KR/\@gz=@Mi.SM:=⟨Ge,Uc,VX,VM,Ub,VI,V9,V2,VZ,V4,VG,VR⟩
def zl {M:Ea}(d:zA X xr e ma)(r:wM X xr es M)(s:starEach (e::es) X.env=(false,eval e X.env)::starEach es X.env:=by rfl):wM X xr (e::es) (zc ma M):=by
 try simp only[zY]at*
 exact PA.imp (jk d r s) λσ H Q ⟨φ,A,ρ,S,re,h⟩=>by
   refine tM.go S re (zZ.mp h) λw A1 b H1 v g l j c=>?_;refine G0.go j (re.mono l) (qp (zZ.mp g) (λ_ _ z=>z) λ_ _ z=>z.mono l) λo A2 a n v2 f L i q=>?_;exact f a n _ (l.trans L) i (.cons (c.mono L) q)
def zx:wM X xr [] zj:=by
 try simp only[zY]at*
 exact PA.imp jZ λσ H Q ⟨φ,A,ρ,S,re,h⟩=>h φ H [] .refl S .nil
def jN (H:zA X xr a ma)(h:zA X xr b mb):zA X xr (.BinOp a .Add b pos) (zi qB ma mb):=by
 try simp only[zY]at*
 exact Q4 (AN.or (CH.or (DQ.or dS))) Ar BW H h
def Y3 {q:j5}(H:X.calm=true)(hm:X.mg "all"=none)(a:gA X xr e q)(h:Gl X "all":=by rfl)(he:starEach [e] X.env=(false,eval e X.env)::starEach [] X.env:=by rfl):
  zA X xr (.Call (.Name "all" p) [e] [] pos) (mQ Jk q):=by
 try simp only[zY]at*
 exact Uo (Cs H) eB BV hm (by rfl) a h (by decide) (by decide) he (by rfl)
def JW {rest:cg}(f:zA X xr a ma)(e:zA X xr (.BoolOp .And (b::rest) pos) mb):zA X xr (.BoolOp .And (a::b::rest) pos) (ku ma mb):=by
 try simp only[zY]at*
 exact PE.imp (AW f e) λσ H Q ⟨φ,A,ρ,S,re,h⟩=>by
   refine tM.go S re (zZ.mp h) λw A1 d H1 v c l s q=>?_;cases w with
   |bl k=>
    refine⟨k,q,?_⟩;cases k with
    |true=>rw[ag rfl];exact⟨d,A1,ρ,s,re.mono l,qp c (λ_ _ z=>z.mono l) λ_ _ z=>z.mono l⟩|false=>rw[aj az];exact c d H1 _ l s rfl
   |non=>cases c|int _=>cases c|str _=>cases c|tup _=>cases c|ref _=>cases c|clo _ _ _=>cases c|xc _=>cases c
def k9 {i j}:zA X xr (.Constant (.bool i) j pos) (qc (.bl i)):=by
 try simp only[zY]at*
 exact PE.imp cN λσ H Q ⟨φ,A,ρ,S,r,h⟩=>h φ H _ .refl S rfl
def gH {g:W->W->Hx->R W}(h:wC X op g)(c:zA X xr a ma)(H:zA X xr b mb)(e:op≠.In:=by decide)(d:op≠.NotIn:=by decide):zA X xr (.Compare a [op] [b] pos) (zi g ma mb):=by
 try simp only[zY]at*
 exact let ⟨r,a1,a2,A⟩:=h.ex;O0 a1 a2 A c H (h.mks b e d)
def fb {o:CmpOp}{g g':W->W->Hx->R W}(h:wC X op g)(h':wC X o g')(e:zA X xr a ma)(d:zA X xr b mb)(H:zA X xr c mc)(hm:lastMarks [op,o] [b,c]=false:=by with_unfolding_all rfl):
  zA X xr (.Compare a [op,o] [b,c] pos) (wa g g' ma mb mc):=by
 try simp only[zY]at*
 exact let ⟨r,a1,a2,A⟩:=h.ex;let ⟨j,i,f,B⟩:=h'.ex;Dd a1 a2 A i f B e d H hm
def qz {k:Nat}{f:Fn}{M:Ea}(F:zN X.prog X.w X.K X.mg X.base k x n f)(r:jq k X.A)(s:wM X yQ (e::es) M)(g:Zq M n:=by repeat' (first|exact zF|refine zp ?_))(j:Gl X x:=by rfl)
  (c:(x==("__debug__":Str))=false:=by decide)(he:starEach (e::es) X.env=(false,eval e X.env)::starEach es X.env:=by rfl)(l:(backTo pos (starEach es X.env)).any (·.1)=false:=by rfl):
  zA X yQ (.Call (.Name x p) (e::es) [] pos) (zH f M):=by
 try simp only[zY]at*
 obtain⟨B,fd,ps,F,hm,i,o⟩:=F;refine PE.imp (OT F r j hm i o .nil dV s c he l) λσ H Q ⟨φ,A,ρ,S,re,h⟩=>?_;have h':=zZ.mp h;refine⟨φ,A,ρ,S,re,?_⟩;cases E:M ρ A with
 |ok ws A1=>
  rw[E]at h';intro b H1 vs L u q;have v:vs.length=n:=by rw[<- q.length];exact g ρ A ws A1 E
  rw[bH];exact⟨v,b,A1,ws,u,q,qp h' (λ_ _ z=>z.mono L) λx A2 z a y d t=>(z a y (L.trans d) t).elim⟩
 |exc x A1=>rw[E]at h';exact h'|bad=>rw[E]at h';exact h'
def fc {g:W->W->Hx->R W}(h:GN X op g)(c:zA X xr a ma)(H:zA X xr b mb)(hm:behindInMarks op b=false:=by rfl):zA X xr (.Compare a [op] [b] pos) (zi g ma mb):=by
 try simp only[zY]at*
 exact let ⟨r,a1,a2,A⟩:=h.ex;O0 a1 a2 A c H hm
def OX:zA X xr (.Dict [] [] pos) Kv:=by
 try simp only[zY]at*
 exact PE.imp Dj λσ H Q ⟨φ,A,ρ,S,re,h⟩ p a=>by
  obtain⟨l,s⟩:=S.alloc (o:=.dct []) a (u:=.dK []) ⟨[],jD,rfl,.nil⟩;exact h _ _ _ l s ⟨p,rfl,by rw[<- S.len];simp⟩
def FX {k:Nat}(x:jq k X.A)(B:zA X xr a ma)(y:zA X xr b mb)(u:UN b:=by intro _ _;rfl):zA X xr (.Subscript a b pos) (zi Kr ma mb):=by
 try simp only[zY]at*
 exact PE.imp (C0 (Ny x) B y u) λσ H Q ⟨φ,A,ρ,S,re,h⟩=>by
   refine tM.go S re (zZ.mp h) λw A1 f H1 v C l D j=>?_;refine tM.go D (re.mono l) (qp (zZ.mp C) (λ_ _ z=>z) λ_ _ z=>z.mono l) λg A2 d I v2 c L s q=>?_;unfold Kr at c;cases w with
   |ref n=>
    cases g with
    |int i=>
     obtain rfl:=q;dsimp only[QD]at c;cases e:A2[n]? with
     |none=>rw[e]at c;exact c.elim|some o=>cases o with
      |dct kvs=>
       rw[e]at c;dsimp only at c;obtain⟨p,us,rfl,f1,g1,g2,g3⟩:=s.dct (j.mono L) e;cases E:kz (.inl i) kvs with
       |none=>rw[E]at c;exact c.elim|some w=>
        rw[E]at c;obtain⟨v,t,r⟩:=(X3 (.inl i) g2 g3).1 w E;refine⟨p,v,rfl,?_,c d I v (l.trans L) s r⟩;rw[<- t];exact Ym.k (k:=.inl i) g1
      |_=>rw[e]at c;exact c.elim
    |_=>exact c.elim
   |_=>exact c.elim
def P9 {i:Int}{t:Tok}(g:Gl X x)(hm:X.mg x=some (.int i t))(hd:(x==("__debug__":Str))=false:=by decide):zA X xr (.Name x pos) (qc (.int i)):=by
 try simp only[zY]at*
 exact PE.imp (BH g hm (v:=.int i) ⟨t,rfl⟩ hd) λσ H Q ⟨φ,A,ρ,S,r,h⟩=>h φ H _ .refl S rfl
def Np {c:Expr}(f:yI X xr c mc)(i:zA X xr a ma)(g:zA X xr b mb):zA X xr (.IfExp c a b pos) (U4 mc ma mb):=by
 try simp only[zY]at*
 exact PE.imp (Cm f i g) λσ H Q ⟨φ,A,ρ,S,re,h⟩=>by
   refine tT.go S re (zZ.mp h) λw A1 d=>?_;cases w with
   |bl k=>
    refine⟨k,rfl,λe H1 l s=>?_⟩;cases k with
    |true=>rw[ag rfl];exact⟨e,A1,ρ,s,re.mono l,qp d (λ_ _ z=>z.mono l) λ_ _ z=>z.mono l⟩|false=>rw[aj az];exact⟨e,A1,ρ,s,re.mono l,qp d (λ_ _ z=>z.mono l) λ_ _ z=>z.mono l⟩
   |non=>cases d|int _=>cases d|str _=>cases d|tup _=>cases d|ref _=>cases d|clo _ _ _=>cases d|xc _=>cases d
def zt {i j}:zA X xr (.Constant (.int i) j pos) (qc (.int i)):=by
 try simp only[zY]at*
 exact PE.imp As λσ H Q ⟨φ,A,ρ,S,r,h⟩=>h φ H _ .refl S rfl
def Zh (t:Ty){P:Pos}(hm:X.mg "isinstance"=none)(c:X.mg x=none)(f:bootBuiltins x=some (.type t.nm))(i:zA X xr e m)(g:Gl X "isinstance":=by rfl)(d:Gl X x:=by rfl)
  (hn:x ≠ "__name__":=by decide)(hd:(x==("__debug__":Str))=false:=by decide)
  (a:starEach [e,.Name x P] X.env=(false,eval e X.env)::starEach [.Name x P] X.env:=by rfl)(j:(backTo pos (starEach [.Name x P] X.env)).any (·.1)=false:=by rfl):
  zA X xr (.Call (.Name "isinstance" p) [e,.Name x P] [] pos) (kM t m):=by
 try simp only[zY]at*
 exact PE.imp (ZK C8 g hm (by rfl) (jk i (jk (W3 d c f (v:=.ty t.nm) rfl hn hd) jZ) a) (by decide) (by decide) a j) λσ H Q ⟨φ,A,ρ,S,re,h⟩=>by
   refine tM.go S re (zZ.mp h) λw A1 b H1 v a l s q=>?_;cases E:yk w A1 with
   |none=>rw[E]at a;exact a.elim|some t'=>
    rw[E]at a;exact⟨v,t',t,rfl,PN s q E,a b H1 _ l s rfl⟩
def qC (c:zA X xr a ma)(H:zA X xr b mb)(h:OJ b:=by intro _ _;rfl):zA X xr (.Subscript a b pos) (zi zD ma mb):=by
 try simp only[zY]at*
 exact PE.imp (dJ dO c H h) (zi.read ew ez)
def kj {q:j5}(hm:X.mg "len"=none)(H:gA X xr e q)(h:Gl X "len":=by rfl)(he:starEach [e] X.env=(false,eval e X.env)::starEach [] X.env:=by rfl):
  zA X xr (.Call (.Name "len" p) [e] [] pos) (mQ qE q):=by
 try simp only[zY]at*
 exact Uo Ir (λ_ _=>jQ) Bn hm (by rfl) H h (by decide) (by decide) he (by rfl)
def yo {q:j5}(h:Z3 X xr e q):zA X xr e (qt q):=by
 try simp only[zY]at*
 exact PE.imp h qt.read
def HH {P pos':Pos}(u:X.calm=true)(hm:X.mg "list"=none)(f:X.mg "range"=none)(x:zA X xr a ma)(t:Gl X "list":=by rfl)(g:Gl X "range":=by rfl)(s:starEach [a] X.env=[(false,eval a X.env)]:=by rfl)
  (d:starEach [.Call (.Name "range" P) [a] [] pos'] X.env=(false,eval (.Call (.Name "range" P) [a] [] pos') X.env)::starEach [] X.env:=by rfl):
  zA X xr (.Call (.Name "list" p) [.Call (.Name "range" P) [a] [] pos'] [] pos) (Y9 ma):=by
 try simp only[zY]at*
 exact PE.imp (JL (Fs u) t hm (by rfl) (jk (Ae g f (jk x jZ (by rw[s];rfl)) s) jZ d) (by decide) (by decide) d (by rfl)) λσ H Q ⟨φ,A,ρ,S,re,h⟩=>by
   refine tM.go S re (zZ.mp h) λw A1 b H1 v c L C q=>?_;cases w with
   |int j=>
    obtain rfl:=q;dsimp only at c
    by_cases e:(jI j&&decide (j.toNat<=qa))=true
    ·rw[ag e]at c
     rw[aw,ak]at e;refine⟨j,rfl,λp n=>⟨p,j,rfl,jD,Qh e.1,ZI e.2,λl o=>?_⟩⟩;have ln:Le X.K b H1 b (upd H1 p (.rng 0 j)):=Le.new n;have r:zy X.K b (upd H1 p (.rng 0 j)) ((List.range j.toNat).map λ(i:Nat)=>W.int i) (Jt j.toNat):=by
      have:=(zy.ints (K:=X.K) (φ:=b) (H:=upd H1 p (.rng 0 j)) (ns:=(List.range j.toNat).map λ(i:Nat)=>(i:Int)) (vs:=Jt j.toNat)).mpr (by unfold Jt;simp)
      rw[aO]at this;exact this
     obtain⟨z,y,B⟩:=Zd (C.lay n) o r;exact c _ _ _ ((L.trans ln).trans z) y B
    ·rw[aj e]at c;exact c.elim
   |_=>exact c.elim
def qT {M:Ea}(h:wM X xr es M)(H:Zq M n)(hn:n<=qa:=by decide):zA X xr (.List es pos) (qb M):=by
 try simp only[zY]at*
 exact ed h λρ A ws a e=>by rw[H ρ A ws a e];exact ZI hn
def Qj {q:j5}(H:X.calm=true)(hm:X.mg "max"=none)(a:gA X xr e q)(h:Gl X "max":=by rfl)(he:starEach [e] X.env=(false,eval e X.env)::starEach [] X.env:=by rfl):
  zA X xr (.Call (.Name "max" p) [e] [] pos) (mQ yh q):=by
 try simp only[zY]at*
 exact Uo (Es H) AK Bk hm (by rfl) a h (by decide) (by decide) he (by rfl)
def WI (e:X.calm=true)(hm:X.mg "min"=none)(o:zA X xr a ma)(n:zA X xr b mb)(l:Gl X "min":=by rfl)(s:starEach [a,b] X.env=(false,eval a X.env)::starEach [b] X.env:=by rfl)(r:starEach [b] X.env=(false,eval b X.env)::starEach [] X.env:=by rfl)(h:(backTo pos (starEach [b] X.env)).any (·.1)=false:=by rfl):
  zA X xr (.Call (.Name "min" p) [a,b] [] pos) (zi ZQ ma mb):=by
 try simp only[zY]at*
 exact UC (FV e) QA (λφ A H x y u v Q S d c p=>by
   obtain⟨i,j,t,E,q⟩:=Qq (K:=X.K) (f:=λi j=>.int (if j<i then j else i)) (g:=λi j=>.int (if j<i then j else i)) (λ_ _ _ _=>rfl) φ A H x y u v Q S d c p;subst t;subst E;exact⟨i,j,rfl,q⟩) hm (by rfl) o n l (by decide) (by decide) s r h
def Qk (H:zA X xr a ma)(h:zA X xr b mb):zA X xr (.BinOp a .Mod b pos) (zi wc ma mb):=by
 try simp only[zY]at*
 exact Q4 dq Uz (VP C7 λ_ _ _ _=>rfl) H h
def kZ (H:zA X xr a ma)(h:zA X xr b mb):zA X xr (.BinOp a .Mult b pos) (zi je ma mb):=by
 try simp only[zY]at*
 exact Q4 (dm.or dU) eG An H h
def Ol (h:zA X xr a ma):zA X xr (.UnaryOp .USub a pos) (jR Yg ma):=by
 try simp only[zY]at*
 exact d9 dv (λx A=>by unfold Yg;split;exact jQ;exact qP) (λφ A H x u Q S q p=>by
  cases u with
  |int i=>obtain rfl:=q;exact⟨i,rfl,p φ H _ .refl S rfl⟩|_=>exact p.elim) h
def JZ {j}:zA X xr (.Constant .none j pos) (qc .non):=by
 try simp only[zY]at*
 exact PE.imp Aq λσ H Q ⟨φ,A,ρ,S,r,h⟩=>h φ H _ .refl S rfl
def CF (d:zA X xr a ma):zA X xr (.UnaryOp .Not a pos) (wG ma):=by
 try simp only[zY]at*
 exact PE.imp (cU d) λσ H Q ⟨φ,A,ρ,S,re,h⟩=>by
   refine tM.go S re (zZ.mp h) λw A1 c H1 v b l s q=>?_;cases w with
   |bl k=>exact⟨k,q,b c H1 _ l s rfl⟩|non=>cases b|int _=>cases b|str _=>cases b|tup _=>cases b|ref _=>cases b|clo _ _ _=>cases b|xc _=>cases b
def Y1 {op}(h:zA X xr a ma):zA X xr (.BoolOp op [a] pos) ma:=by
 try simp only[zY]at*
 exact AJ h
def HI {apos:Pos}(ho:zA X xr a ma)(he:zA X xr b mb)(hf:zA X xr c mc)(q:starEach [b,c] X.env=(false,eval b X.env)::starEach [c] X.env:=by rfl)(P:starEach [c] X.env=(false,eval c X.env)::starEach [] X.env:=by rfl)
  (j:attributeBase a "setdefault" X.env (eval a X.env)=eval a X.env:=by rfl)
  (s:((backTo cpos (starEach [b,c] X.env)).all (λx=>!x.1)&&(backToKw cpos (keywordEach [] X.env)).all (λx=>x.1.isSome)
   && decide ([b,c].length+([]:cu).length+(if ([]:cu).isEmpty then 0 else 1)<30))=true:=by rfl)(g:(apos.endLine==cpos.line)=true:=by rfl)(N:(backTo cpos (starEach [c] X.env)).any (·.1)=false:=by rfl):
  zA X xr (.Call (.Attribute a "setdefault" apos) [b,c] [] cpos) (J4 ZL ma mb mc):=by
 try simp only[zY]at*
 exact PE.imp (NK PySem.F.plainAttrs_dict PySem.F.slot_dict_setdefault PySem.F.type_dict_setdefault Ee ho (jk he (jk hf jZ P) q) j s g q N) λσ H Q ⟨φ,A,ρ,S,re,h⟩=>by
   refine tM.go S re (zZ.mp h) λw A1 φ1 H1 v q I S1 q1=>?_
   by_cases hd:G1 w A1=true
   ·rw[ag hd]at q
    refine⟨D5 S1 q1 hd,?_⟩;refine tM.go S1 (re.mono I) (qp (zZ.mp q) (λ_ _ z=>z) λ_ _ z=>z.mono I) λy A2 φ2 H2 v2 P l2 S2 q2=>?_;have l:=I.trans l2;refine tM.go S2 (re.mono l) (qp (zZ.mp P) (λ_ _ z=>z) λ_ _ z=>z.mono l) λw3 A3 f U r d l3 T q3=>?_;have L:=l.trans l3;unfold ZL at d;cases w with
    |ref n=>cases y with
     |int i=>
      obtain rfl:=q2;dsimp only[QD]at d;cases t:A3[n]? with
      |none=>rw[t]at d;exact d.elim|some o=>cases o with
       |dct kvs=>
        rw[t]at d;dsimp only at d;obtain⟨p,us,rfl,f1,g1,g2,g3⟩:=T.dct ((q1.mono l2).mono l3) t;have hlen:us.length=kvs.length:=by have:=congrArg List.length g2;simpa using this
        by_cases J:kvs.length<qa
        ·rw[ag J]at d
         have D:=X3 (.inl i) g2 g3;refine⟨p,us,.inl i,r,rfl,rfl,g1,?_,λv' M=>?_,λhn=>?_⟩
         ·rw[hlen]
          have:sizeLine=16777216:=sizeLine_eq
          unfold qa at J;omega
         ·cases E:kz (.inl i) kvs with
          |none=>rw[D.2 E]at M;cases M|some B=>
           rw[E]at d;obtain⟨C,e,Z⟩:=D.1 B E;rw[M]at e;cases e;exact d f U _ L T Z
         ·cases E:kz (.inl i) kvs with
          |some B=>obtain⟨C,e,Z⟩:=D.1 B E;rw[hn]at e;cases e|none=>
           rw[E]at d;dsimp only at d;rw[DM r hn];have ln:Le X.K f U f (upd U p (.dK (us++[(.inl i,r)]))):=Le.upd f1 (λxs z=>by rw[g1]at z;cases z) (λ_ _ z=>by rw[g1]at z;cases z)
           obtain⟨Y,y⟩:=T.write (o:=.dct kvs) (o':=.dct (kvs++[(.inl i,w3)])) t rfl rfl f1 (u:=.dK (us++[(.inl i,r)])) ⟨us++[(.inl i,r)],jD,by simp[g2],by
            rw[aX,aX];exact(g3.mono ln).append (.one (q3.mono ln))⟩
           exact d _ _ _ (L.trans Y) y (q3.mono Y)
        ·rw[aj J]at d;exact d.elim
       |_=>rw[t]at d;exact d.elim
     |_=>exact d.elim
    |_=>exact d.elim
   ·rw[aj hd]at q;exact q.elim
def ZM (H:zA X xr a ma)(h:zA X xr b mb):zA X xr (.BinOp a .Sub b pos) (zi kq ma mb):=by
 try simp only[zY]at*
 exact Q4 dk QA (Qq λ_ _ _ _=>rfl) H h
def qk {x1}{M:Ea}(h:wM X xr es M)(d:Zq M n)(hn:n<=qa:=by decide):zA X xr (.Tuple es x1 pos) (zE M):=by
 try simp only[zY]at*
 exact PE.imp (Nk h) λσ H Q ⟨φ,A,ρ,S,re,h⟩=>by
   have h':=zZ.mp h;cases e:M ρ A with
   |ok ws a=>
    rw[e]at h';refine⟨φ,A,ρ,S,re,?_⟩;rw[e];intro b H1 vs l s q;refine⟨by rw[<- q.length,d ρ A ws a e];exact ZI hn,λp c=>?_⟩
    obtain⟨a1,a2,f⟩:=Q8 s c q;exact h' _ _ _ (l.trans a1) a2 f
   |exc x a=>rw[e]at h';refine⟨φ,A,ρ,S,re,?_⟩;rw[e];exact h'|bad=>rw[e]at h';exact h'.elim
def kE {q:j5}(hm:X.mg "tuple"=none)(H:gA X xr e q)(h:Gl X "tuple":=by rfl)(he:starEach [e] X.env=(false,eval e X.env)::starEach [] X.env:=by rfl):
  zA X xr (.Call (.Name "tuple" p) [e] [] pos) (mQ jm q):=by
 try simp only[zY]at*
 exact eA Ih (λ_ _=>jQ) C4 hm (by rfl) H h (by decide) (by decide) he (by rfl)
def zh (i:Nat)(b:X.N[i]? =some x:=by rfl)(a:Xa X.env.scope x:=by first|exact Or.inl rfl|exact Or.inr (Or.inl rfl)|exact Or.inr (Or.inr rfl))(hd:(x==("__debug__":Str))=false:=by decide)
  (d:(x==("__classdict__":Str))=false:=by decide):zA X xr (.Name x pos) (qi i):=by
 try simp only[zY]at*
 exact PE.imp (AQ b a hd d) λσ H Q ⟨φ,A,ρ,S,r,h⟩=>by
  unfold qi at h;cases e:ρ[i]? with
  |none=>rw[e]at h;cases h|some o=>cases o with
   |none=>rw[e]at h;cases h|some w=>
    rw[e]at h;obtain⟨v,f,c⟩:=r.get i w e;exact⟨v,f,h φ H v .refl S c⟩
def DO {iter:Expr}{mi:Ei}{tw:Tg}{M:Ev}{em:Em}(nl:Nat)(cap:b9)(c:X.calm=true)(S:Zb X sc)(p:QB X.N N sc nl cap=true)(hw:kL X xr tg iter mi)
  (n:∀s H fp,wI (jX X N sc s H fp yZ) tg tw/\gI (jX X N sc s H fp yZ) ifs M/\gz (jX X N sc s H fp yZ) elt (⟨tg,iter,ifs,0⟩::gs) sc pos 0 em)
  (b:∀g',gs[0]? =some g'->g'.is_async=0:=by intro _ h;cases h<;>rfl)
  (a:∀x,foldedSetIterable iter X.env x=pure x:=by intro _;rfl):Z3 X xr (.ListComp elt (⟨tg,iter,ifs,0⟩::gs) sc pos) (zM nl cap mi tw M em):=by
 try simp only[zY]at*
 exact PE.imp (BI (g:=tG X.K tw) (ti:=tT X.K yQ M) (tm:=tE X.K em) c S p b hw n a) zM.read
def gf (i j:Nat){y:Str}{q:Pos}{k:Nat}(o:X.calm=true)(h:X.N.Nodup)(l:X.N[i]? =some x:=by rfl)(f:Loc X.env.scope x:=by first|exact Or.inl rfl|exact Or.inr rfl)(hf:X.fn x=true∨X.env.scope.names.lookup x=some .local:=by first|exact .inl rfl|exact .inr rfl)
  (g:X.N[j]? =some y:=by rfl)(d:Loc X.env.scope y:=by first|exact Or.inl rfl|exact Or.inr rfl)(n:X.fn y=true∨X.env.scope.names.lookup y=some .local:=by first|exact .inl rfl|exact .inr rfl):wI X (.Tuple [.Name x p,.Name y q] k pos) (jo i j):=by
 try simp only[zY]at*
 exact PG.imp (V7 o (JP (JT h l f hf) (JP (JT h g d n) Vu))) λv σ H Q ⟨φ,A,ρ,w,b,S,re,c,e,kk⟩=>by
   unfold jo at e
   split at e
   ·rename_i x1 Y
    have E:=aA e;subst E;obtain⟨a,vs,rfl,s,rs⟩:=c;obtain⟨v1,z,rfl,t,v2,u,rfl,r,rfl⟩:=rs;exact⟨a,[v1,v2],rfl,s,rfl,v1,[v2],rfl,v2,[],rfl,rfl,kk _ ((re.set t).set r)⟩
   ·cases e
def EN (i j k:Nat){y z:Str}{q r pp:Pos}{s:Nat}(f:X.calm=true)(c:X.N.Nodup)(I:X.N[i]? =some x:=by rfl)(B:Loc X.env.scope x:=by first|exact Or.inl rfl|exact Or.inr rfl)(hf:X.fn x=true∨X.env.scope.names.lookup x=some .local:=by first|exact .inl rfl|exact .inr rfl)
  (E:X.N[j]? =some y:=by rfl)(u:Loc X.env.scope y:=by first|exact Or.inl rfl|exact Or.inr rfl)(K:X.fn y=true∨X.env.scope.names.lookup y=some .local:=by first|exact .inl rfl|exact .inr rfl)
  (D:X.N[k]? =some z:=by rfl)(t:Loc X.env.scope z:=by first|exact Or.inl rfl|exact Or.inr rfl)(J:X.fn z=true∨X.env.scope.names.lookup z=some .local:=by first|exact .inl rfl|exact .inr rfl):
  wI X (.Tuple [.Name x p,.Tuple [.Name y q,.Name z r] s pp] n pos) (J6 i j k):=by
 try simp only[zY]at*
 exact PG.imp (V7 f (JP (JT c I B hf) (JP (V7 f (JP (JT c E u K) (JP (JT c D t J) Vu))) Vu))) λv σ H Q ⟨φ,A,ρ,w,g,S,re,o,e,kk⟩=>by
   unfold J6 at e
   split at e
   ·rename_i x1 Y Z
    have U:=aA e;subst U;obtain⟨a,vs,rfl,C,rs⟩:=o;obtain⟨v1,r1,rfl,T,v2,r2,rfl,P,rfl⟩:=rs;obtain⟨a2,l,rfl,h,b⟩:=P;obtain⟨d,r3,rfl,M,v4,r4,rfl,L,rfl⟩:=b;exact⟨a,[v1,.ref a2],rfl,C,rfl,v1,[.ref a2],rfl,.ref a2,[],rfl,a2,[d,v4],rfl,h,rfl,d,[v4],rfl,v4,[],rfl,rfl,rfl,kk _ (((re.set T).set M).set L)⟩
   ·cases e
def qf (i:Nat)(c:X.N.Nodup)(b:X.N[i]? =some x:=by rfl)(h:Loc X.env.scope x:=by first|exact Or.inl rfl|exact Or.inr rfl)(hf:X.fn x=true∨X.env.scope.names.lookup x=some .local:=by first|exact .inl rfl|exact .inr rfl):wI X (.Name x pos) (zC i):=by
 try simp only[zY]at*
 exact PG.imp (JT c b h hf) λv σ H Q ⟨φ,A,ρ,w,a,S,re,q,e,k⟩=>by
   have E:ρ.set i (some w)=a:=aA e;subst E;exact k _ (re.set q)
def jl (h:zA X xr e m):kL X xr tg e (qd m):=by
 try simp only[zY]at*
 exact PI.imp (eh h) λσ H Rr ⟨φ,A,ρ,S,re,h⟩=>by
  refine tM.go S re (zZ.mp h) λw A1 g H1 v d T P Q=>?_;unfold GS at d;cases e:zP w A1 with
  |none=>rw[e]at d;exact d.elim|some ws=>
   rw[e]at d;dsimp only at d;cases w with
   |tup us=>
    obtain⟨a,ys,rfl,j,t⟩:=Q;refine⟨a,rfl,.inr ⟨⟨ys,j⟩,d g H1 _ T P λi c l f lw s=>⟨λC b=>?_,λb=>?_⟩⟩⟩
    ·have E:us[i]? =some C:=aA b
     obtain⟨y,p,I⟩:=(t.monoW lw).get E;refine⟨⟨ys,y,lw.tp _ _ j,p⟩,λx H3 B=>?_⟩;obtain⟨N,M⟩:=B;subst N;have q:=M ys (lw.tp _ _ j);rw[p]at q;cases q;exact⟨.refl,s,I⟩
    ·have E:us[i]? =none:=aA b
     refine⟨ys,lw.tp _ _ j,?_⟩;rw[<- t.length];exact List.getElem?_eq_none_iff.mp E
   |ref n=>
    obtain⟨a,rfl,j⟩:=Q;have read:∀{c l f us},Z5 X.K g H1 c l->zI X.K c f l->zP (.ref n) f=some us->∃ys,qW X.K l a ys/\zy X.K c l us ys:=λ {c l f us} lw s es=>by
     obtain⟨Z,ys,U,z,r⟩:=Wu (w:=.ref n) (v:=.ref a) s ⟨a,rfl,lw.ex _ _ j⟩ es;cases U;unfold zP at es;dsimp only at es;cases L:f[n]? with
     |none=>rw[L]at es;cases es|some o=>
      rw[L]at es;obtain⟨Z,t,r⟩:=s.ob n o L;rw[lw.ex _ _ j]at t;cases t;cases o with
      |lst xs=>cases es;obtain⟨ys,d,J⟩:=r;exact⟨ys,qW.of d,J⟩|ro xs=>cases es;obtain⟨ys,d,J⟩:=r;exact⟨ys,d.sq,J⟩|dct xs=>cases es|td _=>cases es|tr _=>cases es|tab _ _=>cases es
    obtain⟨Y,D,_⟩:=read ⟨λ_ _ h=>h,λ_ _ h=>h,λ_ _ _ h=>h⟩ P e;refine⟨a,rfl,.inl ⟨⟨Y,D⟩,d g H1 _ T P λi c l f lw s=>⟨λC b=>?_,λb=>?_⟩⟩⟩
    ·dsimp only at b
     cases es:zP (.ref n) f with
     |none=>rw[es]at b;cases b|some us=>
      rw[es]at b;have E:us[i]? =some C:=aA b;obtain⟨ys,u,r⟩:=read lw s es;obtain⟨y,p,I⟩:=r.get E;refine⟨⟨ys,y,u,p⟩,λx H3 B=>?_⟩;obtain⟨N,M⟩:=B;subst N;have q:=M ys u;rw[p]at q;cases q;exact⟨.refl,s,I⟩
    ·dsimp only at b
     cases es:zP (.ref n) f with
     |none=>rw[es]at b;cases b|some us=>
      rw[es]at b;have E:us[i]? =none:=aA b;obtain⟨ys,u,r⟩:=read lw s es;refine⟨ys,u,?_⟩;rw[<- r.length];exact List.getElem?_eq_none_iff.mp E
   |non=>cases e|bl _=>cases e|clo _ _ _=>cases e|xc _=>cases e|int _=>cases e|str _=>cases e
def QY (g:Gl X "enumerate")(hm:X.mg "enumerate"=none)(e:zA X xr a ma)(s:starEach [a] X.env=[(false,eval a X.env)]:=by rfl):kL X xr (.Tuple elts kk tpos) (.Call (.Name "enumerate" p) [a] [] pos) (kH ma):=by
 try simp only[zY]at*
 exact PI.imp (Be g hm (jk e jZ (by rw[s];rfl)) s) λσ H r ⟨φ,A,ρ,S,re,h⟩=>by
   refine tM.go S re (zZ.mp h) λw A1 c H1 v b l d q=>?_;cases es:zP w A1 with
   |none=>rw[es]at b;exact b.elim|some ws=>
    rw[es]at b;obtain⟨p,ys,rfl,z,Z⟩:=YZ d q es;exact⟨p,Qz w,ys,rfl,z,b c H1 _ l d (eU q)⟩
def FU {apos:Pos}(r:zA X xr a ma)(d:attributeBase a "items" X.env (eval a X.env)=eval a X.env:=by rfl)(e:(apos.endLine==cpos.line)=true:=by rfl):
  kL X xr (.Tuple elts kk tpos) (.Call (.Attribute a "items" apos) [] [] cpos) (Kd ma):=by
 try simp only[zY]at*
 exact PI.imp (D6 r d e) λσ H x ⟨φ,A,ρ,S,re,h⟩=>by
   unfold Kd at h;cases A with
   |cons o A=>exact h.elim|nil=>
    dsimp only at h;have i:φ=[]:=by have:=S.len;simpa using this
    subst i;refine tM.go S re (zZ.mp h) λw A1 j H1 v f l s q=>?_
    split at f
    ·rename_i kvs
     by_cases hn:qS (kvs.map (·.2))=true
     ·rw[ag hn]at f
      obtain⟨p,us,rfl,f1,g1,g2,g3⟩:=s.dct q (kvs:=kvs) rfl;have h0:H p=none:=by
       rcases l.nw 0 p f1 with z|z
       ·simp at z
       ·exact z
      refine⟨p,us,rfl,g1,λo=>?_⟩;have tp:∀c vs,qM X.K H1 c vs->qM X.K (upd H1 p (.frz o (.dK us))) c vs:=λc vs t=>WX t (λxs z=>by rw[g1]at z;cases z) (λ_ _ z=>by rw[g1]at z;cases z)
      have le:Le X.K [] H [] (upd H1 p (.frz o (.dK us))):=by
       refine⟨λn c z=>z,λc vs t=>tp c vs (l.tp c vs t),λc u b nn=>?_,λn c z=>.inl z,λc z=>?_,λc u U b=>?_⟩
       ·rw[qh (kD b h0)];exact l.fr c u b nn
       ·by_cases g:c=p
        ·rw[g];exact h0
        ·rw[qh g]at z;exact l.st c z
       ·rw[qh (kD b h0)];exact l.fz c u U b
      exact f [] _ _ le zI.none (e9 (o:=o) jD g2 (g3.nrm tp (λc u U b=>by rw[qh (Jh b g1 (by intro z;cases z))];exact b) hn) hn)
     ·rw[aj hn]at f;exact f.elim
    ·exact f.elim
def jF (g:Gl X "range")(hm:X.mg "range"=none)(e:zA X xr a ma)(s:starEach [a] X.env=[(false,eval a X.env)]:=by rfl):kL X xr tg (.Call (.Name "range" p) [a] [] pos) (qJ ma):=by
 try simp only[zY]at*
 exact PI.imp (Ek g hm (jk e jZ (by rw[s];rfl)) s) λσ H r ⟨φ,A,ρ,S,re,h⟩=>by
   refine tM.go S re (zZ.mp h) λw A1 c H1 v b l i q=>?_;cases w with
   |int j=>
    obtain rfl:=q;dsimp only at b
    by_cases d:jI j=true
    ·rw[ag d]at b
     obtain⟨f,B⟩:=Qh d;exact⟨j,rfl,f,B,b c H1 _ l i O7⟩
    ·rw[aj d]at b;exact b.elim
   |non=>exact b.elim|bl _=>exact b.elim|str _=>exact b.elim|tup _=>exact b.elim|ref _=>exact b.elim|clo _ _ _=>exact b.elim|xc _=>exact b.elim
def P8 (o:Gl X "range")(hm:X.mg "range"=none)(t:zA X xr a ma)(r:zA X xr b mb)(s:starEach [a,b] X.env=[(false,eval a X.env),(false,eval b X.env)]:=by rfl)(d:starEach [b] X.env=[(false,eval b X.env)]:=by rfl):kL X xr tg (.Call (.Name "range" p) [a,b] [] pos) (Ut ma mb):=by
 try simp only[zY]at*
 exact PI.imp (EM o hm (jk t (jk r jZ (by rw[d];rfl)) (by rw[s,d])) s d) λσ H J ⟨φ,A,ρ,S,re,h⟩=>by
   refine tM.go S re (zZ.mp h) λw A1 g H1 v u l E Q=>?_;refine tM.go E (re.mono l) (qp (zZ.mp u) (λ_ _ z=>z) λ_ _ z=>z.mono l) λn A2 f I v2 c L D q=>?_;cases w with
   |int i=>
    obtain rfl:=Q;cases n with
    |int j=>
     obtain rfl:=q;dsimp only at c
     by_cases e:(jI i&&jI j)=true
     ·rw[ag e]at c
      rw[aw]at e;obtain⟨C,y⟩:=Qh e.1;obtain⟨x,B⟩:=Qh e.2;exact⟨i,j,rfl,⟨C,y,x,B⟩,c f I _ (l.trans L) D O7⟩
     ·rw[aj e]at c;exact c.elim
    |non=>exact c.elim|bl _=>exact c.elim|str _=>exact c.elim|tup _=>exact c.elim|ref _=>exact c.elim|clo _ _ _=>exact c.elim|xc _=>exact c.elim
   |non=>exact c.elim|bl _=>exact c.elim|str _=>exact c.elim|tup _=>exact c.elim|ref _=>exact c.elim|clo _ _ _=>exact c.elim|xc _=>exact c.elim
def Og (r:Gl X "zip")(hm:X.mg "zip"=none)(u:zA X xr a ma)(t:zA X xr b mb)(g:starEach [a,b] X.env=(false,eval a X.env)::starEach [b] X.env:=by rfl)(e:starEach [b] X.env=(false,eval b X.env)::starEach [] X.env:=by rfl)(o:(backTo pos (starEach [b] X.env)).any (·.1)=false:=by rfl):
  kL X xr (.Tuple elts kk tpos) (.Call (.Name "zip" p) [a,b] [] pos) (Ju ma mb):=by
 try simp only[zY]at*
 exact PI.imp (eY r hm (jk u (jk t jZ e) g) g o) λσ H E ⟨φ,A,ρ,S,re,h⟩=>by
   refine tM.go S re (zZ.mp h) λw A1 i H1 v x l y n=>?_;refine tM.go y (re.mono l) (qp (zZ.mp x) (λ_ _ z=>z) λ_ _ z=>z.mono l) λf A2 d B v2 c L s Q=>?_;cases es:zP w A2 with
   |none=>rw[es]at c;exact c.elim|some us=>
    cases es':zP f A2 with
    |none=>rw[es,es']at c;exact c.elim|some vs=>
     rw[es,es']at c;have q:=n.mono L;obtain⟨p,xs,rfl,j,D⟩:=YZ s q es;obtain⟨P,ys,rfl,Z,C⟩:=YZ s Q es';exact⟨p,P,Qz w,Qz f,xs,ys,rfl,j,Z,c d B _ (l.trans L) s (eZ q Q)⟩
def Bp {d:Nat}{me:Ev}(x:∀e s,X.xe e s->False)(he:zA X yQ elt me)(o:gens[d+1]? =none):gz X elt gens sc pos d (zK me):=by
 try simp only[zY]at*
 exact wO.imp (DN x he o) λD σ H Q ⟨φ,A,ρ,acc,ys,S,re,p,n,r,h⟩=>by
   refine tM.go S re (Vj (zZ.mp h)) λw A1 g H1 v f l t q=>?_;obtain⟨c,n1⟩:=l.off p n
   by_cases z:acc.length<qa
   ·rw[ag z]at f
    have j:=r.length;refine⟨ys,c,?_,?_⟩
    ·rw[<- j]
     have:sizeLine=16777216:=sizeLine_eq
     unfold qa at z;omega
    ·exact f g _ σ _ (l.toD.trans (y0.upd c)) n1 (t.off c n1) ⟨re.len,λi w e=>let ⟨v,a,b⟩:=re.get i w e;⟨v,a,(b.mono l).monoD (y0.upd c)⟩⟩ jD
      (((r.mono l).monoD (y0.upd c)).append (.one (q.monoD (y0.upd c))))
   ·rw[aj z]at f;exact f.elim
def BU {iter:Expr}{d:Nat}{mi:Ei}{tw:Tg}{M:Ev}{em:Em}(o:∀e s,X.xe e s->False)(w:X.calm=true)(v:gens[d+1]? =some ⟨tg,iter,ifs,0⟩)(y:∀g',gens[d+2]? =some g'->g'.is_async=0)
  (hw:kL X yQ tg iter mi)(t:wI X tg tw)(u:gI X ifs M)(hm:gz X elt gens sc pos (d+1) em)(q:∀x,foldedSetIterable iter X.env x=pure x:=by intro _;rfl):gz X elt gens sc pos d (Yb mi tw M em):=by
 try simp only[zY]at*
 exact wO.imp (Dh o w v y hw t u hm q) λD σ H Q ⟨φ,A,ρ,acc,ys,S,re,B,n,f,h⟩=>by
   refine⟨φ,A,ρ,S,re,qp (Vj (zZ.mp h)) (λj A1 E c H1 J l T i=>?_) λ_ _ z=>z⟩;obtain⟨K,n1⟩:=l.off B n;exact jJ.read i T (re.mono l) K n1 (f.mono l) (qp E (λp A2 C a U b zs L N P r I g=>C a U b zs (l.toD.trans L) N P r I g) λ_ _ z=>z)
def jW (h:zA X xr e m):gA X xr e (qg m):=by
 try simp only[zY]at*
 exact PE.imp h λσ H Q ⟨φ,A,ρ,S,re,h⟩=>by
  refine tM.go S re (zZ.mp h) λw A1 c H1 v b l s q=>?_;cases e:zP w A1 with
  |none=>rw[e]at b;exact b.elim|some ws=>
   rw[e]at b;obtain⟨a,ys,rfl,d,E⟩:=Wu s q e;exact b c H1 a ys l s d E
def yg {q:j5}(h:Z3 X xr e q):gA X xr e q:=by
 try simp only[zY]at*
 exact PE.imp h λσ H Q ⟨φ,A,ρ,S,re,h⟩=>
  ⟨φ,A,ρ,S,re,qp h (λws A1 c a H1 D ys l s h0 b n r=>c a H1 D ys l s (.inl (qW.of b)) r) λ_ _ z=>z⟩
def P5 {o i:Expr}{mo mi:Ev}(ho:zA X xr o mo)(hi:zA X xr i mi)(he:zA X xr e m)
  (ha:∀c I new,augStore i c I new=(do holding [new,c,I] (setItem c I new);release [new,c,I] [];pure .next):=by intros;rfl):ki X xr (.AugAssign (.Subscript o i tpos) .Add e pos) (Jb mo mi m):=by
 try simp only[zY]at*
 exact PS.imp (Ac ho hi Dt he da set_list ha) λD σ H ⟨φ,A,ρ,S,re,h⟩=>by
   refine tM.go S re (zZ.mp h) λU A1 N H1 v1 h1 q S1 Q=>?_;refine tM.go S1 (re.mono q) (qp (zZ.mp h1) (λ_ _ z=>z) λ_ _ z=>z.mono q) λw A2 M H2 v2 a j B q2=>?_;have l:=q.trans j;cases U with
   |ref n=>cases w with
    |int k=>
     obtain rfl:=q2;dsimp only at a
     by_cases h0:0<=k
     ·rw[ag h0]at a
      cases d:(A2[n]?:Option O) with
      |none=>rw[d]at a;exact a.elim|some ob=>cases ob with
       |lst ws=>
        rw[d]at a;dsimp only at a;obtain⟨p,vs,rfl,f1,g1,Z⟩:=B.lst (Q.mono j) d;cases E:ws[k.toNat]? with
        |none=>rw[E]at a;exact a.elim|some P=>cases P with
         |int x=>
          rw[E]at a;dsimp only at a;obtain⟨v,hv,Y⟩:=Z.get E;obtain rfl:=Y;refine⟨p,vs,k,_,rfl,rfl,h0,g1,hv,?_⟩;refine tM.go B (re.mono l) (qp (zZ.mp a) (λ_ _ z=>z) λ_ _ z=>z.mono l) λT J g H3 v3 b t S3 q3=>?_;have L:=l.trans t;cases T with
          |int y=>
           obtain rfl:=q3;dsimp only at b;refine⟨x,y,rfl,rfl,?_⟩;refine OC (K:=X.K) g J H3 (.ref p) (.int k) (.int (x+y)) (.ref n) (.int k) (.int (x+y)) _ S3 ((Q.mono j).mono t) rfl rfl ?_;cases r:yu (.ref n) (.int k) (.int (x+y)) J with
           |ok u C=>
            rw[r]at b;exactλf H4 s S4=>b f H4 σ (L.trans s) S4 (re.mono (L.trans s))
           |exc z C=>exact absurd r (Ni _ _ _ _ z C)|bad=>rw[r]at b;exact b.elim
          |_=>exact b.elim
         |_=>rw[E]at a;exact a.elim
       |_=>rw[d]at a;exact a.elim
     ·rw[aj h0]at a;exact a.elim
    |_=>exact a.elim
   |_=>cases w<;>exact a.elim
def zr (a:ki X xr st m1)(d:kJ X xr rest m2):kJ X xr (st::rest) (zo m1 m2):=by
 try simp only[zY]at*
 exact yT.imp (Cw a d) λD σ H ⟨φ,A,ρ,S,re,h⟩=>by
   refine⟨φ,A,ρ,S,re,qp (zZ.mp h) (λf A1 a=>?_) λ_ _ z=>z⟩;cases f with
   |nx ρ1=>exactλb e c l s r=>⟨b,A1,ρ1,s,r,qp a (λ_ _ z=>z.mono l) λ_ _ z=>z.mono l⟩|rt w=>exact a|bk ρ1=>exact a|ct ρ1=>exact a
def gB (he:zA X xr e m)(s:swapsWith e none pos.line X.env=pure false:=by rfl):ki X xr (.Expr e pos) (yw m):=by
 try simp only[zY]at*
 exact PS.imp (Ag he s) λD σ H ⟨φ,A,ρ,S,re,h⟩=>tM.go S re (zZ.mp h) λw A1 a H1 v b l c q=>b a H1 σ l c (re.mono l)
def jT {iter:Expr}{mi:Ei}{tw:Tg}(hp:PassesOwn (model X.prog X.w) X.A X.env X.xe)(hc:X.calm=true)(hi:kL X xr tg iter mi)(hg:wI X tg tw)(hb:kJ X xr body m1)
  (hs:∀x,foldedSetIterable iter X.env x=pure x:=by intro _;rfl):ki X xr (.For tg iter body [] pos) (qY mi tw m1):=by
 try simp only[zY]at*
 exact PS.imp (dh hp hc hi hg hb hs) λD σ H ⟨φ,A,ρ,S,re,h⟩=>by
   refine⟨φ,A,ρ,S,re,qp (zZ.mp h) (λj A1 h1 g H1 J P S1 jr=>?_) λ_ _ z=>z⟩;refine⟨λi f d I=>Mh X.K xr j (turn tw m1) D g H1 f i d I,
    ⟨j.len,g,A1,ρ,.refl,S1,re.mono P,qp h1 (λ_ _ z=>z.mono P) λ_ _ z=>z.mono P⟩,?_⟩
   rintro i f M Y ⟨c,A2,q,u,U,t,b⟩
   obtain⟨j1,j2⟩:=jr i c Y A2 ⟨u.ex,u.tp,u.fz⟩ U;cases E:j.at_ A2 i with
   |none=>cases f<;>(unfold yD at b;rw[E]at b;exact b.elim)|some o=>
    cases o with
    |none=>
     left
     refine⟨j2 E,?_⟩;cases f<;>(unfold yD at b;rw[E]at b;exact b c Y M .refl U t)
    |some w=>
     right
     obtain⟨go,yl⟩:=j1 w E;cases f with
     |zero=>unfold yD at b;rw[E]at b;exact b.elim|succ f=>
      unfold yD at b;rw[E]at b;refine⟨go,λd I=>Mh X.K xr j (turn tw m1) D g H1 f (i+1) d I,λd I z=>⟨f,bz _,z⟩,λx H3 y=>?_⟩;obtain⟨L,T,q3⟩:=yl x H3 y;have v:=zZ.mp b;unfold turn at v;cases Q:tw w q with
      |none=>rw[Q]at v;exact v.elim|some p=>
       rw[Q]at v;refine⟨c,A2,q,w,p,T,t.mono L,q3,Q,λσ3 N=>?_⟩;refine⟨c,A2,p,T,N,qp v (λfl Z C=>?_) λ_ _ z=>z.mono L⟩;cases fl with
       |nx e=>exactλa B n l s r=>⟨a,Z,e,(u.trans L).trans l,s,r,qp C (λ_ _ z=>z.mono (L.trans l)) λ_ _ z=>z.mono (L.trans l)⟩|ct e=>exactλa B n l s r=>⟨a,Z,e,(u.trans L).trans l,s,r,qp C (λ_ _ z=>z.mono (L.trans l)) λ_ _ z=>z.mono (L.trans l)⟩|bk e=>exactλa B n l s r=>C a B n (L.trans l) s r|rt w4=>exactλa B v4 l s q4=>C a B v4 (L.trans l) s q4
def jU {sa s:cx}(e:yI X xr c mc)(g:kJ X xr sa m1)(f:kJ X xr s m2):ki X xr (.If c sa s pos) (ja mc m1 m2):=by
 try simp only[zY]at*
 exact PS.imp (c5 e g f) λD σ H ⟨φ,A,ρ,S,re,h⟩=>by
   refine tT.go S re (zZ.mp h) λw A1 a=>?_;cases w with
   |bl k=>
    refine⟨k,rfl,λb H1 l d=>?_⟩;cases k with
    |true=>rw[ag rfl];exact⟨b,A1,ρ,d,re.mono l,qp a (λ_ _ z=>z.mono l) λ_ _ z=>z.mono l⟩|false=>rw[aj az];exact⟨b,A1,ρ,d,re.mono l,qp a (λ_ _ z=>z.mono l) λ_ _ z=>z.mono l⟩
   |non=>cases a|int _=>cases a|str _=>cases a|tup _=>cases a|ref _=>cases a|clo _ _ _=>cases a|xc _=>cases a
def zG:kJ X xr [] zB:=by
 try simp only[zY]at*
 exact yT.imp BA λD σ H ⟨φ,A,ρ,S,re,h⟩=>h φ H σ .refl S re
def qw (he:zA X xr e m):ki X xr (.Return (some e) pos) (qv m):=by
 try simp only[zY]at*
 exact PS.imp (AA he) λD σ H ⟨φ,A,ρ,S,re,h⟩=>tM.go S re (zZ.mp h) λw A1 a H1 v b l s q=>b a H1 v l s q
def qA (i:Nat){pos':Pos}(b:X.N.Nodup)(he:zA X xr e m)(a:X.N[i]? =some x:=by rfl)(h:Loc X.env.scope x:=by first|exact Or.inl rfl|exact Or.inr rfl)(H:swapsWith e (some (.Name x pos')) pos.line X.env=pure false:=by rfl)
  (hf:X.fn x=true∨X.env.scope.names.lookup x=some .local:=by first|exact .inl rfl|exact .inr rfl):ki X xr (.Assign [.Name x pos'] e pos) (zX i m):=by
 try simp only[zY]at*
 exact PS.imp (AD b a h he H hf) zX.read
def JK (i:Nat){iter:Expr}{mi:Ei}{tw:Tg}{M:Ev}{em:Em}{P a:Pos}(nl:Nat)(cap:b9)(j:X.N.Nodup)
  (e:X.calm=true)(S:Zb X sc)(p:QB X.N N sc nl cap=true)(hw:kL X xr tg iter mi)
  (n:∀s H fp,wI (jX X N sc s H fp yZ) tg tw/\gI (jX X N sc s H fp yZ) ifs M/\gz (jX X N sc s H fp yZ) elt (⟨tg,iter,ifs,0⟩::gs) sc pos 0 em)
  (b:X.N[i]? =some x:=by rfl)(c:X.env.scope.names.lookup x=some .local:=by rfl)
  (w:swapsWith (.ListComp elt (⟨tg,iter,ifs,0⟩::gs) sc pos) (some (.Name x P)) a.line X.env=pure true:=by rfl)
  (f:∀g',gs[0]? =some g'->g'.is_async=0:=by intro _ h;cases h<;>rfl)
  (d:∀x,foldedSetIterable iter X.env x=pure x:=by intro _;rfl):ki X xr (.Assign [.Name x P] (.ListComp elt (⟨tg,iter,ifs,0⟩::gs) sc pos) a) (zX i (qt (zM nl cap mi tw M em))):=by
 try simp only[zY]at*
 exact PS.imp (L2.HG (g:=tG X.K tw) (ti:=tT X.K yQ M) (tm:=tE X.K em) j b c w e S p f hw n d) λD σ H h=>zM.read σ H _ (qt.read σ H _ (zX.read D σ H h))
def YY (h:gv X xr e m):yI X xr e m:=by
 try simp only[zY]at*
 exact PW.pt h
def jV {g:W->W->Hx->R W}(h:wC X op g)(c:zA X xr a ma)(H:zA X xr b mb)(e:op≠.In:=by decide)(d:op≠.NotIn:=by decide):yI X xr (.Compare a [op] [b] pos) (zi g ma mb):=by
 try simp only[zY]at*
 exact let ⟨r,a1,a2,A⟩:=h.ex;Nb a1 a2 A c H (h.mks b e d)
def AM {o:CmpOp}{g g':W->W->Hx->R W}(h:wC X op g)(h':wC X o g')(e:zA X xr a ma)(d:zA X xr b mb)(H:zA X xr c mc)(hm:lastMarks [op,o] [b,c]=false:=by with_unfolding_all rfl):
  yI X xr (.Compare a [op,o] [b,c] pos) (wa g g' ma mb mc):=by
 try simp only[zY]at*
 exact let ⟨r,a1,a2,A⟩:=h.ex;let ⟨j,i,f,B⟩:=h'.ex;DG a1 a2 A i f B e d H hm
def Nu {g:W->W->Hx->R W}(h:GN X op g)(c:zA X xr a ma)(H:zA X xr b mb)(hm:behindInMarks op b=false:=by rfl):yI X xr (.Compare a [op] [b] pos) (zi g ma mb):=by
 try simp only[zY]at*
 exact let ⟨r,a1,a2,A⟩:=h.ex;Nb a1 a2 A c H hm
def JU (f:yI X xr a ma):yI X xr (.UnaryOp .Not a pos) (wG ma):=by
 try simp only[zY]at*
 exact PT.imp (cR f) λσ H Q ⟨φ,A,ρ,S,re,h⟩=>by
   refine tT.go S re (zZ.mp h) λw A1 c=>?_;cases w with
   |bl k=>obtain⟨b,e,q⟩:=c;cases e;exact⟨k,rfl,λd H1 l s=>q d H1 l s⟩|non=>cases c|int _=>cases c|str _=>cases c|tup _=>cases c|ref _=>cases c|clo _ _ _=>cases c|xc _=>cases c
def ZN (h:zA X xr e m)(he:∀whole,isTrue e X.env whole=(do let v <- whole;standAt e.pos;holding [v] (truthy v)):=by intro _;rfl):yI X xr e m:=by
 try simp only[zY]at*
 exact PT.imp (Ay h he) λσ H Q h=>h.toM
def qN:gI X [] (qc (.bl true)):=by
 try simp only[zY]at*
 exactλpins s σ H Q I ⟨φ,A,ρ,S,re,h⟩=>DE pins s σ H Q I (by
  obtain⟨b,e,q⟩:=h;cases e;exact q φ H .refl S)
def WS (h:yI X yQ c mc):gI X [c] mc:=by
 try simp only[zY]at*
 exact Dz h
def Oi {rest:cg}(g:yI X xr a ma)(f:gv X xr (.BoolOp .And (b::rest) pos) mb):gv X xr (.BoolOp .And (a::b::rest) pos) (ku ma mb):=by
 try simp only[zY]at*
 exact PW.imp (pw_and g f) λσ H Q ⟨φ,A,ρ,S,re,h⟩=>by
   refine tT.go S re (zZ.mp h) λw A1 c=>?_;cases w with
   |bl k=>
    refine⟨k,rfl,λd H1 l s=>?_⟩;cases k with
    |true=>rw[ag rfl];exact tT.mono s l re c|false=>rw[aj az];obtain⟨b,e,q⟩:=c;cases e;exact q d H1 l s
   |non=>cases c|int _=>cases c|str _=>cases c|tup _=>cases c|ref _=>cases c|clo _ _ _=>cases c|xc _=>cases c
def P6 (h:yI X xr a ma):gv X xr (.BoolOp .And [a] pos) ma:=by
 try simp only[zY]at*
 exact pw_and1 h
def VW {rest:cg}(g:yI X xr a ma)(f:gv X xr (.BoolOp .Or (b::rest) pos) mb):gv X xr (.BoolOp .Or (a::b::rest) pos) (ZA ma mb):=by
 try simp only[zY]at*
 exact PW.imp (pw_or g f) λσ H Q ⟨φ,A,ρ,S,re,h⟩=>by
   refine tT.go S re (zZ.mp h) λw A1 c=>?_;cases w with
   |bl k=>
    refine⟨k,rfl,λd H1 l s=>?_⟩;cases k with
    |false=>rw[aj az];exact tT.mono s l re c|true=>rw[ag rfl];obtain⟨b,e,q⟩:=c;cases e;exact q d H1 l s
   |non=>cases c|int _=>cases c|str _=>cases c|tup _=>cases c|ref _=>cases c|clo _ _ _=>cases c|xc _=>cases c
def Vr (h:yI X xr a ma):gv X xr (.BoolOp .Or [a] pos) ma:=by
 try simp only[zY]at*
 exact pw_or1 h
def jK {K:Frag}{st:Stmt}{k:Nat}{m:Ex}(F:wL K x x st f fd)(hm:mg x=some (.ref f))(S:jc N ps (qo st))
  (i:∀(kV doc pm:Value)(an:cw)(c ct:Value)(us:bY),us.length=ps.length->bindArgs (fnOf x x (Qm st) (wz st) (qo st) .none kV doc pm an c ct) ⟨us,[]⟩=pure (ps.zip us))
  (a:∀(c:Value)(A:Around)(outer:cn)(s:Shared)(H:Hp)(E:XK),jq k (A.deeper (envOfC x (qo st) s.heap.objs.size f c))->kJ (wX gr P w K mg base N x (qo st) f c A outer s H E).nox yQ (wz st) m):
  zN P w K mg base (k+1) x ps.length (qU N.length m):=by
 try simp only[zY]at*
 refine⟨f,fd,ps,?_,hm,F.kp,F.binds i⟩;refine F.ok S (λvs H Q E h=>h.len) λc A outer s H vs Q E g ⟨q,φ,A1,ws,n,r,h⟩=>⟨_,a c A outer s H E g,?_⟩;refine⟨φ,A1,ws.map some++List.replicate (N.length-ws.length) none,n,RE.start r,?_⟩;have h':=zZ.mp h;show R.post _ (FB K φ H _) _;cases e:m (ws.map some++List.replicate (N.length-ws.length) none) A1 with
 |ok j A2=>
  rw[e]at h';cases j with
  |rt w=>exact h'|nx ρ=>exactλb p d l o _=>h' b p .non l o rfl|bk ρ=>exact h'.elim|ct ρ=>exact h'.elim
 |exc y A2=>
  rw[e]at h';exact h'.elim
 |bad=>rw[e]at h';exact h'.elim
def VC (hm:X.mg "abs"=none)(a:zA X xr e m)(h:Gl X "abs":=by rfl)(he:starEach [e] X.env=(false,eval e X.env)::starEach [] X.env:=by rfl):zA X xr (.Call (.Name "abs" p) [e] [] pos) (jR KD m):=by
 try simp only[zY]at*
 exact NO Cf (λw A=>by unfold KD;split;exact jQ;exact qP) (λφ A H x u Q S q p=>by
   cases u with
   |int i=>obtain rfl:=q;exact⟨i,rfl,p φ H _ .refl S rfl⟩|_=>exact p.elim) hm (by rfl) a h (by decide) (by decide) he (by rfl)
def ZH {apos:Pos}(i:zA X xr a ma)(he:zA X xr b mb)(s:starEach [b] X.env=(false,eval b X.env)::starEach [] X.env:=by rfl)
  (e:attributeBase a "append" X.env (eval a X.env)=eval a X.env:=by rfl)
  (w:((backTo cpos (starEach [b] X.env)).all (λx=>!x.1)&&(backToKw cpos (keywordEach [] X.env)).all (λx=>x.1.isSome)
   && decide ([b].length+([]:cu).length+(if ([]:cu).isEmpty then 0 else 1)<30))=true:=by rfl)(h:(apos.endLine==cpos.line)=true:=by rfl):
  zA X xr (.Call (.Attribute a "append" apos) [b] [] cpos) (j9 yA ma mb):=by
 try simp only[zY]at*
 exact UA PySem.F.slot_list_append PySem.F.type_list_append RG FR (λφ A H x y u v Q S g q p=>by
   unfold yA at p;cases u with
   |ref n=>
    dsimp only at p;cases E:A[n]? with
    |none=>rw[E]at p;exact p.elim|some o=>cases o with
     |lst ws=>
      rw[E]at p;dsimp only at p
      by_cases c:ws.length<qa
      ·rw[ag c]at p
       obtain⟨l,vs,rfl,f1,g1,r⟩:=S.lst g E;refine⟨l,vs,y,rfl,rfl,g1,?_,?_⟩
       ·rw[<- r.length]
        have:sizeLine=16777216:=sizeLine_eq
        unfold qa at c;omega
       ·have ln:Le X.K φ H φ (upd H l (.lst (vs++[y]))):=Le.upd f1 (λxs z=>by rw[g1]at z;cases z) (λ_ _ z=>by rw[g1]at z;cases z)
        obtain⟨f,d⟩:=S.write (o:=.lst ws) (o':=.lst (ws++[v])) E rfl rfl f1 ⟨_,jD,(r.mono ln).append (.one (q.mono ln))⟩;exact p _ _ _ f d rfl
      ·rw[aj c]at p;exact p.elim
     |_=>rw[E]at p;exact p.elim
   |_=>exact p.elim) i he s e w h
def YO (hm:X.mg "int"=none)(a:zA X xr e m)(h:Gl X "int":=by rfl)(he:starEach [e] X.env=(false,eval e X.env)::starEach [] X.env:=by rfl):zA X xr (.Call (.Name "int" p) [e] [] pos) (jR Jv m):=by
 try simp only[zY]at*
 exact eI Ed (λw A=>by unfold Jv;split;exact jQ;exact jQ;exact qP) (λφ A H x u Q S q p=>by
   cases u with
   |int i=>obtain rfl:=q;exact .inl ⟨i,rfl,p φ H _ .refl S rfl⟩|bl k=>obtain rfl:=q;exact .inr ⟨k,rfl,p φ H _ .refl S rfl⟩|_=>exact p.elim) hm (by rfl) a h (by decide) (by decide) he (by rfl)
def Cd (e:X.calm=true)(hm:X.mg "max"=none)(o:zA X xr a ma)(n:zA X xr b mb)(l:Gl X "max":=by rfl)(s:starEach [a,b] X.env=(false,eval a X.env)::starEach [b] X.env:=by rfl)(r:starEach [b] X.env=(false,eval b X.env)::starEach [] X.env:=by rfl)(h:(backTo pos (starEach [b] X.env)).any (·.1)=false:=by rfl):
  zA X xr (.Call (.Name "max" p) [a,b] [] pos) (zi Uh ma mb):=by
 try simp only[zY]at*
 exact UC (ED e) QA (λφ A H x y u v Q S d c p=>by
   obtain⟨i,j,t,E,q⟩:=Qq (K:=X.K) (f:=λi j=>.int (if j > i then j else i)) (g:=λi j=>.int (if j > i then j else i)) (λ_ _ _ _=>rfl) φ A H x y u v Q S d c p;subst t;subst E;exact⟨i,j,rfl,q⟩) hm (by rfl) o n l (by decide) (by decide) s r h
def ER {apos:Pos}(C:zA X xr a ma)(he:zA X xr b mb)(B:starEach [b] X.env=(false,eval b X.env)::starEach [] X.env:=by rfl)
  (e:attributeBase a "pop" X.env (eval a X.env)=eval a X.env:=by rfl)
  (c:((backTo cpos (starEach [b] X.env)).all (λx=>!x.1)&&(backToKw cpos (keywordEach [] X.env)).all (λx=>x.1.isSome)
   && decide ([b].length+([]:cu).length+(if ([]:cu).isEmpty then 0 else 1)<30))=true:=by rfl)(h:(apos.endLine==cpos.line)=true:=by rfl):
  zA X xr (.Call (.Attribute a "pop" apos) [b] [] cpos) (j9 Ze ma mb):=by
 try simp only[zY]at*
 exact UA PySem.F.slot_list_pop PySem.F.type_list_pop Ci D7 (λφ A H x y u v Q S t s p=>by
   unfold Ze at p;cases u with
   |ref n=>cases v with
    |int i=>
     obtain rfl:=s;dsimp only at p;cases E:A[n]? with
     |none=>rw[E]at p;exact p.elim|some o=>cases o with
      |lst ws=>
       rw[E]at p;dsimp only at p
       by_cases d:jI i=true
       ·rw[ag d]at p
        obtain⟨L,J⟩:=Qh d;cases g:seqIndex? i ws.length with
        |none=>rw[g]at p;exact p.elim|some k=>
         rw[g]at p;dsimp only at p;cases f:ws[k]? with
         |none=>rw[f]at p;exact p.elim|some w=>
          rw[f]at p;obtain⟨l,vs,rfl,f1,g1,r⟩:=S.lst t E;obtain⟨y,I,D⟩:=r.get f;have ln:Le X.K φ H φ (upd H l (.lst (vs.eraseIdx k))):=Le.upd f1 (λxs z=>by rw[g1]at z;cases z) (λ_ _ z=>by rw[g1]at z;cases z)
          obtain⟨j,q⟩:=S.write (o:=.lst ws) (o':=.lst (ws.eraseIdx k)) E rfl rfl f1 ⟨_,jD,(r.erase k).mono ln⟩;exact⟨l,vs,i,k,y,rfl,rfl,g1,by omega,by omega,by rw[<- r.length];exact g,I,p _ _ _ j q (D.mono j)⟩
       ·rw[aj d]at p;exact p.elim
      |_=>rw[E]at p;exact p.elim
    |_=>exact p.elim
   |_=>cases v<;>exact p.elim) C he B e c h
def Oc (H:zA X xr a ma)(h:zA X xr b mb):zA X xr (.BinOp a .Pow b pos) (zi GC ma mb):=by
 try simp only[zY]at*
 exact Q4 dr Uz (VP BY λ_ _ _ _=>rfl) H h
def VL {x j}:zA X xr (.Constant (.str x) j pos) (qc (.str x)):=by
 try simp only[zY]at*
 exact PE.imp Au λσ H Q ⟨φ,A,ρ,S,r,h⟩=>h φ H _ .refl S rfl
def VB (H:zA X xr a ma)(h:zA X xr b mb):zA X xr (.BinOp a .BitXor b pos) (zi ZY ma mb):=by
 try simp only[zY]at*
 exact Q4 dt QA (Qq λ_ _ _ _=>rfl) H h
def Vf {q:j5}(hm:X.mg "list"=none)(d:gA X xr e q)(g:Gl X "list":=by rfl)(he:starEach [e] X.env=(false,eval e X.env)::starEach [] X.env:=by rfl):
  zA X xr (.Call (.Name "list" p) [e] [] pos) (qt q):=by
 try simp only[zY]at*
 exact PE.imp (JL IW g hm (by rfl) (jk d jZ he) (by decide) (by decide) he (by rfl)) λσ H Q ⟨φ,A,ρ,S,re,h⟩=>by
   refine⟨φ,A,ρ,S,re,qp (zZ.mp h) (λws A1 f b H1 a ys L s z r=>?_) λ_ _ z=>z⟩;refine⟨a,ys,rfl,z,λl c=>?_⟩;obtain⟨a1,a2,i⟩:=Zd s c r;exact f _ _ _ (L.trans a1) a2 i
def Q0 {o i:Expr}{mo mi:Ev}(he:zA X xr e m)(H:zA X xr o mo)(a:zA X xr i mi)
  (h:swapsWithSole [.Subscript o i tpos] e pos.line X.env=pure false:=by rfl)(hw:swappedStores [.Subscript o i tpos] e X.env=pure none:=by rfl)
  (c:(assignEach [.Subscript o i tpos] X.env).map (·.2)=[assign (.Subscript o i tpos) X.env]:=by rfl)
  (b:∀v,assign (.Subscript o i tpos) X.env v=(do
   let ov <- holding [v] (eval o X.env)
   let iv <- holding [v,ov] (eval i X.env)
   standAt tpos
   holding [v,ov,iv] (setItem ov iv v)
   release [v,ov,iv] []):=by intro _;rfl):ki X xr (.Assign [.Subscript o i tpos] e pos) (yC yu m mo mi):=by
 try simp only[zY]at*
 exact P0 set_list Ni OC he H a h hw c b
def F9 (f:Nat)(C:PassesOwn (model X.prog X.w) X.A X.env X.xe)(E:yI X xr c mc)(I:kJ X xr body m1):ki X xr (.While c body [] pos) (V5 f mc m1):=by
 try simp only[zY]at*
 exact PS.imp (Dp C E I) λD σ H ⟨φ,A,ρ,S,re,h⟩=>by
   refine⟨λf g e=>∃a A2 d,Le X.K φ H a e/\zI X.K a A2 e/\RE X.K a e d g/\(ZU mc m1 f d A2).post (FB X.K a e D) (EB X.K a e xr),⟨f,φ,A,ρ,.refl,S,re,h⟩,?_⟩
   rintro f u U ⟨a,A2,d,x,M,o,v⟩
   cases f with
   |zero=>exact v.elim|succ f=>
    unfold ZU at v;refine tT.go M o (zZ.mp v) λw P j=>?_;cases w with
    |bl k=>
     refine⟨k,rfl,λp N l y=>?_⟩;cases k with
     |true=>
      rw[ag rfl];refine⟨λg e=>∃a A2 d,Le X.K φ H a e/\zI X.K a A2 e/\RE X.K a e d g/\(ZU mc m1 f d A2).post (FB X.K a e D) (EB X.K a e xr),λg e z=>⟨f,bz _,z⟩,?_⟩;refine⟨p,P,d,y,o.mono l,qp (zZ.mp j) (λJ B t=>?_) λ_ _ z=>z.mono l⟩;cases J with
      |nx i=>exactλb q n L s r=>⟨b,B,i,(x.trans l).trans L,s,r,qp t (λ_ _ z=>z.mono (l.trans L)) λ_ _ z=>z.mono (l.trans L)⟩|ct i=>exactλb q n L s r=>⟨b,B,i,(x.trans l).trans L,s,r,qp t (λ_ _ z=>z.mono (l.trans L)) λ_ _ z=>z.mono (l.trans L)⟩|bk i=>exactλb q n L s r=>t b q n (l.trans L) s r|rt T=>exactλb q v4 L s Q=>t b q v4 (l.trans L) s Q
     |false=>
      rw[aj az];exact j p N u l y (o.mono l)
    |non=>cases j|int _=>cases j|str _=>cases j|tup _=>cases j|ref _=>cases j|clo _ _ _=>cases j|xc _=>cases j
end
end Mi
variable {mr:Mi.Ea}{mi:Mi.Ei}{ρ:Mi.En}{me:Mi.Ev}{A A1 B:Mi.Hx}{ws:List Mi.W}{o:Mi.O}{tw:Mi.Tg}{g:Mi.W->Mi.W->Mi.Hx->Mi.R Mi.W}{xr:Mi.XR}{q:Mi.j5}
set_option maxHeartbeats 4000000
namespace Mi
open PySem L2
section
variable {ρ1:En}{A2:Hx}{w x y:W}{m ma mb mc:Ev}{m1 m2:Ex}{f:Fn}
def zu (h:ρ[i]? =some (some w)):qi i ρ A=.ok w A:=by unfold qi;rw[h]
def jb:qc w ρ A=.ok w A:=rfl
def zR (H:ma ρ A=.ok x A1)(h:mb ρ A1=.ok y A2):zi g ma mb ρ A=g x y A2:=by unfold zi;rw[H,zO,h,zO]
def fe {g:W->Hx->R W}(h:ma ρ A=.ok x A1):jR g ma ρ A=g x A1:=by unfold jR;rw[h,zO]
def Qn {k:Bool}(h:ma ρ A=.ok (.bl k) A1):wG ma ρ A=.ok (.bl (!k)) A1:=by unfold wG;rw[h,zO]
def Q9 (h:ma ρ A=.ok (.bl true) A1):ku ma mb ρ A=mb ρ A1:=by unfold ku;rw[h,zO]
def Gm (h:ma ρ A=.ok (.bl false) A1):ku ma mb ρ A=.ok (.bl false) A1:=by unfold ku;rw[h,zO]
def Um (h:ma ρ A=.ok (.bl false) A1):ZA ma mb ρ A=mb ρ A1:=by unfold ZA;rw[h,zO]
def qL {a:Ea}(h:a ρ A=.ok ws A1):zH f a ρ A=f ws A1:=by unfold zH;rw[h,zO]
def qI:zj ρ A=.ok [] A:=rfl
def qj {r:Ea}(H:ma ρ A=.ok x A1)(h:r ρ A1=.ok ws A2):zc ma r ρ A=.ok (x::ws) A2:=by unfold zc;rw[H,zO,h,zO]
def W8 {a:Ea}(h:a ρ A=.ok ws A1):zE a ρ A=.ok (.tup ws) A1:=by unfold zE;rw[h,zO]
def yq {a:Ea}(h:a ρ A=.ok ws A1):qb a ρ A=.ok (.ref A1.length) (A1++[.lst ws]):=by unfold qb;rw[h,zO]
def zJ (h:m1 ρ A=.ok (.nx ρ1) A1):zo m1 m2 ρ A=m2 ρ1 A1:=by unfold zo;rw[h,zO]
def qF (h:m1 ρ A=.ok (.rt w) A1):zo m1 m2 ρ A=.ok (.rt w) A1:=by unfold zo;rw[h,zO]
def jG:zB ρ A=.ok (.nx ρ) A:=rfl
def qO (h:m ρ A=.ok w A1):zX i m ρ A=.ok (.nx (ρ.set i (some w))) A1:=by unfold zX;rw[h,zO]
def Q3 (h:m ρ A=.ok w A1):yw m ρ A=.ok (.nx ρ) A1:=by unfold yw;rw[h,zO]
def ji (h:m ρ A=.ok w A1):qv m ρ A=.ok (.rt w) A1:=by unfold qv;rw[h,zO]
def wF (h:mc ρ A=.ok (.bl true) A1):ja mc m1 m2 ρ A=m1 ρ A1:=by unfold ja;rw[h,zO]
def yL (h:mc ρ A=.ok (.bl false) A1):ja mc m1 m2 ρ A=m2 ρ A1:=by unfold ja;rw[h,zO]
def yJ {j:jH}(h:mi ρ A=.ok j A1):qY mi tw m1 ρ A=yD j (turn tw m1) j.len 0 ρ A1:=by unfold qY;rw[h,zO]
def yV (h:tw w ρ=some ρ1):turn tw m1 w ρ A=m1 ρ1 A:=by unfold turn;rw[h]
def XZ {j:jH}{st:W->Ex}(h:j.at_ A i=some none):yD j st n i ρ A=.ok (.nx ρ) A:=by
 cases n with
 |zero=>unfold yD;rw[h]|succ n=>unfold yD;rw[h]
def WH {j:jH}{st:W->Ex}(h:j.at_ A i=some (some w))(H:st w ρ A=.ok (.nx ρ1) A1):yD j st (n+1) i ρ A=yD j st n (i+1) ρ1 A1:=by
 rw[yD,h];dsimp only;rw[H,zO]
def ZJ {k:Int}(h:m ρ A=.ok (.int k) A1)(H:jI k=true):qJ m ρ A=.ok (j8 0 k.toNat) A1:=by unfold qJ;rw[h,zO];dsimp only;rw[ag H]
def wA {lo:Int}{k:Nat}(h:i<k):(j8 lo k).at_ A i=some (some (.int (lo+i))):=by unfold j8;dsimp only;rw[ag h]
def wy {lo:Int}{k:Nat}(h:¬i<k):(j8 lo k).at_ A i=some none:=by unfold j8;dsimp only;rw[aj h]
def q9 (h:m1 (ws.map some++List.replicate (n-ws.length) none) A=.ok (.rt w) A1):qU n m1 ws A=.ok w A1:=by unfold qU;rw[h];rfl
def ZO {w:W}(hn:qS ws=true)(hw:w.nr=true)(h:f ws []=.ok w A1):iso f ws A=.ok w A:=by
 unfold iso;rw[ag hn,h];cases w with
 |ref k=>cases hw|_=>dsimp only;rw[ag hw]
end
end Mi
set_option maxHeartbeats 4000000
namespace Mi
open PySem L2
def DT {j:jH}{ifs:Ev}{c:En}{N:Nat}{item g:Nat->W}{keep:Nat->Bool}(t:∀i,i<N->j.at_ A i=some (some (item i)))(d:j.at_ A N=some none)
  (b:∀i,i<N->ifs (some (item i)::c) A=.ok (.bl (keep i)) A)(he:∀i,i<N->keep i=true->me (some (item i)::c) A=.ok (g i) A):
  ∀(n i:Nat)(x:Option W)(acc:List W),i+n=N->acc.length+n<=qa->∃y,jJ j (zC 0) ifs (zK me) n i (x::c) acc A=.ok (y::c,acc++((List.range' i n).filter keep).map g) A:=by
 intro n
 induction n with
 |zero=>
  intro i x acc h _
  have:i=N:=by omega
  subst this;refine⟨x,?_⟩;unfold jJ;rw[d];simp
 |succ n I=>
  intro i x acc h l;have H:i<N:=by omega
  rw[jJ,t i H];dsimp only[zC,List.set];rw[b i H,zO];rw[bT];cases a:keep i with
  |true=>
   dsimp only;obtain⟨y,e⟩:=I (i+1) (some (item i)) (acc++[g i]) (by omega) (by rw[ay,aU];omega)
   refine⟨y,?_⟩;have E:zK me (some (item i)::c) acc A=.ok (some (item i)::c,acc++[g i]) A:=by
    unfold zK;rw[he i H a,zO,ag (by omega)]
   rw[E,zO];dsimp only;rw[e,List.filter_cons_of_pos a,aL,aN]
   rfl
  |false=>
   dsimp only;obtain⟨y,e⟩:=I (i+1) (some (item i)) acc (by omega) (by omega)
   exact⟨y,by rw[e,List.filter_cons_of_neg (by rw[a];exact az)]⟩
def RB {j:jH}{ifs:Ev}{N:Nat}{item g:Nat->W}{keep:Nat->Bool}(hm:mi ρ A=.ok j A)(a:j.len=N)(d:N<=qa)
  (H:∀i,i<N->j.at_ A i=some (some (item i)))(h:j.at_ A N=some none)(b:∀i,i<N->ifs (some (item i)::cap.map λi=>(ρ[i]?).join) A=.ok (.bl (keep i)) A)
  (he:∀i,i<N->keep i=true->me (some (item i)::cap.map λi=>(ρ[i]?).join) A=.ok (g i) A):
  zM 1 cap mi (zC 0) ifs (zK me) ρ A=.ok (((List.range N).filter keep).map g) A:=by
 obtain⟨y,e⟩:=DT H h b he N 0 none [] (zero_add N) (by simpa using d)
 unfold zM;rw[hm,zO,a];have c:Jd 1 cap ρ=none::cap.map λi=>(ρ[i]?).join:=rfl;rw[c,e,bp,<- bJ]
 rfl
def Qg {j:jH}{N:Nat}{item g:Nat->W}(hm:mi ρ A=.ok j A)(a:j.len=N)(c:N<=qa)
  (t:∀i,i<N->j.at_ A i=some (some (item i)))(H:j.at_ A N=some none)(he:∀i,i<N->me (some (item i)::cap.map λi=>(ρ[i]?).join) A=.ok (g i) A):
  zM 1 cap mi (zC 0) (qc (.bl true)) (zK me) ρ A=.ok ((List.range N).map g) A:=by
 have h:=RB (ifs:=qc (.bl true)) (keep:=λ_=>true) hm a c t H (λ_ _=>rfl) λi b _=>he i b;have f:(List.range N).filter (λ_=>true)=List.range N:=List.filter_eq_self.mpr λ_ _=>rfl;rw[f]at h;exact h
def yF {g:List W->Hx->R W}(h:q ρ A=.ok ws A1):mQ g q ρ A=g ws A1:=by unfold mQ;rw[h,zO]
def gC (h:q ρ A=.ok ws A1):qt q ρ A=.ok (.ref A1.length) (A1++[.lst ws]):=by unfold qt;rw[h,zO]
def kF {m:Ev}{w:W}(h:m ρ A=.ok w A1)(H:zP w A1=some ws):qg m ρ A=.ok ws A1:=by unfold qg;rw[h,zO,H]
open PySem PySem.Spec PyProof.Rows L2
inductive zcM (H:Hp)(h g:Heap)(e:Addr)(vs:Array Value):Prop
 |mk (T:Addr) (oT:Obj) (ts:Array Value) (h1:vs[1]? =some (.ref T)) (ne:T≠e) (ng:g.get? T=none) (nH:H T=none) (hT:h.get? T=some oT) (hd:oT.data=.fields ts) (h3:ts[3]? =some .none)
inductive wV (H:Hp)(h g:Heap)(e:Addr)(C:Value):Prop
 |mk (ng:g.get? e=none) (nH:H e=none) (oe:Obj) (vs:Array Value) (a0:Value) (he:h.get? e=some oe) (hc:oe.cls=C) (hd:oe.data=.fields vs) (h0:vs[0]? =some a0) (h1:vs[1]? =some .none∨zcM H h g e vs)
inductive Tr (h:Heap)(e:Addr):Prop
 |mk (oe:Obj) (vs:Array Value) (T:Addr) (he:h.get? e=some oe) (hd:oe.data=.fields vs) (h1:vs[1]? =some (.ref T))
section
variable {A:Around}{outer:cn}{L e:Addr}{C:Value}{g:Heap}
theorem frames_at {B:Heap}:∀{l:cn},s.heap.FunFrames base l->(∀b∈qK l,B.get? b=none)->s.heap.FunFrames B l
 |[],_,_=>trivial|e::r,⟨c,⟨L,o,hf,hn,a,hd⟩,H⟩,h=>⟨c,⟨L,o,hf,h L (by unfold qK;rw[bw,hf];exact ax ..),a,hd⟩,frames_at H λb d=>h b (by
   unfold qK;rw[bw,hf];exact au _ d)⟩
def O4 {Q:Unit->Shared->Prop}(y:A.frames=some (env::outer))(hf:env.frame=some L)(J:s.heap.FunFrames base (env::outer))(x:wV H s.heap g e C)
  (tr:∀b u,H b=some u->∃o,s.heap.get? b=some o)(th:∀b o,g.get? b=some o->∃o',s.heap.get? b=some o')
  (hQ:∀h',(∀b o,s.heap.get? b=some o->b∉qK (env::outer)->((∃o',g.get? b=some o')∨∃u,H b=some u)->h'.get? b=some o)->(∀b o,s.heap.get? b=some o->b∈qK (env::outer)->∃sl,h'.get? b=some { o with slots:=sl })->
   wV H h' g e C->Tr h' e->Q () { s with heap:=h' }):wpAny M A (leaving env (.ref e)) Q E s:=by
 obtain⟨N,U,oe,vs,a0,he,hc,hd,h0,D⟩:=x;have fin:∀(d:bZ),(∀b∈qK (env::outer),b∈d)->(∀b∈d,b∉qK (env::outer)->g.get? b=none/\H b=none)->∀h',Heap.LeftW (hideAll s.heap d) (env::outer) e C a0 s.heap h'->Q () { s with heap:=h' }:=by
  intro d hi1 w h' ⟨st,ff,r,us⟩;refine hQ h' (λb o h nb hx=>?_) (λb o h mb=>?_) ?_ (by obtain⟨i,v,T,I,t,j,_,l,p,_⟩:=r;exact⟨i,v,T,j,l,p⟩)
  ·refine st b o (bL d h λhm=>?_)
   obtain⟨z1,z2⟩:=w b hm nb;rcases hx with ⟨o',q⟩|⟨u,q⟩
   ·rw[z1]at q;cases q
   ·rw[z2]at q;cases q
  ·obtain⟨_,o',a,f⟩:=J.mem mb
   rw[h]at a;cases a;exact us b o h f
  ·obtain⟨i,v,T,I,t,j,⟨P,Y⟩,l,p,B,n,hT,c,X⟩:=r
   have nT:T∉qK (env::outer):=λhm=>by
    obtain⟨_,o',a,f⟩:=J.mem hm;obtain⟨sl,z⟩:=us T o' a f;rw[hT]at z;cases z;exact f t c
   have both:g.get? T=none/\H T=none:=by
    cases q:s.heap.get? T with
    |some o=>
     by_cases hm:T∈d
     ·exact w T hm nT
     ·rw[bL d q hm]at B;cases B
    |none=>
     constructor
     ·cases z:g.get? T with
      |none=>rfl|some o=>obtain⟨o',Z⟩:=th T o z;rw[q]at Z;cases Z
     ·cases z:H T with
      |none=>rfl|some u=>obtain⟨o',Z⟩:=tr T u z;rw[q]at Z;cases Z
   exact⟨N,U,i,v,a0,j,P,l,Y,.inr ⟨T,I,t,p,n,both.1,both.2,hT,c,X⟩⟩
 have stay:∀d:bZ,(hideAll s.heap d).StaysIn s.heap:=λd b o q=>of_hideAll d q;rcases D with D|⟨T,I,t,D,n,K,S,hT,c,X⟩
 ·have hn:∀b∈e::qK (env::outer),(hideAll s.heap (e::qK (env::outer))).get? b=none:=λb h=>hideAll_none _ h
  refine wpAny_leaving_firstW (base:=hideAll s.heap (e::qK (env::outer))) y (frames_at J λb h=>hn b (au _ h)) hf he (stay _) (hn e (ax ..)) hd D h0 ?_;rw[hc];refine fin _ (λb h=>au _ h) λb h nb=>?_;rcases cA.mp h with rfl|h
  ·exact⟨N,U⟩
  ·exact absurd h nb
 ·have hn:∀b∈e::T::qK (env::outer),(hideAll s.heap (e::T::qK (env::outer))).get? b=none:=λb h=>hideAll_none _ h
  refine wpAny_leaving_nextW (base:=hideAll s.heap (e::T::qK (env::outer))) y (frames_at J λb h=>hn b (au _ (au _ h))) hf
   ⟨oe,vs,T,I,t,he,⟨hc,h0⟩,hd,D,hn T (au _ (ax ..)),n,hT,c,X⟩ (stay _) (hn e (ax ..)) ?_
  refine fin _ (λb h=>au _ (au _ h)) λb h nb=>?_;rcases cA.mp h with rfl|h
  ·exact⟨N,U⟩
  ·rcases cA.mp h with rfl|h
   ·exact⟨K,S⟩
   ·exact absurd h nb
end
inductive MX (P:Program)(w:World)(outer:cn)(H:Hp)(s:Shared)(E:XK)(e:Value)(s':Shared):Prop
 |mk (ea C:Addr) (H':Hp) (he:e=.ref ea) (os:s'.os=s.os) (b:AllBare s'.gens) (un:Un (qK outer) [] H H' s.heap s'.heap) (hk:jL P w H' s'.heap) (ly:wV H' s'.heap s.heap ea (.ref C)) (tr:Tr s'.heap ea) (q:E (.ref C) none H')
noncomputable def gx (P:Program)(w:World):gq:=λouter H s E e s'=>MX P w outer H s E e s'
def _root_.L2.jd.obj {o:HO}(x:jd P w H h a o):∃ob,h.get? a=some ob:=by
 cases o with
 |lst xs=>obtain⟨_,_,_,_,e⟩:=x;exact⟨_,e⟩|tup xs=>obtain⟨_,_,_,o,e,_⟩:=x;exact⟨o,e⟩|dK kvs=>obtain⟨_,_,_,_,o,_,_,e,_⟩:=x;exact⟨o,e⟩|dT kvs=>obtain⟨_,_,_,_,o,_,_,e,_⟩:=x;exact⟨o,e⟩|set S n=>obtain⟨o,_,_,_,e,_⟩:=x;exact⟨o,e⟩|ins C d fs=>obtain⟨_,_,_,e,_⟩:=x;exact⟨_,e⟩|own y=>exact x|xd fs=>obtain⟨_,⟨o,_,_,e,_⟩,_⟩:=x;exact⟨o,e⟩|rng lo i=>obtain⟨_,_,_,e⟩:=x;exact⟨_,e⟩|frz ob u=>exact⟨ob,x.1⟩|tbl ps=>exact⟨_,(show h.get? a=some _ from x)⟩|met f y=>exact⟨_,(show h.get? a=some _ from x)⟩|ext φ=>exact x.2.1
def FZ {K:Frag}{cd:Value}{A:Around}{outer:cn}{E:XK}
  {h:Hp}{a C:Addr}(I:Inv (wX (gx P w) P w K mg base N qual scope f cd A outer s H E) pins σ h s')(x:wV h s'.heap s.heap a (.ref C))(y:E (.ref C) none h):
  (wX (gx P w) P w K mg base N qual scope f cd A outer s H E).xe (.ref a) s':=by
 have bs:Un (qK outer) [] H h s.heap s'.heap:=I.base;have stk:∀b∈qK (envOfC qual scope s.heap.objs.size f cd::outer),h b=none:=I.stkFree;have p:s.heap.get? s.heap.objs.size=none:=Heap.get?_none_of_le (ar _);have g:(envOfC qual scope s.heap.objs.size f cd).frame=some s.heap.objs.size:=rfl;have mem:∀b,b∈qK (envOfC qual scope s.heap.objs.size f cd::outer)↔b=s.heap.objs.size∨b∈qK outer:=λb=>by
  unfold qK;rw[bw,g];exact mem_cons
 show wpAny (model P w) (A.deeper (envOfC qual scope s.heap.objs.size f cd)) (leaving (envOfC qual scope s.heap.objs.size f cd) (.ref a)) _ _ s';refine O4 (base:=base) (L:=s.heap.objs.size) I.ok.frames rfl I.stack x (λb u e=>(I.hok b u e).obj) (λb o e=>bs.there b o e (by simp)) λh' k1 k2 X t=>?_
 have r:∀b u,h b=some u->b∉qK (envOfC qual scope s.heap.objs.size f cd::outer):=λb u e hm=>by rw[stk b hm]at e;cases e
 refine⟨a,C,h,rfl,I.os,I.bare,⟨λb o e n nb _=>?_,λb o e n mb _=>?_,λb o e n d=>bs.free b o e n d,λb o e d=>?_,bs.tups,bs.frzs,bs.tbls⟩,λb u e=>?_,X,t,y⟩
 ·have i:b≠s.heap.objs.size:=λz=>by rw[z,p]at e;cases e
  exact k1 b o (bs.keep b o e n nb (by simp)) (λhm=>(mem b).mp hm |>.elim i nb) (.inl ⟨o,e⟩)
 ·obtain⟨l,q⟩:=bs.slot b o e n mb (by simp)
  obtain⟨S,Q⟩:=k2 b _ q ((mem b).mpr (.inr mb));exact⟨S,Q⟩
 ·obtain⟨o',q⟩:=bs.there b o e d
  by_cases hm:b∈qK (envOfC qual scope s.heap.objs.size f cd::outer)
  ·obtain⟨l,z⟩:=k2 b o' q hm;exact⟨_,z⟩
  ·exact⟨o',k1 b o' q hm (.inl ⟨o,e⟩)⟩
 ·refine(I.hok b u e).stay (λc v j q=>?_) (λ_ q=>q) λ_ _ q=>q
  rcases j with z|z
  ·rw[z]at q ⊢;exact k1 b v q (r b u e) (.inr ⟨u,e⟩)
  ·exact k1 c v q (r c _ z) (.inr ⟨_,z⟩)
def Pa {E:XK}{e:Value}(I:Inv X pins σ H s)(h:gx X.prog X.w X.stack H s E e s')(g:Heap)(r:∀b o,g.get? b=some o->∃o',s.heap.get? b=some o'):
  ∃a C c,e=.ref a/\Inv X pins σ c s'/\wV c s'.heap g a (.ref C)/\Tr s'.heap a/\E (.ref C) none c:=by
 obtain⟨a,C,c,rfl,os,bare,un,hok,x,tr,u⟩:=h;obtain⟨p,v,d,t,f⟩:=s';obtain rfl:f=s.os:=os;refine⟨a,C,c,rfl,I.call (h':=p) (g':=v) (d':=d) (t':=t) (ch:=[]) un hok bare (λb z=>absurd z (by simp)),?_,tr,u⟩
 have up:∀b,s.heap.get? b=none->g.get? b=none:=λb n=>by
  cases z:g.get? b with
  |none=>rfl|some o=>obtain⟨o',q⟩:=r b o z;rw[n]at q;cases q
 obtain⟨a1,a2,j,vs,a0,S,Q,P,N,B⟩:=x;refine⟨up a a1,a2,j,vs,a0,S,Q,P,N,?_⟩;rcases B with B|⟨T,l,i,M,L,K,J,D,A,y⟩
 ·exact .inl B
 ·exact .inr ⟨T,l,i,M,L,up T K,J,D,A,y⟩
noncomputable def gW (K:Frag)(E:XK):XR:=λx H=>∀C:Addr,kf K x (.ref C)->E (.ref C) none H
inductive Xd (K:Frag)(n:Nat)(f:Fn)(vs:List V)(H:Hp)(Q:VK)(E:XK):Prop
 |mk (len:vs.length=n) (φ:bZ) (A:Hx) (ws:List W) (S:zI K φ A H) (r:zy K φ H ws vs) (q:(f ws A).post (PB K φ H Q) (EB K φ H (gW K E)))
def Xd.len {K:Frag}{f:Fn}{vs:List V}{Q:VK}{E:XK}(h:Xd K n f vs H Q E):vs.length=n:=by cases h;assumption
inductive kS (P:Program)(w:World)(K:Frag)(mg:cm)(base:Heap)(k:Nat)(x:Str)(n:Nat)(f:Fn):Prop
 |mk (fa:Addr) (fd:FuncData) (ps:cc) (F:yY P w K mg base (gx P w) k fa fd ps (Xd K n f)) (at_:mg x=some (.ref fa)) (kp:keepIn K (.ref fa)=true) (bi:Binds K fd ps [])
structure gK (X:Cx)(g:Heap)(xr:XR):Prop where
 th:∀pins σ H s,Inv X pins σ H s->∀b o,g.get? b=some o->∃o',s.heap.get? b=some o'
 out:∀pins σ H s ea C x,Inv X pins σ H s->wV H s.heap g ea (.ref C)->kf X.K x (.ref C)->xr x H->X.xe (.ref ea) s
def fg {K:Frag}{cd:Value}{A:Around}{outer:cn}{E:XK}:
  gK (wX (gx P w) P w K mg base N qual scope f cd A outer s H E) s.heap (gW K E) where
 th:=λpins σ h s' I b o e=>(show Un (qK outer) [] H h s.heap s'.heap from I.base).there b o e (by simp)
 out:=λpins σ h s' d C x I l c a=>FZ I l (a C c)
section
variable {g:Heap}{c:Expr}
noncomputable def fh (K:Frag)(X:XR):XK:=λc _ H=>∃x C,c=.ref C/\kf K x (.ref C)/\X x H
def gK.passes (x:gK X g xr):Passes (gx X.prog X.w) X (fh X.K xr):=λpins σ H s e s' I h=>by
 obtain⟨b,C,d,rfl,i,l,_,nm,f,E,c,a⟩:=Pa I h g (x.th pins σ H s I);cases E;exact x.out pins σ d s' b C nm i l c a
end
noncomputable def ZT (n:Nat)(m:Ex):Fn:=λws A=>(m (ws.map some++List.replicate (n-ws.length) none) A).bind λf A1=>match f with
 |.rt w=>.ok w A1|.nx _=>.ok .non A1|_=>.bad
inductive Ur (C:Addr)(bmB:bY)(newId:String)(h:Heap):Prop
 |mk (tl N nm q bs hdct sn sub ab col dd k0 k1 k2 k3 k5 mN:_) (obj:h.get? C=some (excClassObj nm q C N bs tl hdct sn sub ab col dd k0 k1 k2 k3 k5 newId)) (ns:h.Ns N mN) (init:mN "__init__"=none) (tail:OwnTail h bmB tl)
noncomputable def fi (d:Data):Option { c:ClassData // d=.cls c }:=match d with
 |.cls c=>some ⟨c,rfl⟩|_=>none
def gM (K:Frag)(C:Addr)(b:bY)(newId:String):Bool:=(K.lookup C).any λo=>(fi o.data).any λc=>
 o.cls==.type "type" && c.1.mro==.ref C::c.1.mro.tail&&o.slots.toList==[o.slots.toList.getD 0 none,o.slots.toList.getD 1 none,o.slots.toList.getD 2 none,o.slots.toList.getD 3 none,some (.builtin newId),o.slots.toList.getD 5 none]
  && c.1.hasDel==false&&PySem.W.tailIn K b c.1.mro.tail&&PySem.W.nsOkIn K c.1.ns&&nsIn K c.1.ns "__init__" == some none
def Us {K:Frag}{C:Addr}{b:bY}{newId:String}(X:K.In h)(q:gM K C b newId=true):Ur C b newId h:=by
 obtain⟨⟨o,dd,dat,⟨s⟩⟩,H,q⟩:=(any_eq_true _ _).mp q;obtain⟨⟨⟨nm,bs,mro,ns,Q,hd,sn,sub,ab,col,del⟩,i⟩,-,q⟩:=(any_eq_true _ _).mp q;simp only[aw,aK]at q;obtain⟨⟨⟨⟨⟨⟨g,f⟩,d⟩,c⟩,a⟩,e⟩,E⟩:=q;cases i;cases g;cases c;exact⟨mro.tail,ns,nm,Q,bs,hd,sn,sub,ab,col,dd,_,_,_,_,_,_,X _ _ (by rw[H,f,d];rfl),.of_isNs (PySem.W.isNs_of_in X e),PySem.W.nsMap_none_of_in X e E,PySem.W.tail_of_in X a⟩
noncomputable def Gb (x:Str)(M:Ea):Ex:=λρ A=>(M ρ A).bind λ_ A1=>.exc x A1
section
variable {g:Heap}{es:cg}{np:Pos}{C:Addr}{B newId initId:String}{bmB:bY}
def B7 {e:Addr}(x:gK X g xr)(I:Inv X pins σ H s)(m:Heap.MadeExcOf s.heap h' e (.ref C) vs):
  Inv X pins σ H { s with heap:=h' }/\wV H h' g e (.ref C):=by
 have N:∀b,s.heap.get? b=none->H b=none:=λb z=>by
  cases q:H b with
  |none=>rfl|some u=>obtain⟨o,k⟩:=(I.hok b u q).obj;rw[z]at k;cases k
 have n:∀b,s.heap.get? b=none->g.get? b=none:=λb z=>by
  cases q:g.get? b with
  |none=>rfl|some o=>obtain⟨o',k⟩:=x.th pins σ H s I b o q;rw[z]at k;cases k
 obtain⟨t,he,a,h⟩:=m.there;refine⟨I.call' (s':={ s with heap:=h' }) (ch:=[]) rfl ⟨λb o q _ _ _=>m.keeps b o q,λb o q _ _ _=>⟨o.slots,m.keeps b o q⟩,λb o q z _=>z,λb o q _=>⟨o,m.keeps b o q⟩,λ_ _ q=>q,λ_ _ _ q=>q,λb ps q=>⟨#[],by rw[Array.append_empty];exact q⟩⟩
  (λb u q=>(I.hok b u q).stay (λc v _ z=>m.keeps c v z) (λ_ z=>z) λ_ _ z=>z) I.bare (λb z=>absurd z (by simp)),?_⟩
 exact⟨n e m.new,N e m.new,_,_,_,he,rfl,rfl,rfl,.inl rfl⟩
def Dq (o:gK X g xr)(f:kf X.K x (.ref C))(ex:gM X.K C bmB newId=true)(FB:ExcBaseFacts B newId initId bmB)(z:SA X xr (e::es) mr)(v:Zq mr n)(hn:n<=sizeLine:=by decide)(w:Gl X x:=by rfl)(a:X.calm=true:=by rfl)
  (d:(x==("__debug__":Str))=false:=by decide)(he:starEach (e::es) X.env=(false,eval e X.env)::starEach es X.env:=by rfl)(l:(backTo cpos (starEach es X.env)).any (·.1)=false:=by rfl):
  SS X xr (.Raise (some (.Call (.Name x np) (e::es) [] cpos)) none pos) (Gb x mr):=by
 intro pins s σ H D I ⟨φ,A,ρ,S,re,h⟩;have hm:X.mg x=some (.ref C):=a8 I.mod.kin I.mod.glob f;obtain⟨t,N,nm,q,bs,hdct,sn,sub,ab,col,dd,k0,k1,k2,k3,k5,mN,M,J,c,T⟩:=Us I.mod.kin ex;refine wpAny_Raise_call_subT (C:=C) (nm:=nm) (q:=q) (N:=N) (bs:=bs) (bm:=t) (hdct:=hdct) (sn:=sn) (sub:=sub) (ab:=ab) (col:=col) (dd:=dd) (k0:=k0) (k1:=k1) (k2:=k2) (k3:=k3) (k5:=k5)
  FB (mN:=mN) (T.hasType FB.hasBase) (I.ok.hd a) (by rw[he];show(false || (backTo cpos (starEach es X.env)).any (·.1))=false;rw[l];rfl) c (Y2 I w hm ⟨rfl,?_⟩ d)
 have h':=zZ.mp h;have j:=z cpos pins s σ H (λvs H1=>vs.length<=sizeLine/\xr x H1) I ⟨φ,A,ρ,S,re,?_⟩
 ·rw[he]at j ⊢
  refine Calls.evalArgs_plain (wpAny_mono j (λus s2 P=>?_) λ_ _ y=>y);obtain⟨vs,H2,i,r,hlen,u⟩:=P;refine⟨rfl,?_,i.bk _ _ M,J.keeps i.bk,T.keeps i.bk,λh3 U m=>?_⟩
  ·rw[<- r.length];exact hlen
  ·obtain⟨Z,L⟩:=B7 o i m
   exact o.out pins σ H2 _ U C x Z L f u
 ·cases E:mr ρ A with
  |ok ws A1=>
   rw[E]at h';intro b H1 vs p Y Q;refine⟨?_,h' b H1 p Y⟩;rw[<- Q.length,v ρ A ws A1 E];exact hn
  |exc y A1=>rw[E]at h';exact h'|bad=>rw[E]at h';exact h'
end
noncomputable def mJ:List Ev->Str->Ev
 |[],acc=>λ_ A=>.ok (.str acc) A|m::ms,acc=>λρ A=>(m ρ A).bind λw A1=>match w with
  |.str y=>if (acc++y).length<=sizeLine then mJ ms (acc++y) ρ A1 else .bad|_=>.bad
section
variable {es:cg}{m:Ev}{ms:List Ev}
inductive SJ (X:Cx)(xr:XR):List Expr->List Ev->Prop where
 |nil:SJ X xr [] []
 |cons {e:Expr} {es:cg} {m:Ev} {ms:List Ev} (h:SE X xr e m) (r:SJ X xr es ms):SJ X xr (e::es) (m::ms)
end
section
variable {A:Around}{e C:Addr}{oe:Obj}{bmB bmD:bY}{newId newD:String}{Q:Bool->Shared->Prop}
def Nx (h:Heap)(C D:Addr):Prop:=∃o cd,h.get? C=some o/\o.data=.cls cd/\cd.mro.contains (.ref D)=true
def Fo (lc:Ur C bmB newId s.heap)(ld:Ur D bmD newD s.heap)(j:bmD.contains (.type "BaseException")=true)(he:s.heap.get? e=some oe)(a:oe.cls=.ref C)(up:Nx s.heap C D)(w:Q true s):
  wpAny M A (excMatches (.ref e) (.ref D)) Q E s:=by
 obtain⟨h,g,d,t,os⟩:=s;obtain⟨n,N,nm,q,bs,hdct,sn,sub,ab,col,dd,k0,k1,k2,k3,k5,mN,l,_,_,_⟩:=lc;obtain⟨T,Z,u,J,y,c,r,S,z,p,x,Y,X,U,P,L,v,o,_,_,I⟩:=ld;obtain⟨K,cd,b,hd,hm⟩:=up;rw[l]at b;cases b;have H:(excClassObj nm q C N bs n hdct sn sub ab col dd k0 k1 k2 k3 k5 newId).data=.cls cd:=hd;unfold excClassObj at H;cases H;have B:(Value.ref D::T).contains (.type "BaseException")=true:=by rw[List.contains_cons,I.hasType j,Bool.or_true]
 have i:(Value.ref C::n).contains (.ref D)=true:=hm;have f:=tc_notTuple;unfold excMatches
 repeat (first|(with_reducible refine wpAny_loadPart_at he ?_;rw[a])|with_reducible refine wpAny_loadPart_at o ?_|with_reducible refine wpAny_loadPart_at l ?_|(with_reducible refine wpAny_isSubtype_exc o ?_;rw[B])|(with_reducible refine wpAny_isSubtype_exc l ?_;rw[i])|wp_step)
 exact w
end
section
variable {H0:Hp}{s0:Shared}{ea C:Addr}
def landed {T:Addr}{a0:Value}(g:Inv X pins σ H0 s0)(I:Inv X pins σ H s)(x:wV H s.heap s0.heap ea (.ref C))(nT:s0.heap.get? T=none)(hT:H T=none)
  (th:∀b o,s0.heap.get? b=some o->∃o',s.heap.get? b=some o')
  (fl:Heap.FlyingW (hideAll s.heap (ea::T::qK X.stack)) X.stack ea (.ref C) a0 h')(us:s.heap.UpToSlots h'):
  Inv X pins σ H { s with heap:=h' }/\wV H h' s0.heap ea (.ref C)/\Tr h' ea/\∀b o,s0.heap.get? b=some o->∃o',h'.get? b=some o':=by
 obtain⟨st,_,ff,oe,vs,t,oT,P,he,⟨A,h0⟩,hd,h1,l,B,D,w,h3⟩:=fl;have ng:s0.heap.get? ea=none:=by cases x;assumption
 have nH:H ea=none:=by cases x;assumption
 have kept:∀b o,s.heap.get? b=some o->b∉qK X.stack->b≠ea->b≠T->h'.get? b=some o:=λb o q n1 j N=>st b o (bL _ q λhm=>by
  rcases cA.mp hm with z|hm
  ·exact j z
  rcases cA.mp hm with z|hm
  ·exact N z
  ·exact n1 hm)
 have slot:∀b o,s.heap.get? b=some o->b∈qK X.stack->∃S,h'.get? b=some { o with slots:=S }:=λb o q hm=>by
  obtain⟨_,o',h,f⟩:=I.stack.mem hm;rw[q]at h;cases h;exact us b o q f
 have off:∀b u,H b=some u->b∉qK X.stack/\b≠ea/\b≠T:=λb u q=>⟨λhm=>(by rw[I.stkFree b hm]at q;cases q),λz=>(by rw[z,nH]at q;cases q),λz=>(by rw[z,hT]at q;cases q)⟩
 have ne:∀b o,s0.heap.get? b=some o->b≠ea/\b≠T:=λb o q=>⟨λz=>(by rw[z,ng]at q;cases q),λz=>(by rw[z,nT]at q;cases q)⟩
 have any:∀b o o',s0.heap.get? b=some o'->s.heap.get? b=some o->∃S,h'.get? b=some { o with slots:=S }:=λb o o' Q q=>by
  by_cases hm:b∈qK X.stack
  ·exact slot b o q hm
  ·exact⟨o.slots,kept b o q hm (ne b o' Q).1 (ne b o' Q).2⟩
 have cell:∀y c,X.env.cells.lookup y=some c->∀v,s.heap.IsCell c v->h'.IsCell c v:=λy c e v ⟨o,L,hd⟩=>by
  obtain⟨_,o0,d,_⟩:=g.cell y c e;obtain⟨S,z⟩:=any c o o0 d L;exact⟨_,z,hd⟩
 have inv:Inv X pins σ H { s with heap:=h' }:=by
  refine⟨I.ok,I.os,I.bare,⟨λb o q n K nx=>?_,λb o q n hf nx=>?_,I.base.free,λb o q nx=>?_,I.base.tups,I.base.frzs,I.base.tbls⟩,?_,λy c e=>?_,I.free,I.freeC,λp hp=>?_,λb u q=>?_,I.len⟩
  ·have a:=I.base.keep b o q n K nx
   have Q:=g.base.keep b o q n K nx;refine kept b o a (λhm=>?_) (ne b o Q).1 (ne b o Q).2;rcases cA.mp (I.stkSub b hm) with z|z
   ·exact absurd (aD (aG q) I.ok.above) (by rw[z];exact aW _)
   ·exact K z
  ·obtain⟨S,a⟩:=I.base.slot b o q n hf nx
   obtain⟨sl0,Q⟩:=g.base.slot b o q n hf nx;obtain⟨E,z⟩:=any b _ _ Q a;exact⟨E,z⟩
  ·obtain⟨J,a⟩:=I.base.there b o q nx
   obtain⟨o0,Q⟩:=g.base.there b o q nx;obtain⟨S,z⟩:=any b J o0 Q a;exact⟨_,z⟩
  ·obtain⟨m,⟨o,es,ep,L,r⟩,k⟩:=I.loc
   obtain⟨_,⟨o0,_,_,d,_⟩,_⟩:=g.loc;obtain⟨S,z⟩:=any _ o o0 d L;refine⟨m,⟨_,es,ep,z,r⟩,λi y v e1 e2 e3=>?_⟩;obtain⟨u,ru,lk⟩:=k i y v e1 e2 e3;refine⟨u,ru,?_⟩;rcases lk with lk|⟨lk,c,ec,M⟩
   ·exact .inl lk
   ·exact .inr ⟨lk,c,ec,cell y c ec _ M⟩
  ·obtain⟨v,hv⟩:=I.cell y c e
   exact⟨v,cell y c e v hv⟩
  ·obtain⟨p1,p2,Y,U,p5⟩:=I.pin p hp
   have Z:=(g.pin p hp).1;refine⟨kept _ _ p1 (λhm=>?_) (ne _ _ Z).1 (ne _ _ Z).2,p2,Y,U,p5⟩;rcases cA.mp (I.stkSub _ hm) with z|z
   ·exact Y z
   ·exact U z
  ·refine(I.hok b u q).stay (λc v M z=>?_) (λ_ z=>z) λ_ _ z=>z
   rcases M with e|e
   ·obtain⟨n1,j,N⟩:=off b u q
    rw[e]at z ⊢;exact kept b v z n1 j N
   ·obtain⟨n1,j,N⟩:=off c _ e
    exact kept c v z n1 j N
 have both:s0.heap.get? t=none/\H t=none:=by
  cases q:s.heap.get? t with
  |some o=>
   by_cases hm:t∈ea::T::qK X.stack
   ·rcases cA.mp hm with z|hm
    ·exact absurd z B
    rcases cA.mp hm with z|hm
    ·rw[z];exact⟨nT,hT⟩
    ·obtain⟨S,z⟩:=slot t o q hm
     obtain⟨_,o',h,f⟩:=I.stack.mem hm;rw[q]at h;cases h;rw[D]at z;cases z;exact absurd w (f P)
   ·rw[bL _ q hm]at l;cases l
  |none=>
   constructor
   ·cases z:s0.heap.get? t with
    |none=>rfl|some o=>obtain⟨o',k⟩:=th t o z;rw[q]at k;cases k
   ·cases z:H t with
    |none=>rfl|some u=>obtain⟨o',k⟩:=(I.hok t u z).obj;rw[q]at k;cases k
 exact⟨inv,⟨ng,nH,oe,vs,a0,he,A,hd,h0,.inr ⟨t,oT,P,h1,B,both.1,both.2,D,w,h3⟩⟩,⟨oe,vs,t,he,hd,h1⟩,λb o q=>by
  obtain⟨J,a⟩:=th b o q;obtain⟨S,z⟩:=any b J o q a;exact⟨_,z⟩⟩
def flying (I:Inv X pins σ H s)(x:wV H s.heap s0.heap ea (.ref C))(tr:Tr s.heap ea):
  ∃T a0,s0.heap.get? T=none/\H T=none/\Heap.FlyingW (hideAll s.heap (ea::T::qK X.stack)) X.stack ea (.ref C) a0 s.heap:=by
 obtain⟨w,y,n,vs,a0,he,r,hd,h0,d⟩:=x;obtain⟨l,v,z,h,a,c⟩:=tr;rw[he]at h;cases h;rw[hd]at a;cases a;rcases d with d|⟨T,p,t,d,i,e,j,hT,f,u⟩
 ·rw[d]at c;cases c
 ·have hn:∀b∈ea::T::qK X.stack,(hideAll s.heap (ea::T::qK X.stack)).get? b=none:=λb g=>hideAll_none _ g
  exact⟨T,a0,e,j,λb o q=>of_hideAll _ q,hn ea (ax ..),frames_at I.stack λb g=>hn b (au _ (au _ g)),
   n,vs,T,p,t,he,⟨r,h0⟩,hd,d,hn T (au _ (ax ..)),i,hT,f,u⟩
end
noncomputable def Kt (o:Obj):HO:=.frz o (.own 0)
noncomputable def Jm (K:Frag)(C D:Addr):Bool:=match K.lookup C with
 |some ⟨_,_,.cls cd,_⟩=>cd.mro.contains (.ref D)|_=>false
def fj {K:Frag}{C:Addr}(X:K.In h)(e:Jm K C D=true):Nx h C D:=by
 unfold Jm at e
 split at e
 ·rename_i H
  exact⟨_,_,X _ _ H,rfl,e⟩
 ·cases e
section
variable {H0:Hp}{s0:Shared}{ea C L:Addr}
def Yc (i:Inv X pins σ H0 s0)(I:Inv X pins σ H s)(x:wV H s.heap s0.heap ea (.ref C)):∃a,a.cls=.ref C/\H ea=none/\Inv X pins σ (upd H ea (Kt a)) s:=by
 obtain⟨l,d,a,vs,a0,he,r,_⟩:=x;refine⟨a,r,d,?_⟩;have ne:∀b o,s0.heap.get? b=some o->b≠ea:=λb o q z=>by rw[z,l]at q;cases q
 have at_:∀b,b≠ea->upd H ea (Kt a) b=H b:=λb n=>by unfold upd;exact aj n
 have N:∀b u,H b=some u->upd H ea (Kt a) b=some u:=λb u q=>by
  rw[at_ b λz=>by rw[z,d]at q;cases q];exact q
 refine⟨I.ok,I.os,I.bare,⟨I.base.keep,I.base.slot,λb o q n nx=>?_,I.base.there,λb xs q=>N _ _ (I.base.tups b xs q),λb o u q=>N _ _ (I.base.frzs b o u q),λb ps q=>?_⟩,I.loc,I.cell,?_,λy c e=>?_,λp f=>?_,λb u q=>?_,I.len⟩
 ·obtain⟨o0,Q⟩:=i.base.there b o q nx
  rw[at_ b (ne b o0 Q)];exact I.base.free b o q n nx
 ·obtain⟨more,z⟩:=I.base.tbls b ps q
  exact⟨more,N _ _ z⟩
 ·obtain⟨m,⟨o0,_,_,h,_⟩,_⟩:=i.loc
  rw[at_ _ (ne _ o0 h)];exact I.free
 ·obtain⟨v,o0,h,_⟩:=i.cell y c e
  rw[at_ _ (ne _ o0 h)];exact I.freeC y c e
 ·obtain⟨j,g,P⟩:=I.pin p f
  refine⟨j,?_,P⟩;rw[at_ _ (ne _ _ (i.pin p f).1)];exact g
 ·by_cases z:b=ea
  ·subst z
   have:u=Kt a:=by
    unfold upd at q;rw[ag rfl]at q;exact(aA q).symm
   subst this;exact⟨he,⟨a,he⟩⟩
  ·rw[at_ b z]at q
   exact(I.hok b u q).stay (λ_ _ _ z=>z) (λc z=>N c _ z) λc xs z=>N c _ z
def AZ (X:Cx)(pins:b8)(σ:St)(s0:Shared)(D:Addr)(k:Addr->Addr->Hp->Prop)(e:Value)(s:Shared):Prop:=
 ∃E C H B n,e=.ref E/\Inv X pins σ H s/\wV H s.heap s0.heap E (.ref C)/\Tr s.heap E/\(∀b o,s0.heap.get? b=some o->∃o',s.heap.get? b=some o')/\Mi.gM X.K C B n=true/\Jm X.K C D=true/\∀a,a.cls=.ref C->H E=none->k E C (upd H E (Kt a))
def AO {l n:Str}{p:bY}{newD:String}{S:cx}{B:Stmt}{np hp:Pos}{Q:Flow->Shared->Prop}{k:Addr->Addr->Hp->Prop}
  (I0:Inv X pins σ H0 s0)(t:X.stack=X.env::X.outer)(hL:X.env.frame=some L)(hD:kf X.K l (.ref D))(exD:Mi.gM X.K D p newD=true)(hbD:p.contains (.type "BaseException")=true)
  (hN:X.N.Nodup)(hi:X.N[i]? =some n)(hx:Loc X.env.scope n)
  (y:wpAny (model X.prog X.w) X.A (execs body X.env) (λf s1=>f=.next/\Q .next s1) (AZ X pins σ s0 D k) s0)
  (b:∀E C H s2,Inv X pins (σ.set i (some (.ref E))) H s2->k E C H->∀E',wpAny (model X.prog X.w) (X.A.mark (some (.ref E))) (execs (B::S) X.env)
   (λf s4=>wpAny (model X.prog X.w) X.A (do bindName X.env n .none;unbindBehindTheSuite X.env n hp) (λ_ s5=>Q f s5) X.xe s4) E' s2)
  (hg:Gl X l)(Z:(l==("__debug__":Str))=false:=by decide)(hf:X.fn n=true∨X.env.scope.names.lookup n=some .local:=by first|exact .inl rfl|exact .inr rfl|assumption):
  wpAny (model X.prog X.w) X.A (exec (.Try body [.ExceptHandler (some (.Name l np)) (some n) (B::S) hp] [] [] pos) X.env) Q X.xe s0:=by
 refine wpAny_Try_except (wpAny_mono y (λf s1 ⟨ef,q⟩=>?_) λe s1 h=>?_)
 ·subst ef
  exact wpAny_execs_nil q
 obtain⟨E,C,H,bmC,newC,rfl,I,x,tr,th,exC,up,hk⟩:=h;have hm:X.mg l=some (.ref D):=a8 I.mod.kin I.mod.glob hD;obtain⟨T,a0,nT,hT,fl⟩:=flying I x tr;have Y:X.A.frames=some (X.env::X.outer):=by rw[<- t];exact I.ok.frames
 refine wpAny_looks_onW Y hL (by rw[<- t];exact fl) λh₄ g d=>?_
 refine wpAny_landsW g λo a U=>?_;obtain⟨c,x5,r,z⟩:=landed I0 I x nT hT th (by rw[<- t]at a;exact a) (d.trans U)
 obtain⟨_,_,oe,_,_,he,hc,_⟩:=id x5;refine wpAny_handleBy_cons (codeAny_handlers_test (Calls.Name_function_global c.ok.kind hg (Calls.loadGlobal_global (by rw[c.ok.glob];exact c.mod.glob.keeps c.bk) hm ?_) Z)) (by intro q;cases q)
 refine Fo (s:={ s1 with heap:=o }) (Us c.kIn exC) (Us c.kIn exD) hbD he hc (fj c.kIn up) ?_
 refine codeAny_handlers_suite_as ?_;obtain⟨T',a0',M,hT',fl'⟩:=flying c x5 r;refine lands_againW fl' λh₆ j u=>?_;obtain⟨I6,x6,_,_⟩:=landed I0 c x5 M hT' z j u;obtain⟨of,P,J,I7⟩:=Yc I0 I6 x6;exact WK (v:=.ref E) I7 hN hi hx rfl (λs7 I7=>b E C _ s7 I7 (hk of P J) _) hf
end
section
variable {A:Around}
def name_goes {n:Str}{Q:Unit->Shared->Prop}(I:Inv X pins σ H s)(hN:X.N.Nodup)(D:X.N[i]? =some n)(Z:X.env.scope.names.lookup n=some .local)
  (h:∀s',Inv X pins (σ.set i none) H s'->Q () s'):wpAny M A (do bindName X.env n .none;unbindBehindTheSuite X.env n pos) Q E s:=by
 obtain⟨m,hn,Y⟩:=id I.loc;have f:i < σ.length:=by rw[I.len];exact(cB.mp D).1
 refine wpAny_nameGoes_keeps Z hn (by rw[I.ok.kind];rfl) λh' v w t=>h _ ?_
 have old:∀b o,b≠X.env.locals->s.heap.get? b=some o->h'.get? b=some o:=λb o n q=>(t.2 b n).trans q;have nl:∀{b:Addr}{u:HO},H b=some u->b≠X.env.locals:=λq z=>by rw[z,I.free]at q;cases q
 have ab:∀{b:Addr}{k:Nat},b<k->k<=X.env.locals->b≠X.env.locals:=λl g=>aM (aD l g);refine⟨I.ok,I.os,I.bare,⟨λb o e z C x=>?_,λb o e z C x=>?_,I.base.free,λb o e x=>?_,I.base.tups,I.base.frzs,I.base.tbls⟩,⟨_,w,λj y K a r e3=>?_⟩,λy c e=>?_,I.free,I.freeC,λp T=>?_,λb u q=>?_,by simpa using I.len⟩
 ·exact old b o (ab (aG e) I.ok.above) (I.base.keep b o e z C x)
 ·obtain⟨S,a⟩:=I.base.slot b o e z C x
  exact⟨S,old b _ (ab (aG e) I.ok.above) a⟩
 ·obtain⟨o',a⟩:=I.base.there b o e x
  exact⟨o',old b _ (ab (aG e) I.ok.above) a⟩
 ·by_cases B:j=i
  ·subst B
   rw[aJ f]at r;cases r
  ·rw[aH (Ne.symm B)]at r
   obtain⟨U,L,q⟩:=Y j y K a r e3;refine⟨U,L,?_⟩;rcases q with ⟨k,e⟩|⟨k,c,e,z⟩
   ·have:y≠n:=λe=>B (Vg hN a (e ▸ D))
    exact .inl ⟨k,by simp[this,e]⟩
   ·exact .inr ⟨k,c,e,z.sameBut t (I.cne y c e)⟩
 ·obtain⟨J,z⟩:=I.cell y c e
  exact⟨J,z.sameBut t (I.cne y c e)⟩
 ·obtain⟨e,z,ne,P,d⟩:=I.pin p T
  exact⟨old _ _ ne e,z,ne,P,d⟩
 ·refine(I.hok b u q).stay (λc v hc z=>old c v ?_ z) (λ_ z=>z) λ_ _ z=>z
  rcases hc with e|e
  ·rw[e];exact nl q
  ·exact nl e
def Ff {n y:Str}{E:Addr}{np Y ap p:Pos}{Q:Flow->Shared->Prop}{B:cf}(I:Inv X pins (σ.set i (some (.ref E))) H s)(d:X.N.Nodup)(b:X.N[i]? =some n)(x:X.N[j]? =some y)
  (h:X.env.scope.names.lookup n=some .local)(g:Loc X.env.scope y)(q:∀s',Inv X pins (((σ.set i (some (.ref E))).set j (some (.ref E))).set i none) H s'->Q .next s')
  (o:swapsWith (.Name n np) (some (.Name y Y)) ap.line X.env=pure false)(hf:X.fn y=true∨X.env.scope.names.lookup y=some .local)
  (c:(n==("__debug__":Str))=false:=by decide):
  wpAny (model X.prog X.w) A (execs [.Assign [.Name y Y] (.Name n np) ap] X.env) (λf s4=>wpAny (model X.prog X.w) X.A (do bindName X.env n .none;unbindBehindTheSuite X.env n p) (λ_ s5=>Q f s5) X.xe s4) B s:=by
 obtain⟨m,hn,t⟩:=I.loc;have a:i < σ.length:=by have:=I.len;rw[bP]at this;rw[this];exact(cB.mp b).1
 obtain⟨u,r,l⟩:=t i n (.ref E) b (aJ a) (.inl h);obtain rfl:u=Value.ref E:=r;have hm:m n=some (.ref E):=by
  rcases l with ⟨_,e⟩|⟨k|k,_⟩
  ·exact e
  ·rw[show X.env.kindOf n=some .local from h]at k;cases k
  ·rw[show X.env.kindOf n=some .local from h]at k;cases k
 refine wpAny_execs_cons (wpAny_Assign_Name (wpAny_Name (wpAny_loadName_local I.ok.kind h hn hm ?_) c) o);exact WK (v:=.ref E) I d x g rfl (λs5 z=>wpAny_execs_nil (name_goes z d b h q)) hf
end
open PySem PySem.W PySem.Spec PySem.Calls PyProof.Rows Builtin Builtin.ObjectAttr Builtin.Getset_descriptor
section
variable {prog:Program}{A:Around}{K:Frag}{x:Addr}{name:Str}
def AB {a g:Value}(X:K.In h)(b:findIn K (.ref D) name=some (some a))(hn:specialIn K a "__get__"=some (some g))(H:takesIn K a=some true):Looks M h (find (.ref x) (.ref D) name) (.bind g a):=
 (looks_findIn (M:=M) X b).andThen ((show Looks M h (getOf (some a)) (some g) from looks_specialIn X hn).andThen
  ((show Looks M h (dataDescriptor? (some a) (some g)) (some (g,a)) from (looks_takesIn (M:=M) X H).andThen .now).andThen (Looks.tag .now)))
def Ab {tp:Value}{R:Result->Shared->Prop}(X:K.In s.heap)(L:Looks (model prog w) s.heap (typeOf (.ref x)) (.ref D))(hm:mroIn K D (.type "object")=some true)(h:R (.ok (.ret (.ref D))) s):
  codeAny (model prog w) A (.call (.builtin "getset_descriptor.__get__") ⟨[.builtin "object.__class__",.ref x,tp],[]⟩) R s:=by
 obtain⟨h0,g,d0,t0,o0⟩:=s;have Ls:=looks_mroIn (M:=model prog w) X hm;have S:=KF.slot_gs;refine codeAny_call_builtin S.plain KF.entry_gs (S.check _ _ _ _ _ _ _ _ KF.type_class (KF.args_gs _ _ _) ?_);unfold «getset_descriptor.__get__» descrGet;rw[dga_obj];refine cy (cz ?_);unfold descrGetter descrCheckInstance isInstance descrNameAndClass;simp only[KF.owner_class]
 repeat lk
 refine And.intro (Code.quiet_builtin _ (by decide +kernel)) (codeAny_builtin KF.entry_class ?_)
 unfold «object.__class__» shownTypeOf
 repeat lk
 exact h
def HC {rest:bY}{kw:List (Str×Value)}{Q:Unit->Shared->Prop}(X:K.In s.heap)(L:Looks M s.heap (typeOf (.ref x)) (.ref D))(hm:mroIn K D (.type "BaseException")=some true)
  (ok:argsOk "BaseException.__getattribute__" ⟨.ref x::rest,kw⟩)(h:Q () s):wpAny M A (checkBuiltinCall "BaseException.__getattribute__" ⟨.ref x::rest,kw⟩) Q E s:=by
 have cut:splitId "BaseException.__getattribute__"=some ("BaseException","__getattribute__"):=by first|rfl|decide +kernel
 have kinds:builtinKind "BaseException.__getattribute__"=some .slot∨builtinKind "BaseException.__getattribute__"=some .method:=by
  simp only[builtinKind,cut]
  first|exact .inl (by decide +kernel)|exact .inr (by decide +kernel)
 have Ls:=looks_mroIn (M:=M) X hm;have r:wpAny M A (match Manifest.signature? "BaseException.__getattribute__" with|some sig=>Bind.checkArgs "BaseException.__getattribute__" sig ⟨.ref x::rest,kw⟩|none=>pure ()) Q E s:=wpAny_of_eq ok h
 rcases kinds with d|d
 all_goals
  unfold checkBuiltinCall;rw[d,cut];dsimp only;unfold isInstance;refine cy (cy (L.at (Ls.at ?_)));exact r
def IJ {Q:Option Value->Shared->Prop}(b:findIn K (.ref D) "__getattribute__"=some (some (.builtin "BaseException.__getattribute__")))(n:findIn K (.ref D) "__getattr__"=some none)
  (e:findIn K (.ref D) "__class__"=some (some (.builtin "object.__class__")))
  (hn:specialIn K (.builtin "object.__class__") "__get__"=some (some (.builtin "getset_descriptor.__get__")))(H:takesIn K (.builtin "object.__class__")=some true)(hm:mroIn K D (.type "object")=some true)(a:mroIn K D (.type "BaseException")=some true)
  (X:K.In s.heap)(L:Looks (model prog w) s.heap (typeOf (.ref x)) (.ref D))(h:Q (some (.ref D)) { s with toks:=s.toks+1 }):wpAny (model prog w) A (getAttr? (.ref x) "__class__") Q E s:=by
 obtain⟨c,g,d,t,os⟩:=s;have l:=looks_findIn (M:=model prog w) X b;have L2:=AB (M:=model prog w) (x:=x) X e hn H;have f:=looks_findIn (M:=model prog w) X n;unfold getAttr?;unfold getAttrBy?;unfold getAttrBy;refine cy (wpAny_mkText (cy (wpAny_attempt (wpAny_holding (cy (L.at (cy (l.at ?_))))))));show wpAny _ _ (getAttrByItsOwn (.ref x) (.str "__class__" t) (.ref D) (.builtin "BaseException.__getattribute__") false false) _ _ _;unfold getAttrByItsOwn;refine cy ?_;show wpAny _ _ (typeLookup (.ref D) "__getattr__") _ _ _;refine f.at (cy (wpAny_attempt (wpAny_holding ?_)));show wpAny _ _ (bindSpecial (.builtin "BaseException.__getattribute__") (.ref x) >>= _) _ _ _;refine cy (wpAny_of_eq (F.excAttr_ValueError.ga.bind _) ?_);refine wpAny_call (codeAny_call_builtin F.excAttr_ValueError.ga.plain F.entry_bexc_ga (HC X L a (F.args_bexc_ga _ _) ?_));unfold «object.__getattribute__»;refine cy (wpAny_of_eq (show slotArgs "__getattribute__" 1 ⟨[.ref x]++[.str "__class__" t],[]⟩=pure (.ref x,[.str "__class__" t]) from rfl) ?_)
 refine cy (wpAny_of_eq (show attrName (.str "__class__" t)=pure ("__class__":Str) from rfl) (cy (L.at (cy (L2.at ?_)))))
 show wpAny _ _ (holding [Value.builtin "object.__class__"] (call (.builtin "getset_descriptor.__get__") [.builtin "object.__class__",.ref x,.ref D]) >>= ret) _ _ _;refine cy (wpAny_holding (wpAny_call (Ab (s:=⟨c,g,d,t+1,os⟩) X L hm ?_)));refine cz ?_;exact handed_on rfl (cz h)
end
def Gk (x D:Addr)(h:Heap):Prop:=∃o,h.get? x=some o/\o.cls=.ref D
def Gk.ty {x:Addr}(p:Gk x D h):Looks M h (typeOf (.ref x)) (.ref D):=by
 obtain⟨o,H,c⟩:=p;rw[<- c];exact(Looks.ld H).andThen .now
def D4 {K:Frag}{x:Addr}(d:(clsIn K D).isSome=true)(c:findIn K (.ref D) "__getattribute__"=some (some (.builtin "BaseException.__getattribute__")))(b:findIn K (.ref D) "__getattr__"=some none)(e:findIn K (.ref D) "__class__"=some (some (.builtin "object.__class__")))
  (hn:specialIn K (.builtin "object.__class__") "__get__"=some (some (.builtin "getset_descriptor.__get__")))(H:takesIn K (.builtin "object.__class__")=some true)(hm:mroIn K D (.type "object")=some true)(a:mroIn K D (.type "BaseException")=some true):
  KitX K (.ref x) (.ref D) (Gk x D) where
 ty:=λ_ _ _ p=>p.ty
 it:=λ_ _ X _=>by
  obtain⟨C,h⟩:=Option.isSome_iff_exists.mp d;unfold clsIn at h
  split at h
  ·rename_i g d' f s o
   intro A Q' E s' k q;unfold isType loadHead;exact cy (wpAny_loadPart (k _ _ (X D _ o)) (cz q))
  ·cases h
 ne:=λ_ tp dd i n S X t=>by
  obtain⟨C,h⟩:=Option.isSome_iff_exists.mp d;rw[Bool.eq_false_iff];intro q;cases Value.ref.inj (aK.mp q);unfold clsIn at h
  split at h
  ·rename_i o
   cases (X _ _ o).symm.trans t
  ·cases h
 ca:=λX p k=>IJ c b e hn H hm a X p.ty k
noncomputable def Kc (K:Frag)(C:Addr):Bool:=(PySem.W.clsIn K C).isSome&&(PySem.W.findIn K (.ref C) "__getattribute__" == some (some (.builtin "BaseException.__getattribute__")))&&(PySem.W.findIn K (.ref C) "__getattr__" == some none)&&(PySem.W.findIn K (.ref C) "__class__" == some (some (.builtin "object.__class__")))&&
 (PySem.W.specialIn K (.builtin "object.__class__") "__get__" == some (some (.builtin "getset_descriptor.__get__")))&&(PySem.W.takesIn K (.builtin "object.__class__")==some true)&&(PySem.W.mroIn K C (.type "object")==some true)&&(PySem.W.mroIn K C (.type "BaseException")==some true)
section
variable {A:Around}{c:Value}{b:Bool}{ea C:Addr}
def Ax {o:Obj}{u:HO}(I:Inv X pins σ H s)(e:H ea=some (.frz o u))(d:o.cls=.ref C)(k:Kc X.K C=true)(q:kitOne X.K (.ref C) c=some b)(h:∀tk,Q (.bool b) { s with toks:=tk }):
  wpAny (model X.prog X.w) A (call (.builtin "isinstance") [.ref ea,c]) Q E s:=by
 have p:Gk ea C s.heap:=⟨o,(show jd X.prog X.w H s.heap ea (.frz o u) from I.hok ea _ e).1,d⟩
 unfold Kc at k;simp only[aw,aK]at k;obtain⟨⟨⟨⟨⟨⟨⟨k1,k2⟩,a⟩,k3⟩,i⟩,k5⟩,g⟩,f⟩:=k;exact bD (D4 k1 k2 a k3 i k5 g f) I.kIn p q (λz=>nomatch z) h
def AR (I:Inv X pins σ H s)(q:kitOne X.K (.type "NoneType") c=some b)(h:∀tk,Q (.bool b) { s with toks:=tk }):wpAny (model X.prog X.w) A (call (.builtin "isinstance") [.none,c]) Q E s:=
 R4 I (x:=.non) rfl .non q h
end
def Zx (P:Program)(w:World)(K:Frag)(mg:cm)(base:Heap)(N:cc)(qual:Str)(scope:Scope)(f:Addr)(cd:Value)(cl:cq)(A:Around)(outer:cn)(s:Shared)(H:Hp)(E:XK):Cx where
 prog:=P
 w:=w
 K:=K
 mg:=mg
 base:=base
 A:=A.deeper (envX qual scope s.heap.objs.size f cd cl)
 N:=N
 s0:=s
 H0:=H
 env:=envX qual scope s.heap.objs.size f cd cl
 outer:=outer
 stack:=envX qual scope s.heap.objs.size f cd cl::outer
 ex:=[]
 calm:=true
 fn:=λ_=>false
 pn:=[]
 xe:=λe s'=>wpAny (model P w) (A.deeper (envX qual scope s.heap.objs.size f cd cl)) (leaving (envX qual scope s.heap.objs.size f cd cl) e) (λ_ S=>gx P w outer H s E e S) (λa S=>gx P w outer H s E a S) s'
section
variable {K:Frag}{cd:Value}{cl:cq}{A:Around}{outer:cn}{E:XK}
def EL {h:Hp}{a C:Addr}(I:Inv (Zx P w K mg base N qual scope f cd cl A outer s H E) pins σ h s')(x:wV h s'.heap s.heap a (.ref C))(y:E (.ref C) none h):
  (Zx P w K mg base N qual scope f cd cl A outer s H E).xe (.ref a) s':=by
 have bs:Un (qK outer) [] H h s.heap s'.heap:=I.base;have stk:∀b∈qK (envX qual scope s.heap.objs.size f cd cl::outer),h b=none:=I.stkFree;have p:s.heap.get? s.heap.objs.size=none:=Heap.get?_none_of_le (ar _);have g:(envX qual scope s.heap.objs.size f cd cl).frame=some s.heap.objs.size:=rfl;have mem:∀b,b∈qK (envX qual scope s.heap.objs.size f cd cl::outer)↔b=s.heap.objs.size∨b∈qK outer:=λb=>by
  unfold qK;rw[bw,g];exact mem_cons
 show wpAny (model P w) (A.deeper (envX qual scope s.heap.objs.size f cd cl)) (leaving (envX qual scope s.heap.objs.size f cd cl) (.ref a)) _ _ s';refine O4 (base:=base) (L:=s.heap.objs.size) I.ok.frames rfl I.stack x (λb u e=>(I.hok b u e).obj) (λb o e=>bs.there b o e (by simp)) λh' k1 k2 X t=>?_
 have r:∀b u,h b=some u->b∉qK (envX qual scope s.heap.objs.size f cd cl::outer):=λb u e hm=>by rw[stk b hm]at e;cases e
 refine⟨a,C,h,rfl,I.os,I.bare,⟨λb o e n nb _=>?_,λb o e n mb _=>?_,λb o e n d=>bs.free b o e n d,λb o e d=>?_,bs.tups,bs.frzs,bs.tbls⟩,λb u e=>?_,X,t,y⟩
 ·have i:b≠s.heap.objs.size:=λz=>by rw[z,p]at e;cases e
  exact k1 b o (bs.keep b o e n nb (by simp)) (λhm=>(mem b).mp hm |>.elim i nb) (.inl ⟨o,e⟩)
 ·obtain⟨l,q⟩:=bs.slot b o e n mb (by simp)
  obtain⟨S,Q⟩:=k2 b _ q ((mem b).mpr (.inr mb));exact⟨S,Q⟩
 ·obtain⟨o',q⟩:=bs.there b o e d
  by_cases hm:b∈qK (envX qual scope s.heap.objs.size f cd cl::outer)
  ·obtain⟨l,z⟩:=k2 b o' q hm;exact⟨_,z⟩
  ·exact⟨o',k1 b o' q hm (.inl ⟨o,e⟩)⟩
 ·refine(I.hok b u e).stay (λc v j q=>?_) (λ_ q=>q) λ_ _ q=>q
  rcases j with z|z
  ·rw[z]at q ⊢;exact k1 b v q (r b u e) (.inr ⟨u,e⟩)
  ·exact k1 c v q (r c _ z) (.inr ⟨_,z⟩)
def fk:gK (Zx P w K mg base N qual scope f cd cl A outer s H E) s.heap (gW K E) where
 th:=λpins σ h s' I b o e=>(show Un (qK outer) [] H h s.heap s'.heap from I.base).there b o e (by simp)
 out:=λpins σ h s' d C x I l c a=>EL I l (a C c)
structure Vm (N:cc)(sc:Scope):Prop where
 kind:sc.kind=.function
 co:sc.isCoroutine=false
 gen:sc.isGenerator=false
 nocell:∀y∈sc.names,y.2≠.cell
structure WQ (base:Heap)(N:cc)(scope:Scope)(cl:cq)(vs:List V):Prop where
 len:vs.length=N.length
 inj:∀x y c,cl.lookup x=some c->cl.lookup y=some c->x=y
 has:∀x,scope.names.lookup x=some .free->∃c,cl.lookup x=some c
 cell:∀x c,cl.lookup x=some c->∃v,base.IsCell c v
 val:∀(i:Nat)(x:Str)(v:V),N[i]? =some x->vs[i]? =some v->∃c u,scope.names.lookup x=some .free/\cl.lookup x=some c/\base.IsCell c (some u)/\RelV v u
def CP {vs:List V}{l:Heap}{tk:Tok}(S:Vm N scope)(hd:A.handled=none)(g:Yl P w K mg base A outer s H)(C:WQ base N scope cl vs)(t:∃m,l.Ns s.heap.objs.size m)(x:∀b o,s.heap.get? b=some o->l.get? b=some o):
  Inv (Zx P w K mg base N qual scope f cd cl A outer s H E) [] (L2.start N vs) H { s with heap:=l,toks:=tk }:=by
 have n:∀b:Addr,b∉(Zx P w K mg base N qual scope f cd cl A outer s H E).ex:=λb z=>absurd (show b∈([]:bZ) from z) (by simp)
 have bk:∀c v,base.IsCell c v->l.IsCell c v/\H c=none:=λc v ⟨o,B,hd⟩=>⟨⟨o,x _ _ (g.bs _ _ B).1,hd⟩,(g.bs _ _ B).2⟩;obtain⟨m,hm⟩:=t;refine⟨⟨g.mod,S.kind,rfl,rfl,ar _,C.inj,λy j=>?_,λy c z _=>(nomatch z),λ_=>hd,Around.frames_deeper g.frames,.inr ⟨rfl,rfl⟩,λb z=>absurd z (n b),g.bs,g.bsz,λb _ _=>n b,λb z=>absurd z (n b),g.funs,g.frf⟩,
  rfl,g.bare,Un.kept x,⟨m,hm,λi y v l d J=>?_⟩,λy c h=>?_,g.hok.fresh (ar _),λy c h=>?_,λp D=>absurd (show p∈([]:b8) from D) (by simp),g.hok.kept x,?_⟩
 ·have j:scope.names.lookup y=some .cell∨scope.names.lookup y=some .free:=j
  rcases j with j|j
  ·exact absurd rfl (S.nocell _ (PySem.mem_of_lookup j))
  ·exact C.has y j
 ·have q:i<vs.length:=by
   unfold L2.start at d
   by_cases q:i<vs.length
   ·exact q
   ·rw[aq (by simpa using q)]at d
    rw[bC]at d
    split at d<;>cases d
  have I:vs[i]? =some v:=by
   unfold L2.start at d;rw[ah (by simpa using q),ao]at d
   cases e:vs[i]? with
   |none=>rw[e]at d;cases d|some a=>rw[e]at d;cases d;rfl
  obtain⟨c,u,k,e,z,r⟩:=C.val i y v l I;exact⟨u,r,.inr ⟨.inr k,c,e,(bk _ _ z).1⟩⟩
 ·obtain⟨v,z⟩:=C.cell y c h
  exact⟨v,(bk _ _ z).1⟩
 ·obtain⟨v,z⟩:=C.cell y c h
  exact(bk _ _ z).2
 ·unfold L2.start
  show _=N.length;rw[ay,ai,bj,C.len];omega
def Nl (o:Obj)(q:Str):Prop:=∃vs t,o.data=.fields vs/\vs[1]? =some (.str q t)
def AU {k:Nat}{name:Str}{params:Arguments}{body:Expr}{pm ctv:Value}{i:Obj}{u uc:HO}{vs:List V}{m:Ev}(S:Vm N scope)(C:WQ base N scope cl vs)(p:Nl i qual)
  (g:∀(A:Around)(outer:cn)(s:Shared)(H:Hp)(E:XK),jq k (A.deeper (envX qual scope s.heap.objs.size a (.ref c) cl))->gK (Zx P w K mg base N qual scope a (.ref c) cl A outer s H E) s.heap (gW K E)->
   SE (Zx P w K mg base N qual scope a (.ref c) cl A outer s H E) (gW K E) body m):
  yY P w K mg base (gx P w) (k+1) a (kla_fn name qual params body scope cl pm (.ref c) ctv) [] (λus H Q E=>us=[]/\H a=some (.frz (kla_obj name qual params body scope cl pm c ctv) u)/\H c=some (.frz i uc)/\
   ∃φ A ws,zI K φ A H/\zy K φ H ws vs/\(m (ws.map some) A).post (PB K φ H Q) (EB K φ H (gW K E))):=by
 refine⟨λus H Q E h=>by rw[h.1];rfl,λA outer s H args us D Q E n l hb r h=>?_⟩
 obtain⟨rfl,h1,h2,φ,A1,ws,Sm,B,Y⟩:=h;cases r;have Z:s.heap.get? a=some (kla_obj name qual params body scope cl pm c ctv):=(show jd P w H s.heap a (.frz _ u) from l.hok a _ h1).1
 have hc:s.heap.get? c=some i:=(show jd P w H s.heap c (.frz i uc) from l.hok c _ h2).1
 have lim:s.heap.NoLimit:=l.mod.nolimit.keeps λb o e=>(l.bs b o e).1;obtain⟨L,T,z,hd2⟩:=p;refine PySem.W.kla_callFunE n.depth Z rfl S.co S.gen rfl ⟨c,i,L,T,rfl,hc,z,hd2⟩ (hb _ _ _ _ ?_);refine wpAny_newFunctionEnv S.nocell (λy U=>absurd (show y∈([]:List (Str×Value)) from U) (by simp)) (λd t j=>⟨lim.fresh _ j,?_⟩) S.kind
 show codeAny _ _ (.expr body (envX qual scope s.heap.objs.size a (.ref c) cl)) _ _;have f:∀b o,s.heap.get? b=some o->d.get? b=some o:=λb o e=>j.extBut b o (aM (aG e)) (af _ e);have I:∀tk,Inv (Zx P w K mg base N qual scope a (.ref c) cl A outer s H E) [] (L2.start N vs) H { s with heap:=d,toks:=tk }:=λtk=>CP S n.hd l C ⟨_,t⟩ f
 refine PySem.W.kla_codeExpr (wpAny_mono (g A outer s H E (n.deeper _) fk [] _ (L2.start N vs) H Q (I _) ⟨φ,A1,_,Sm,RE.start (N:=N) B,?_⟩) (λv s' X=>?_) λ_ _ y=>y)
 ·have:N.length-ws.length=0:=by rw[B.length,C.len];omega
  rw[this,List.replicate_zero,bH];exact Y
 ·obtain⟨x,H',J,M,q⟩:=X
  exact⟨x,H',J.os,J.bare,J.base,J.hok,M,q⟩
end
inductive zcC (K:Frag)(a:Addr)(ob:Obj)(u:HO)(c:Addr)(oc:Obj)(uc:HO)(vs:List V)(g:Fn)(us:List V)(H:Hp)(Q:VK)(E:XK):Prop
 |mk (e:us=[]) (h1:H a=some (.frz ob u)) (h2:H c=some (.frz oc uc)) (φ:bZ) (A:Hx) (ws:List W) (S:zI K φ A H) (r:zy K φ H ws vs) (q:(g ws A).post (PB K φ H Q) (EB K φ H (gW K E)))
def Jj (P:Program)(w:World)(K:Frag)(mg:cm)(base:Heap)(j:Nat)(p:Obj->Addr->Obj->List V->Prop)(g:Fn):Prop:=
 ∀a ob u c o uc vs,p ob c o vs->(∃fd,ob.data=.func fd)/\∃fd,yY P w K mg base (gx P w) j a fd [] (zcC K a ob u c o uc vs g)/\∀s,BindsTo s fd ⟨[],[]⟩ []
open Classical in
noncomputable def GL (i:Nat)(PG:Nat->Obj->Addr->Obj->List V->Prop)(lam:Nat->Fn):Ev:=λρ A=>match ρ[i]? with
 |some (some (.clo k ws P))=>if P=PG k then lam k ws A else .bad|_=>.bad
def KC (i j l:Nat)(cs:cc)(PG:Nat->Obj->Addr->Obj->List V->Prop)(lam:Nat->Fn):Ex:=λρ A=>match GL i PG lam ρ A with
 |.ok _ A1=>.ok (.nx ρ) A1|.exc x A1=>if cs.contains x then .ok (.nx (((ρ.set l (some (.xc x))).set j (some (.xc x))).set l none)) A1 else .bad|.bad=>.bad
section
variable {K:Frag}
def RE.unset (r:RE K φ H ρ σ):RE K φ H (ρ.set i none) (σ.set i none):=
 ⟨by simp[r.len],λj u e=>by
  by_cases h:i=j
  ·subst h
   have a:i < ρ.length:=by
    have:=(cB.mp e).1
    simpa using this
   rw[aJ a]at e;cases e
  ·rw[aH h]at e
   obtain⟨x,c,b⟩:=r.get j u e;exact⟨x,by rw[aH h];exact c,b⟩⟩
end
def NW (K:Frag)(φ:bZ)(H:Hp)(ρ:En)(j l:Nat)(D:Ends)(x:Str)(A:Hx):Prop:=∀a h b,Le K φ H a h->zI K a A h->RE K a h (((ρ.set l (some (.xc x))).set j (some (.xc x))).set l none) b->D.nx b h
inductive zc9 (K:Frag)(φ:bZ)(H:Hp)(ρ:En)(j l:Nat)(D0:Ends)(ea C:Addr)(H':Hp):Prop
 |mk (xn:Str) (φ':bZ) (A':Hx) (le:Le K φ H φ' H') (S:zI K φ' A' H') (rv:RV K φ' H' (.xc xn) (.ref ea)) (n:NW K φ H ρ j l D0 xn A')
inductive zcP (K:Frag)(φ:bZ)(H:Hp)(ρ:En)(j l:Nat)(D0:Ends)(cs:cc)(Cv:Value)(d:cw)(H1:Hp):Prop
 |mk (xn:Str) (Ca:Addr) (e:Cv=.ref Ca) (hC:kf K xn (.ref Ca)) (hc:cs.contains xn=true) (φ1:bZ) (A1:Hx) (le:Le K φ H φ1 H1) (S:zI K φ1 A1 H1) (n:NW K φ H ρ j l D0 xn A1)
def NT (K:Frag)(f:Str->Option Bool)(cv:V):List V->Hp->VK->Prop:=λxs H Q=>∃x,xs=[x,cv]/\((x=.non/\Q (.bl false) H)∨∃a o u C nm b,x=.ref a/\H a=some (.frz o u)/\o.cls=.ref C/\kf K nm (.ref C)/\f nm=some b/\Q (.bl b) H)
structure Km (K:Frag)(f:Str->Option Bool)(c:Value):Prop where
 non:kitOne K (.type "NoneType") c=some false
 exc:∀nm C b,f nm=some b->kf K nm (.ref C)->Kc K C=true/\kitOne K (.ref C) c=some b
def jf (f:Str->Option Bool)(m:Ev):Ev:=λρ A=>(m ρ A).bind λw A1=>match w with
 |.non=>.ok (.bl false) A1|.xc nm=>(match f nm with
  |some b=>.ok (.bl b) A1|none=>.bad)
 |_=>.bad
section
variable {m:Ev}{f:Str->Option Bool}
def PX {cv:V}{c:Value}(g:Km X.K f c)(rc:∀u,RelV cv u->u=c):j3 X (.builtin "isinstance") (NT X.K f cv):=by
 intro pins s σ H xs us Q I r h;obtain⟨x,rfl,h⟩:=h;obtain⟨u,o,rfl,e,d⟩:=vals2 r;cases rc _ d;rcases h with ⟨rfl,q⟩|⟨a,p,U,C,nm,b,rfl,n,l,j,i,q⟩
 ·cases (show u=Value.none from e)
  exact AR I g.non λtk=>⟨.bl false,H,I.tok tk,rfl,q⟩
 ·cases (show u=Value.ref a from e)
  obtain⟨k1,k2⟩:=g.exc nm C b i j;exact Ax I n l k1 k2 λtk=>⟨.bl b,H,I.tok tk,rfl,q⟩
def jf.read {cv:V}{t:TE}(i:∀σ H Q,Q cv H->t σ H Q):∀σ H Q,tM X.K xr (jf f m) σ H Q->GY (NT X.K f cv) (Gu (tM X.K xr m) (Gu t UM)) σ H Q:=by
 rintro σ H Q ⟨φ,A,ρ,S,re,h⟩
 refine tM.go S re (zZ.mp h) λw A1 d H1 v c l s q=>?_;refine i σ H1 _ ?_;cases w with
 |non=>
  obtain rfl:=q;exact⟨.non,rfl,.inl ⟨rfl,c d H1 _ l s rfl⟩⟩
 |xc nm=>
  dsimp only at c;cases e:f nm with
  |none=>rw[e]at c;exact c.elim|some b=>
   rw[e]at c;obtain⟨a,o,u,C,rfl,g,Z,z⟩:=q;exact⟨.ref a,rfl,.inr ⟨a,o,u,C,nm,b,rfl,g,Z,z,e,c d H1 _ l s rfl⟩⟩
 |bl _=>exact c.elim|int _=>exact c.elim|str _=>exact c.elim|tup _=>exact c.elim|ref _=>exact c.elim|clo _ _ _=>exact c.elim
end
def Ie {a b:Int}{c cv:Value}(l:bY)(h:TriplesOk l)(e:codeAmong pos (l++[rawInt a,rawInt b,c])=some cv):codeAmong pos l=some cv∨cv=c:=by
 fun_induction TriplesOk l with
 |case1=>
  right
  simp only[bp,codeAmong,rawInt]at e
  split at e
  ·exact(aA e).symm
  ·cases e
 |case2 A t B u x rest i=>
  simp only[List.cons_append,codeAmong]at e ⊢
  split at e
  ·rename_i H;rw[ag H];exact .inl e
  ·rename_i H;rw[aj H];exact i h e
 |case3 l f d=>exact h.elim
def BMain (mg:cm)(base:Heap):Prop:=∃bm o,mg "__builtins__"=some (.ref bm)/\bm≠builtinsNs/\bm≠mainGlobals/\base.get? bm=some o/\o.cls=.type "module" /\ o.dict=some builtinsNs/\o.data=.plain
noncomputable def GG (q:Str)(params:Arguments)(body:Expr)(scope:Scope)(C:cq):Obj->Addr->Obj->List V->Prop:=λob c o _=>(∃pm ctv,ob=kla_obj "<lambda>" q params body scope C pm c ctv)/\Nl o q
noncomputable def gJ (n:Nat)(q:Str)(P:Addr)(k:Nat)(PF:Obj->Addr->Obj->List V->Prop):Ev:=λ_ A=>match A[n]? with
 |some (.tab Q P')=>if Q=q/\P'=P then .ok (.clo k [] PF) A else .bad|_=>.bad
section
variable {k:Nat}{q:Str}{P:Addr}{params:Arguments}{body:Expr}{clos:cq}
def fm (hB:BMain X.mg X.base)(y:X.env.code=.ref c)(C:CodeHd X.base c P)(hcl:closureFor scope X.env=pure clos)(hq:X.env.qual ++ "<lambda>"=q)(hdef:defaultsOf params X.env=([],[]):=by rfl):
  SE X xr (.Lambda params body scope pos) (gJ n q P k (GG q params body scope clos)):=by
 intro pins s σ H Q I ⟨φ,A,ρ,S,re,h⟩;unfold gJ at h;cases Z:A[n]? with
 |none=>rw[Z]at h;exact h.elim|some o=>
  rw[Z]at h;cases o with
  |tab L P'=>
   dsimp only at h
   by_cases hc:L=q/\P'=P
   ·rw[ag hc]at h
    obtain⟨rfl,rfl⟩:=hc;obtain⟨a,ha,eaP,ps,t,Y⟩:=S.ob n _ Z;subst eaP;have hP:s.heap.get? a=some (tabObj ps):=(show jd X.prog X.w H s.heap a (.tbl ps) from I.hok a _ t)
    have hg:s.heap.Ns mainGlobals X.mg:=I.mod.glob.keeps I.bk;have hgP:mainGlobals≠a:=λz=>by
     obtain⟨o,es,ep,e,hd,_⟩:=hg;rw[z,hP]at e;cases e;cases hd
    have r:s.heap.BuiltinsAt X.mg a:=by
     obtain⟨bm,o,b1,b2,b3,b4,b5⟩:=hB;refine⟨bm,o,b1,b2,b3,λz=>?_,I.bk _ _ b4,b5⟩
     have:=(I.bs _ _ b4).2
     rw[z,t]at this;cases this
    refine PySem.W.kla_eval hdef ?_;rw[hq];have M:∀b,s.heap.objs.size<=b->H b=none:=λb r=>I.hok.fresh r;cases hf:codeAmong pos ps.toList with
    |none=>
     refine PySem.W.kla_makeFunction (mg:=X.mg) hcl I.ok.glob hg y (C.keeps I.bk) hP Y.1 hf hgP r λf ctv h' tk hx x U hrec htb=>?_;obtain⟨c2,g,vc,tc,ec,hoc,D,hd2⟩:=hrec;cases ec;generalize j:kla_obj "<lambda>" L params body scope clos ((X.mg "__name__").getD .none) f ctv=ob;have hPc:a<s.heap.objs.size:=aG hP;have nPc:a≠f:=aM (aD hPc x);have nPf:a≠h'.objs.size:=aM (lt_trans (aD hPc x) U);have T:f≠h'.objs.size:=aM U;have hsf:s.heap.objs.size<=h'.objs.size:=bt x (bA U);have E:H f=none:=M f x;have l:H h'.objs.size=none:=M _ hsf;have H1f:upd H f (.frz g (.own 0)) h'.objs.size=none:=by rw[qh (Ne.symm T)];exact l
     generalize B:ps++#[rawInt pos.line,rawInt pos.col,.ref f]=p at htb;have S1:=S.lay (u:=.frz g (.own 0)) E;have S2:=S1.lay (u:=.frz ob (.own 0)) H1f;have fz:∀b o u,upd (upd H f (.frz g (.own 0))) h'.objs.size (.frz ob (.own 0)) b=some (.frz o u)->upd (upd (upd H f (.frz g (.own 0))) h'.objs.size (.frz ob (.own 0))) a (.tbl p) b=some (.frz o u):=λb o u e=>by
      rw[qh];exact e;intro z;rw[z,qh nPf,qh nPc,t]at e;cases e
     have fz0:∀b o u,H b=some (.frz o u)->upd (upd H f (.frz g (.own 0))) h'.objs.size (.frz ob (.own 0)) b=some (.frz o u):=λb o u e=>by
      rw[qh (kD e l),qh (kD e E)];exact e
     have tg':Kz (upd (upd (upd H f (.frz g (.own 0))) h'.objs.size (.frz ob (.own 0))) a (.tbl p)) L p:=by
      rw[<- B];refine⟨by rw[Array.toList_append];exact TriplesOk_snoc _ _ _ _ Y.1,λpos' cv e=>?_⟩
      rw[Array.toList_append]at e;rcases Ie _ Y.1 e with e|e
      ·obtain⟨c0,oc0,u0,vs0,t0,g1,g2,g3⟩:=Y.2 pos' cv e
       exact⟨c0,oc0,u0,vs0,t0,g1,by rw[B];exact fz _ _ _ (fz0 _ _ _ g2),g3⟩
      ·exact⟨f,g,.own 0,vc,tc,e,by rw[B];exact fz _ _ _ (by rw[qh T,jD]),D,hd2⟩
     obtain⟨l3,S3⟩:=S2.write (o:=.tab L a) (o':=.tab L a) Z rfl rfl ha (u:=.tbl p) ⟨rfl,p,jD,tg'⟩;have l03:Le X.K φ H φ _:=((Le.new E).trans (Le.new H1f)).trans l3;have set3:A.set n (.tab L a)=A:=by
      apply ext_getElem?
      intro i
      by_cases hi:n=i
      ·subst hi
       rw[aJ (cB.mp Z).1,Z]
      ·rw[aH hi]
     rw[set3]at S3;have eP:upd (upd (upd H f (.frz g (.own 0))) h'.objs.size (.frz ob (.own 0))) a (.tbl p) a=some (.tbl p):=jD;have ec:upd (upd (upd H f (.frz g (.own 0))) h'.objs.size (.frz ob (.own 0))) a (.tbl p) f=some (.frz g (.own 0)):=by rw[qh (Ne.symm nPc),qh T,jD]
     have ef:upd (upd (upd H f (.frz g (.own 0))) h'.objs.size (.frz ob (.own 0))) a (.tbl p) h'.objs.size=some (.frz ob (.own 0)):=by rw[qh (Ne.symm nPf),jD]
     have J:∀b,b≠a->b≠f->b≠h'.objs.size->upd (upd (upd H f (.frz g (.own 0))) h'.objs.size (.frz ob (.own 0))) a (.tbl p) b=H b:=λb n1 n2 n3=>by rw[qh n1,qh n3,qh n2]
     generalize upd (upd (upd H f (.frz g (.own 0))) h'.objs.size (.frz ob (.own 0))) a (.tbl p)=H3 at S3 l03 eP ec ef J;have kp:∀b o,b≠a->s.heap.get? b=some o->(h'.push ob).get? b=some o:=λb o n e=>af _ (hx b o n e);have old:∀b o,s.heap.get? b=some o->b≠f/\b≠h'.objs.size:=λb o e=>⟨aM (aD (aG e) x),aM (aD (aG e) hsf)⟩;have N:∀b u,H b=some u->b≠f/\b≠h'.objs.size:=λb u e=>⟨kD e E,kD e l⟩;have gP:(h'.push ob).get? a=some (tabObj p):=af _ htb;have I3:Inv X pins σ H3 { s with heap:=h'.push ob,toks:=tk }:=by
      refine I.un ⟨λb o e z r _=>?_,λb o e z r _=>?_,λb o e z _=>?_,λb o e _=>?_,λb xs e=>?_,λb o u e=>?_,λb qs e=>?_⟩ λb u e=>?_
      ·exact kp b o (λw=>by rw[w,t]at z;cases z) e
      ·exact⟨o.slots,kp b o (λw=>by rw[w,t]at z;cases z) e⟩
      ·rw[J b (λw=>by rw[w,t]at z;cases z) (old b o e).1 (old b o e).2];exact z
      ·by_cases r:b=a
       ·rw[r];exact⟨_,gP⟩
       ·exact⟨o,kp b o r e⟩
      ·rw[J b (Jh e t (by intro w;cases w)) (N b _ e).1 (N b _ e).2];exact e
      ·rw[J b (Jh e t (by intro w;cases w)) (N b _ e).1 (N b _ e).2];exact e
      ·by_cases r:b=a
       ·subst r
        rw[t]at e;cases e;exact⟨_,by rw[eP,<- B]⟩
       ·exact⟨#[],by rw[J b r (N b _ e).1 (N b _ e).2,e];simp⟩
      ·by_cases h1:b=a
       ·subst h1
        rw[eP]at e;cases e;exact gP
       ·by_cases h2:b=f
        ·subst h2
         rw[ec]at e;cases e;exact⟨af _ hoc,⟨_,af _ hoc⟩⟩
        ·by_cases h3:b=h'.objs.size
         ·subst h3
          rw[ef]at e;cases e;exact⟨av _ (by rw[<- j];rfl),⟨_,av _ (by rw[<- j];rfl)⟩⟩
         ·rw[J b h1 h2 h3]at e
          refine(I.hok b u e).stay (λd v hd z=>kp d v ?_ z) (λd z=>?_) λd xs z=>?_
          ·rcases hd with w|w
           ·rw[w];exact h1
           ·exact Jh w t (by intro w;cases w)
          ·rw[J d (Jh z t (by intro w;cases w)) (N d _ z).1 (N d _ z).2];exact z
          ·rw[J d (Jh z t (by intro w;cases w)) (N d _ z).1 (N d _ z).2];exact z
     exact⟨.ref h'.objs.size,H3,I3,rfl,h φ H3 _ l03 S3 ⟨h'.objs.size,ob,.own 0,f,g,.own 0,[],rfl,ef,ec,⟨⟨_,_,j.symm⟩,vc,tc,D,hd2⟩,rfl⟩⟩
    |some cv=>
     obtain⟨f,g,u0,vc,tc,rfl,hHc,D,hd2⟩:=Y.2 pos cv hf;refine PySem.W.kla_makeFunctionHit (mg:=X.mg) hcl I.ok.glob hg y (C.keeps I.bk) hP Y.1 hf r λctv h' tk hx hsz=>?_;generalize j:({ cls:=.type "function",data:=.func (kla_fn "<lambda>" L params body scope clos ((X.mg "__name__").getD .none) (.ref f) ctv) }:Obj)=ob;have l:H h'.objs.size=none:=M _ hsz;have I3:Inv X pins σ (upd H h'.objs.size (.frz ob (.own 0))) { s with heap:=h'.push ob,toks:=tk }:=
      I.laid (λb o e=>af _ (hx b o e)) hsz ⟨av _ (by rw[<- j];rfl),⟨_,av _ (by rw[<- j];rfl)⟩⟩
     refine⟨.ref h'.objs.size,_,I3,rfl,h φ _ _ (Le.new l) (S.lay l) ⟨h'.objs.size,ob,.own 0,f,g,u0,[],rfl,jD,?_,⟨⟨_,_,j.symm⟩,vc,tc,D,hd2⟩,rfl⟩⟩;rw[qh (kD hHc l)];exact hHc
   ·rw[aj hc]at h;exact h.elim
  |_=>exact h.elim
end
structure Lm where
 N:cc
 idx:b9
 params:Arguments
 body:Expr
 scope:Scope
 m:Ev
noncomputable def Z0:List Nat->En->Option (List W)
 |[],_=>some []|j::J,ρ=>match ρ[j]?,Z0 J ρ with
  |some (some w),some ws=>some (w::ws)|_,_=>none
noncomputable def ZX:List Nat->St->Option (List V)
 |[],_=>some []|j::J,σ=>match σ[j]?,ZX J σ with
  |some (some w),some ws=>some (w::ws)|_,_=>none
theorem R8 {K:Frag}(r:RE K φ H ρ σ):∀{J:b9}{ws:List W},Z0 J ρ=some ws->∃vs,ZX J σ=some vs/\zy K φ H ws vs
 |[],ws,e=>by cases e;exact⟨[],rfl,.nil⟩|j::J,ws,e=>by
  unfold Z0 at e;cases E:ρ[j]? with
  |none=>rw[E]at e;cases e|some o=>cases o with
   |none=>rw[E]at e;cases e|some w=>
    rw[E]at e;cases a:Z0 J ρ with
    |none=>rw[a]at e;cases e|some b=>
     rw[a]at e;cases e;obtain⟨v,f,d⟩:=r.get j w E;obtain⟨vs,c,h⟩:=R8 r a;exact⟨v::vs,by unfold ZX;rw[f,c],.cons d h⟩
theorem PV:∀{J:b9}{vs:List V},ZX J σ=some vs->vs.length=J.length/\∀(i:Nat)(v:V),vs[i]? =some v->∃j,J[i]? =some j/\σ[j]? =some (some v)
 |[],vs,e=>by cases e;exact⟨rfl,λi v h=>by simp at h⟩|j::J,vs,e=>by
  unfold ZX at e;cases E:σ[j]? with
  |none=>rw[E]at e;cases e|some o=>cases o with
   |none=>rw[E]at e;cases e|some w=>
    rw[E]at e;cases r:ZX J σ with
    |none=>rw[r]at e;cases e|some c=>
     rw[r]at e;cases e;obtain⟨f,H⟩:=PV r;refine⟨by simp[f],λi v h=>?_⟩
     cases i with
     |zero=>simp at h;subst h;exact⟨j,by simp,E⟩|succ i=>simp at h;obtain⟨d,a,b⟩:=H i v h;exact⟨d,by simpa using a,b⟩
noncomputable def kx (ls:List Lm)(k:Nat):Fn:=λws A=>match ls[k]? with
 |some t=>t.m (ws.map some) A|none=>.bad
def w8 (env:Env)(q:Str)(ls:List Lm)(k:Nat):Obj->Addr->Obj->List V->Prop:=λob c o vs=>∃t,ls[k]? =some t/\GG q t.params t.body t.scope (kG env t.scope.names []) ob c o vs
def Yw (env:Env)(q:Str)(ls:List Lm)(σ:St)(k:Nat):Obj->Addr->Obj->List V->Prop:=λob c o vs=>∃t,ls[k]? =some t/\GG q t.params t.body t.scope (kG env t.scope.names []) ob c o vs/\ZX t.idx σ=some vs
structure Jp (P:Program)(w:World)(K:Frag)(mg:cm)(j:Nat)(q:Str)(t:Lm):Prop where
 sc:Vm t.N t.scope
 bind:∀(cl:cq)(pm cdv ctv:Value),bindArgs (kla_fn "<lambda>" q t.params t.body t.scope cl pm cdv ctv) ⟨[],[]⟩=pure []
 body:∀(base:Heap)(cl:cq)(a c:Addr)(A:Around)(outer:cn)(s:Shared)(H:Hp)(E:XK),jq j (A.deeper (envX q t.scope s.heap.objs.size a (.ref c) cl))->gK (Zx P w K mg base t.N q t.scope a (.ref c) cl A outer s H E) s.heap (gW K E)->
  SE (Zx P w K mg base t.N q t.scope a (.ref c) cl A outer s H E) (gW K E) t.body t.m
section
variable {K:Frag}{q:Str}{ls:List Lm}
def fo (l:∀t∈ls,Jp P w K mg j q t)(f:∀t∈ls,∀vs,ZX t.idx σ=some vs->WQ base t.N t.scope (kG env t.scope.names []) vs)(k:Nat):Jj P w K mg base (j+1) (Yw env q ls σ k) (kx ls k):=by
 rintro a ob u c o uc vs ⟨t,d,⟨⟨pm,ctv,rfl⟩,b⟩,v⟩
 have mt:t∈ls:=bB d;have L:=l t mt;refine⟨⟨_,rfl⟩,_,((AU (name := "<lambda>") (params:=t.params) (body:=t.body) (pm:=pm) (ctv:=ctv) (a:=a) (c:=c) (u:=u) (uc:=uc) (m:=t.m) L.sc (f t mt vs v) b λA outer s H E e x=>L.body base _ a c A outer s H E e x)).imp λus H Q E h=>?_,λs=>.of_eq (L.bind _ _ _ _)⟩;obtain⟨n,i,g,φ,A,ws,S,r,h⟩:=h;refine⟨n,i,g,φ,A,ws,S,r,?_⟩;unfold kx at h;rw[d]at h;exact h
end
noncomputable abbrev jP:=Nat->Obj->Addr->Obj->List V->Prop
open Classical in
noncomputable def QI (PG:jP)(RF:Nat->List W->Hx->R W):Fn:=λus A=>match us with
 |[.clo k ws P]=>if P=PG k then RF k ws A else .bad|_=>.bad
open Classical in
structure Yi (X:Cx)(t:Lm):Prop where
 len:t.idx.length=t.N.length
 nm:∀(i:Nat)(x:Str)(j:Nat),t.N[i]? =some x->t.idx[i]? =some j->X.N[j]? =some x/\t.scope.names.lookup x=some .free
 free:∀y∈t.scope.names,y.2=.free->X.env.kindOf y.1=some .cell∨X.env.kindOf y.1=some .free
section
def WN (I:Inv X pins σ H s){t:Lm}(L:Yi X t)(h:(kG X.env t.scope.names []).lookup x=some c):X.env.cells.lookup x=some c:=by
 rcases QV _ _ (PySem.mem_of_lookup h) with z|⟨z,e⟩
 ·cases z
 ·obtain⟨C,a⟩:=I.ok.has x (L.free _ z rfl)
  rw[a]at e ⊢;exact congrArg some e.symm
def DW (I:Inv X pins σ H s)(g:∀x c v,X.env.cells.lookup x=some c->s.heap.IsCell c v->base.IsCell c v){t:Lm}(L:Yi X t){vs:List V}(n:ZX t.idx σ=some vs):WQ base t.N t.scope (kG X.env t.scope.names []) vs:=by
 obtain⟨v1,v2⟩:=PV n;refine⟨v1.trans L.len,λx y c d b=>I.ok.inj x y c (WN I L d) (WN I L b),λx h=>?_,λx c h=>?_,λi x v d b=>?_⟩
 ·exact Option.isSome_iff_exists.mp (WA _ _ (.inl (PySem.mem_of_lookup h)))
 ·have e:=WN I L h
  obtain⟨v,z⟩:=I.cell x c e;exact⟨v,g x c v e z⟩
 ·obtain⟨j,w,q⟩:=v2 i v b
  obtain⟨p,E⟩:=L.nm i x j d w;have fr:=L.free _ (PySem.mem_of_lookup E) rfl;obtain⟨m,hn,o⟩:=I.loc;obtain⟨u,r,lk⟩:=o j x v p q (.inr fr);obtain⟨c,f⟩:=Option.isSome_iff_exists.mp (WA (env:=X.env) t.scope.names [] (.inl (PySem.mem_of_lookup E)));have l:=WN I L f;rcases lk with ⟨z,_⟩|⟨_,C,a,cell⟩
  ·exfalso
   rcases fr with k|k<;>(rw[k]at z;cases z)
  ·rw[l]at a
   cases a;exact⟨c,u,E,f,g x c _ l cell,r⟩
def CK (I:Inv X pins σ H s)(h:∀x,X.fn x=true)(e:X.env.cells.lookup x=some c):c∉qK X.stack:=λhm=>by
 rcases cA.mp (I.stkSub c hm) with z|z
 ·exact I.cne x c e z
 ·obtain⟨_,o,a,_⟩:=I.ok.funs.mem z
  exact absurd (aD (aG a) (I.ok.cab x c (h x) e)) (aW _)
noncomputable def Zp (base h:Heap)(cells:cq):Heap:=hideAll h ((List.range h.objs.size).filter λb=>(base.get? b).isNone&&!(cells.any λp=>cells.lookup p.1==some b))
def P4 {o:Obj}(e:(Zp base h cells).get? b=some o):h.get? b=some o/\((∃o',base.get? b=some o')∨∃x,cells.lookup x=some b):=by
 have E:=of_hideAll _ e;refine⟨E,?_⟩
 by_cases hm:b∈(List.range h.objs.size).filter λb=>(base.get? b).isNone&&!(cells.any λp=>cells.lookup p.1==some b)
 ·unfold Zp at e
  rw[hideAll_none _ hm]at e;cases e
 ·rw[mem_filter]at hm
  have c:b∈List.range h.objs.size:=cC.mpr (aG E);cases g:base.get? b with
  |some o'=>exact .inl ⟨o',rfl⟩|none=>
   right
   by_cases H:(cells.any λp=>cells.lookup p.1==some b)=true
   ·obtain⟨p,_,a⟩:=List.any_eq_true.mp H
    exact⟨p.1,aK.mp a⟩
   ·exact absurd ⟨c,by rw[g];simpa using H⟩ hm
def HP (k:∀b o,base.get? b=some o->h.get? b=some o){o:Obj}(e:base.get? b=some o):(Zp base h cells).get? b=some o:=
 bL _ (k b o e) λhm=>by
  rw[mem_filter,e]at hm;simp at hm
def HA {o:Obj}(l:cells.lookup x=some c)(e:h.get? c=some o):(Zp base h cells).get? c=some o:=
 bL _ e λhm=>by
  rw[mem_filter,aw,Bool.not_eq_true']at hm
  have:=hm.2.2
  rw[List.any_eq_false]at this;exact this _ (PySem.mem_of_lookup l) (by simpa using l)
end
def ES {K:Frag}{mb:cm}{k:Nat}{Y:Addr}{sp:Sp}{S:Shared}
  (KX:K.In S.heap)(y:S.heap.Ns mainGlobals mg)(c:S.heap.Ns builtinsNs mb)(T:∀x:Str,x ≠ "__name__" -> mb x=bootBuiltins x)(A:S.heap.NoLimit)(hg:S.gens=#[])
  (p:S.heap.get? a=some { cls:=.type "list",data:=.seq vs.toArray })(hi:IntsAre vs ns)(hl:ns.length<=sizeLine)(hr:jq k callerA)
  (t:S.heap.get? Pt=some (tabObj #[]))(U:K.lookup Pt=none)(M:isCodeTable S.heap Pt)(Q:BMain mg S.heap)
  (F:∀base:Heap,K.In base->base.Ns mainGlobals mg->BMain mg base->yY P w K mg base gr k Y fd [x] sp)(l:∀(s:Shared)(u:Value),BindsTo s fd ⟨[u],[]⟩ [(x,u)])
  (I:∀H:Hp,H Pt=some (.tbl #[])->Yq K H a (ns.map V.int)->sp [.ref a] H (λv _=>v=.bl true) λ_ _ _=>False):
  codeAny (model P w) callerA (.call (.ref Y) ⟨[.ref a],[]⟩) (λr s'=>r=.ok (.ret (.bool true))/\OldK S.heap s'.heap/\s'.os=S.os/\AllBare s'.gens) S:=by
 have rv:=YN hi;have L:=hi.length;have j:a≠Pt:=λz=>by rw[z,t]at p;cases p
 have core:∀H:Hp,H Pt=some (.tbl #[])->Yq K H a (ns.map V.int)->jL P w H S.heap->(∀b,H b≠none->b=a∨b=Pt)->(∀u,H a=some u->K.lookup a=none/\∃o xs,u=.frz o (.lst xs))->
   codeAny (model P w) callerA (.call (.ref Y) ⟨[.ref a],[]⟩) (λr s'=>r=.ok (.ret (.bool true))/\OldK S.heap s'.heap/\s'.os=S.os/\AllBare s'.gens) S:=by
  intro H hO hS hok D hK;have base_of:∀{b:Addr}{o:Obj},S.heap.get? b=some o->H b=none->(Zt S.heap H).get? b=some o:=λe n=>Ct e n;have E:∀{b:Addr}{o:Obj}{es:Array DictEntry}{ep:Nat},S.heap.get? b=some o->o.data=.dict es ep->H b=none:=λ {b o es ep} e d=>by
   cases q:H b with
   |none=>rfl|some u=>
    rcases D b (by rw[q];simp) with z|z
    ·subst z
     rw[p]at e;cases e;have d':Data.seq vs.toArray _=Data.dict es ep:=d;cases d'
    ·subst z
     rw[t]at e;cases e;cases d
  have N:∀{b:Addr}{m:cm},S.heap.Ns b m->(Zt S.heap H).Ns b m:=λ {b m} ⟨o,es,ep,e,d,r⟩=>⟨o,es,ep,base_of e (E e d),d,r⟩;have B:K.In (Zt S.heap H):=λb o e=>base_of (KX b o e) (by
   cases q:H b with
   |none=>rfl|some u=>
    rcases D b (by rw[q];simp) with z|z
    ·subst z
     rw[(hK u q).1]at e;cases e
    ·subst z
     rw[U]at e;cases e)
  have X:BMain mg (Zt S.heap H):=by
   obtain⟨bm,o,b1,b2,b3,C,b5,b6,b7⟩:=Q;refine⟨bm,o,b1,b2,b3,base_of C ?_,b5,b6,b7⟩;cases q:H bm with
   |none=>rfl|some u=>
    rcases D bm (by rw[q];simp) with z|z
    ·subst z
     rw[p]at C;cases C;exact absurd b5 (by intro q;injection q with q;exact absurd q (by decide))
    ·subst z
     rw[t]at C;cases C;cases b5
  have hM:Mod K mg (Zt S.heap H):=⟨B,N y,⟨mb,N c,T⟩,let ⟨mc,h1,h2⟩:=A;⟨mc,N h1,h2⟩⟩
  have e0:Yl P w K mg (Zt S.heap H) callerA [] S H:=⟨rfl,hM,λb o e=>Aj e,Nat.le_of_eq (EC _ _),trivial,λb c=>absurd (show b∈([]:bZ) from c) (by simp),hok,.of_eq hg⟩
  refine codeAny_mono ((F _ B (N y) X).run callerA [] S H ⟨[.ref a],[]⟩ [.ref a] [.ref a] _ _ hr e0 (l S (.ref a)) (.cons rfl .nil) (I H hO hS)) λr s' h=>?_;cases r with
  |error e=>exact False.elim h|ok fl=>
   cases fl with
   |next=>exact False.elim h|brk=>exact False.elim h|cont=>exact False.elim h|ret u=>
    obtain⟨v,H',os,bare,un,g,r',q⟩:=h;have q':v=.bl true:=q;subst q';obtain rfl:u=Value.bool true:=r';refine⟨rfl,⟨λb o e=>?_,λb o e=>un.there b o e (by simp)⟩,os,bare⟩
    cases q:H b with
    |none=>exact .inl (un.keep b o e q (by intro z;exact absurd (show b∈([]:bZ) from z) (by simp)) (by simp))|some u=>
     rcases D b (by rw[q];simp) with z|z
     ·subst z
      obtain⟨ob,xs,rfl⟩:=(hK u q).2;have i:=un.frzs _ ob _ q;obtain⟨e1,_⟩:=hok _ _ q;obtain⟨e2,_⟩:=g _ _ i;rw[e]at e1;cases e1;exact .inl e2
     ·subst z
      rw[t]at e;cases e;obtain⟨more,i⟩:=un.tbls _ _ hO;exact .inr (.inl ⟨M,rfl,#[],more,rfl,g _ _ i⟩)
 cases J:K.lookup a with
 |some o=>
  have e:=KX a o J;rw[p]at e;cases e;refine core (λb=>if b=Pt then some (.tbl #[]) else none) (ag rfl) (.inr ⟨_,vs.toArray,_,J,rfl,rfl,rfl,by rw[aF,L];exact hl,by simpa using rv⟩) (λb u z=>?_) (λb z=>?_) λu z=>?_
  ·by_cases c:b=Pt
   ·have Z:=(ag c).symm.trans z
    cases Z;rw[c];exact t
   ·have Z:=(aj c).symm.trans z
    cases Z
  ·by_cases c:b=Pt
   ·exact .inr c
   ·exact absurd (aj c) z
  ·have Z:=(aj j).symm.trans z
   cases Z
 |none=>
  refine core (λb=>if b=Pt then some (.tbl #[]) else if b=a then some (.frz { cls:=.type "list",data:=.seq vs.toArray } (.lst (ns.map V.int))) else none) (ag rfl)
   (.inl ⟨{ cls:=.type "list",data:=.seq vs.toArray },(aj j).trans (ag rfl)⟩) (λb u z=>?_) (λb z=>?_) λu z=>?_
  ·by_cases c:b=Pt
   ·have Z:=(ag c).symm.trans z
    cases Z;rw[c];exact t
   ·have Z:=(aj c).symm.trans z
    by_cases f:b=a
    ·have i:=(ag f).symm.trans Z
     cases i;subst f;exact⟨p,by rw[ai];exact hl,vs,_,rv,p⟩
    ·have i:=(aj f).symm.trans Z
     cases i
  ·by_cases c:b=Pt
   ·exact .inr c
   ·by_cases f:b=a
    ·exact .inl f
    ·exact absurd ((aj c).trans (aj f)) z
  ·have Z:=((aj j).trans (ag rfl)).symm.trans z
   cases Z;exact⟨J,_,_,rfl⟩
inductive spT (K:Frag)(n:Nat)(fs:jP->Fn)(vs:List V)(H:Hp)(Q:VK)(E:XK):Prop
 |mk (len:vs.length=n) (φ:bZ) (A:Hx) (ws:List W) (S:zI K φ A H) (r:zy K φ H ws vs) (q:∀PF,(fs PF ws A).post (PB K φ H Q) (EB K φ H (XE K E)))
def spT.len {K:Frag}{fs:jP->Fn}{vs:List V}{Q:VK}{E:XK}(h:spT K n fs vs H Q E):vs.length=n:=by cases h;assumption
def Na (q:Str)(fs:Addr->jP->Fn):Prop:=∀ns:bX,ns.length<=63->∀P PF,∃A,fs P PF [.ref 0] [.ro (ns.map W.int),.tab q P]=.ok (.bl true) A
def Fu {K:Frag}{q:Str}(P:H Pt=some (.tbl #[]))(S:Yq K H a (ns.map V.int)):zI K [a,Pt] [.ro (ns.map W.int),.tab q Pt] H:=by
 refine⟨rfl,λi j b o o' g f d c m1 m2=>?_,λn o h=>?_⟩
 ·match i,j,d,c with
  |0,_,d,_=>simp at d;subst d;cases m1|_,0,_,c=>simp at c;subst c;cases m2|1,1,_,_=>rfl|i+2,_,d,_=>simp at d|_,j+2,_,c=>simp at c
 ·match n,h with
  |0,h=>simp at h;subst h;exact⟨a,rfl,ns.map V.int,S,zy.ints.mpr rfl⟩|1,h=>simp at h;subst h;exact⟨Pt,rfl,rfl,#[],P,trivial,λpos cv e=>nomatch e⟩
  |n+2,h=>simp at h
section
variable {K:Frag}
def DD {a:Value}{o:cw}(hn:nsIn K mainGlobals x=some (some (.ref f)))(lk:K.lookup f=some ⟨a,o,.func fd,osl⟩)(h:tabIn K x=some (c,Pt)):fd.code=.ref c:=by
 unfold tabIn at h;rw[hn]at h;dsimp only at h;rw[lk]at h;dsimp only at h
 split at h
 ·rename_i C H
  split at h
  ·split at h
   ·cases h;exact H
   ·cases h
  ·cases h
 ·cases h
end
noncomputable def V8 (K:Frag)(x:Str)(p:Addr):Bool:=match tabIn K x with
 |some (c,P)=>P==p&&codeHdIn K c p|none=>false
def Pd {K:Frag}(h:V8 K x Pt=true):∃c,tabIn K x=some (c,Pt)/\codeHdIn K c Pt=true:=by
 unfold V8 at h
 split at h
 ·rename_i c P e
  rw[aw,aK]at h;obtain⟨rfl,H⟩:=h;exact⟨c,e,H⟩
 ·cases h
def zbO {l:PySem.W.OpenLaw}{k:Nat}{q:Program}{loose:cc}{XP:(cm)->Heap->Prop}{I:World->Heap->Prop}{d:DefRec}{Kp:Params->Frag}{Q:Str}{fs:Addr->jP->Fn}(ok:Na Q fs)
  (hn:l.most=some 63)(y:d.params.defaults=[])(X:jq k callerA)(hY:∀(w:World)(h:Heap),I w h->(Kp w.params).In h)(hT:∀(w:World)(h:Heap),I w h->h.get? Pt=some (tabObj #[]))(L:∀p,V8 (Kp p) d.name Pt=true)(P:∀p,(Kp p).lookup Pt=none)
  (F:∀(w:World)(mg:cm)(i:Addr)(h:Heap),(Kp w.params).In h->h.Ns mainGlobals mg->mg d.name=some (.ref i)->(∃c,tabIn (Kp w.params) d.name=some (c,Pt)/\codeHdIn (Kp w.params) c Pt=true)->
   ∃fd:FuncData,(∀(s:Shared)(u:Value),BindsTo s fd ⟨[u],[]⟩ [(x,u)])/\∀base:Heap,(Kp w.params).In base->base.Ns mainGlobals mg->BMain mg base->yY l.prog w (Kp w.params) mg base gr k i fd [x] (spT (Kp w.params) 1 (fs Pt))):
  PySem.W.WalkO q loose XP I l.row.toRowW d [] (λf vs=>PySem.call f vs):=by
 refine Att.Hm (n:=63) hn y λw J S mg mb i o pm cd doc a vs ns G Y ho hd M t j hints hlen Z=>?_;have K:=hY w _ Y;obtain⟨fd,hb,hF⟩:=F w mg i _ K G.T.g t (Pd (L w.params));obtain⟨c,_,B⟩:=Pd (L w.params);have N:=hT w _ Y;have hc:isCodeTable S.heap Pt:=((codeHd_of_K K B).tab N).isCodeTable;have C:BMain mg S.heap:=by
  obtain⟨bm,ob,b1,b2,E,b4,b5,D⟩:=G.T.bmain;refine⟨bm,ob,b1,b2,λz=>?_,E,b4,b5,D⟩;obtain⟨o,es,ep,e,hd,_⟩:=G.T.g;rw[z,e]at E;cases E;rw[hd]at D;cases D
 refine ES K G.T.g G.T.b G.T.builtins G.T.nolimit Z j hints (bt hlen (by decide)) X N (P w.params) hc C hF hb λH h1 h2=>?_
 refine⟨rfl,[a,Pt],[.ro (ns.map W.int),.tab Q Pt],[.ref 0],Fu h1 h2,.one ⟨a,rfl,rfl⟩,λPF=>?_⟩;obtain⟨A,e⟩:=ok ns hlen Pt PF;rw[e];exactλU H' v _ _ r=>r
def kS.m {K:Frag}{k:Nat}{f:Fn}(F:kS P w K mg base k x n f):zN P w K mg base k x n λws A=>(f ws A).nox:=by
 obtain⟨i,fd,ps,F,hm,c,d⟩:=F;have up:∀vs H Q E,KO K n (λws A=>(f ws A).nox) vs H Q E->Xd K n f vs H Q (λ_ _ _=>False):=λvs H Q E ⟨l,φ,A,ws,S,r,h⟩=>⟨l,φ,A,ws,S,r,by
  cases a:f ws A with
  |ok u A1=>(try dsimp only at h);rw[a]at h;exact h|exc y A1=>(try dsimp only at h);rw[a]at h;exact h.elim|bad=>(try dsimp only at h);rw[a]at h;exact h.elim⟩
 refine⟨i,fd,ps,⟨λvs H Q E h=>F.len vs H Q _ (up vs H Q E h),λA outer s H args us vs Q E b he t v h=>?_⟩,hm,c,d⟩;refine codeAny_mono (F.run A outer s H args us vs Q _ b he t v (up vs H Q E h)) λr s' h'=>?_;cases r with
 |error e=>
  unfold CR at h';obtain⟨_,_,_,_,_,_,_,_,_,_,z⟩:=h';exact z.elim
 |ok g=>cases g<;>exact h'
theorem kS.mono {K:Frag}{k:Nat}{f:Fn}(F:kS P w K mg base j x n f)(h:j<=k):kS P w K mg base k x n f:=by cases F with|mk d fd ps F a b c=>exact⟨d,fd,ps,F.mono h,a,b,c⟩
noncomputable abbrev GV:bY:=[.type "ValueError",.type "Exception",.type "BaseException",.type "object"]
noncomputable abbrev GU:String := "ValueError.__new__"
section
variable {K:Frag}{cs:cc}{top nm:Str}
noncomputable def clsAt (K:Frag)(x:Str):Addr:=match nsIn K mainGlobals x with
 |some (some (.ref C))=>C|_=>0
def isAt (K:Frag)(x:Str):Bool:=nsIn K mainGlobals x==some (some (.ref (clsAt K x)))
def jv (cs:cc)(x:Str):Str->Option Bool:=λnm=>if cs.contains nm then some (nm==x) else none
def Tj (cs:cc):Str->Option Bool:=λnm=>if cs.contains nm then some true else none
def Qv (K:Frag)(cs:cc)(x:Str):Bool:=isAt K x&&kitOne K (.type "NoneType") (.ref (clsAt K x))==some false&&cs.all λnm=>kitOne K (.ref (clsAt K nm)) (.ref (clsAt K x))==some (nm==x)
def Ga (K:Frag)(top nm:Str):Bool:=isAt K nm&&Kc K (clsAt K nm)&&Mi.gM K (clsAt K nm) GV GU&&Jm K (clsAt K nm) (clsAt K top)&&kitOne K (.ref (clsAt K nm)) (.type "ValueError")==some true
def VS (K:Frag)(top:Str):Bool:=isAt K top&&Mi.gM K (clsAt K top) GV GU&&kitOne K (.type "NoneType") (.type "ValueError")==some false
def VF (h:isAt K x=true):kf K x (.ref (clsAt K x)):=aK.mp h
def Vd {C:Addr}(h:kf K x (.ref C)):C=clsAt K x:=by
 unfold clsAt;unfold kf at h;rw[h]
structure Va (K:Frag)(top nm:Str):Prop where
 at_:kf K nm (.ref (clsAt K nm))
 kit:Kc K (clsAt K nm)=true
 exc:Mi.gM K (clsAt K nm) GV GU=true
 up:Jm K (clsAt K nm) (clsAt K top)=true
 val:kitOne K (.ref (clsAt K nm)) (.type "ValueError")=some true
def AH (h:Ga K top nm=true):Va K top nm:=by
 unfold Ga at h;simp only[aw,aK]at h;obtain⟨⟨⟨⟨d,c⟩,b⟩,a⟩,H⟩:=h;exact⟨VF d,c,b,a,H⟩
structure wN (K:Frag)(cs:cc)(top:Str):Prop where
 exc:∀nm,cs.contains nm=true->Va K top nm
 top_at:kf K top (.ref (clsAt K top))
 top_exc:Mi.gM K (clsAt K top) GV GU=true
 non:kitOne K (.type "NoneType") (.type "ValueError")=some false
def fq (h:cs.all (Ga K top ·)=true)(t:VS K top=true):wN K cs top:=by
 unfold VS at t;simp only[aw,aK]at t;obtain⟨⟨t1,T⟩,t3⟩:=t;exact⟨λnm e=>AH (cF.mp h nm (List.contains_iff_mem.mp e)),VF t1,T,t3⟩
def wN.isx (c:wN K cs top)(h:Qv K cs x=true):Km K (jv cs x) (.ref (clsAt K x)):=by
 unfold Qv at h;simp only[aw,aK]at h;obtain⟨⟨f,d⟩,a⟩:=h;refine⟨d,λnm C b e H=>?_⟩;unfold jv at e
 by_cases hm:cs.contains nm=true
 ·rw[ag hm]at e
  cases e;cases Vd H;exact⟨(c.exc nm hm).kit,aK.mp (cF.mp a nm (List.contains_iff_mem.mp hm))⟩
 ·rw[aj hm]at e;cases e
def wb (h:Qv K cs x=true):kf K x (.ref (clsAt K x)):=by
 unfold Qv at h;simp only[aw,aK]at h;exact VF h.1.1
def wN.isv (c:wN K cs top):Km K (Tj cs) (.type "ValueError"):=by
 refine⟨c.non,λnm C b e h=>?_⟩;unfold Tj at e
 by_cases hm:cs.contains nm=true
 ·rw[ag hm]at e
  cases e;cases Vd h;exact⟨(c.exc nm hm).kit,(c.exc nm hm).val⟩
 ·rw[aj hm]at e;cases e
def wN.under (c:wN K cs top):∀nm,cs.contains nm=true->∀C,kf K nm (.ref C)->∃b n,Mi.gM K C b n=true/\Jm K C (clsAt K top)=true:=λnm hm C h=>by
 cases Vd h;exact⟨_,_,(c.exc nm hm).exc,(c.exc nm hm).up⟩
end
noncomputable def Gv (M:cc)(sc:Scope)(t:Lm):Bool:=t.idx.length==t.N.length&&((List.range t.N.length).all λi=>match t.N[i]?,t.idx[i]? with
 |some x,some j=>M[j]?==some x&&t.scope.names.lookup x==some .free|_,_=>false)&&t.scope.names.all λy=>!(y.2==.free) || (sc.names.lookup y.1==some .cell || sc.names.lookup y.1==some .free)
def Ot {t:Lm}(h:Gv X.N X.env.scope t=true):Yi X t:=by
 unfold Gv at h;rw[aw,aw]at h;obtain⟨⟨d,c⟩,b⟩:=h;refine⟨aK.mp d,λi x j E f=>?_,λy H e=>?_⟩
 ·have a:i<t.N.length:=(cB.mp E).1
  have q:=cF.mp c i (cC.mpr a);rw[E,f]at q;dsimp only at q;rw[aw]at q;exact⟨aK.mp q.1,aK.mp q.2⟩
 ·have q:=cF.mp b y H
  rw[e]at q;rw[bO,bO]at q;rcases q with q|q|q
  ·cases q
  ·exact .inl (aK.mp q)
  ·exact .inr (aK.mp q)
def all_nil {p:α->Prop}:∀t∈([]:List α),p t:=λ_ h=>nomatch h
def all_cons {p:α->Prop}{a:α}{l:List α}(h:p a)(r:∀t∈l,p t):∀t∈a::l,p t:=λt H=>by
 rcases cA.mp H with e|e
 ·rw[e];exact h
 ·exact r t e
def ft {q:Str}{ls:List Lm}{k:Nat}{t:Lm}(H:ls[k]? =some t):w8 env q ls k=GG q t.params t.body t.scope (kG env t.scope.names []):=by
 funext ob c o vs
 refine propext ⟨λ⟨t',e,h⟩=>?_,λh=>⟨t,H,h⟩⟩;rw[H]at e;cases e;exact h
noncomputable def J5:Stmt:=.Pass ⟨0,0,0,0⟩
noncomputable def Jg:Expr:=.Constant .none 0 ⟨0,0,0,0⟩
def NR (s:Stmt)(i:Nat):Stmt:=match s with
 |.For _ _ b _ _=>b.getD i J5|.If _ b _ _=>b.getD i J5|.While _ b _ _=>b.getD i J5|_=>J5
def N5 (e:Expr)(i:Nat):Expr:=match e with
 |.Call _ a _ _=>a.getD i Jg|.List E _=>E.getD i Jg|.Tuple E _ _=>E.getD i Jg|.BinOp a _ b _=>if i=0 then a else b|_=>Jg
noncomputable def fv (e:Expr):Arguments:=match e with
 |.Lambda a _ _ _=>a|_=>{ posonlyargs:=[],args:=[],vararg:=none,kwonlyargs:=[],kw_defaults:=[],kwarg:=none,defaults:=[] }
def fw (e:Expr):Expr:=match e with
 |.Lambda _ b _ _=>b|_=>Jg
noncomputable def fx (e:Expr):Scope:=match e with
 |.Lambda _ _ s _=>s|_=>{ kind:=.function,names:=[],isGenerator:=false,isCoroutine:=false }
def GQ (e:Expr)(N:cc)(idx:b9)(m:Ev):Lm:=⟨N,idx,fv e,fw e,fx e,m⟩
def fy {K:Frag}{st:Stmt}{k:Nat}(F:wL K x x st f fd)(hm:mg x=some (.ref f))
  (b:∀(kV doc pm:Value)(an:cw)(c ct:Value)(us:bY),us.length=ps.length->bindArgs (fnOf x x (Qm st) (wz st) (qo st) .none kV doc pm an c ct) ⟨us,[]⟩=pure (ps.zip us)):zN P w K mg base k x ps.length (λ_ _=>.bad):=
 ⟨f,fd,ps,⟨λvs H Q E h=>h.1,λA outer s H args us vs Q E _ _ _ _ h=>by obtain⟨_,_,_,_,_,_,z⟩:=h;exact z.elim⟩,hm,F.kp,F.binds b⟩
def Bs {K:Frag}(t a b:Ty):kitAny K (.type t.nm) [.type a.nm,.type b.nm]=some (kK t a || kK t b):=by
 unfold kitAny;rw[W9];cases kK t a with
 |true=>rfl|false=>
  dsimp only;unfold kitAny;rw[W9];cases kK t b<;>rfl
section
variable {a b:Expr}{m:Ev}
def Jy.kitx {x:V}{t:Ty}(I:Inv X pins σ H s)(r:RelV x u)(h:Jy X.K H x t):∃d:Heap->Prop,PySem.W.KitX X.K u (.type t.nm) d/\d s.heap/\u≠.builtin "__main__.__loader__#opaque":=by
 rcases h with h|⟨a,xs,rfl,h,rfl⟩
 ·generalize hT:Value.type t.nm=T at h
  cases h with
  |non=>cases (show u=Value.none from r);exact⟨_,kitx_none,True.intro,λz=>nomatch z⟩
  |bl y=>cases (show u=Value.bool y from r);exact⟨_,kitx_bool,True.intro,λz=>nomatch z⟩
  |int i=>obtain⟨t,q⟩:=(show ∃t,u=Value.int i t from r);cases q;exact⟨_,kitx_int,True.intro,λz=>nomatch z⟩
  |str y=>obtain⟨t,q⟩:=(show ∃t,u=Value.str y t from r);cases q;exact⟨_,kitx_str,True.intro,λz=>nomatch z⟩
  |flt y=>obtain⟨t,q⟩:=(show ∃t,u=Value.float y t from r);cases q;exact⟨_,kitx_float,True.intro,λz=>nomatch z⟩
  |@lst a xs ea=>
   cases (show u=Value.ref a from r)
   obtain⟨_,_,n,_,b⟩:=(show jd X.prog X.w H s.heap a (.lst xs) from I.hok a _ ea)
   exact⟨_,kitx_list,⟨_,b,rfl⟩,λz=>nomatch z⟩
  |@frz a ob xs ea=>
   cases (show u=Value.ref a from r)
   obtain⟨_,_,_,n,_,b⟩:=(show jd X.prog X.w H s.heap a (.frz ob (.lst xs)) from I.hok a _ ea)
   exact⟨_,kitx_list,⟨_,b,rfl⟩,λz=>nomatch z⟩
  |@tup a xs ea=>
   cases (show u=Value.ref a from r)
   obtain⟨_,_,_,p⟩:=(show jd X.prog X.w H s.heap a (.tup xs) from I.hok a _ ea)
   obtain⟨o,b,c,_⟩:=p;exact⟨_,kitx_tuple,⟨o,b,c.1⟩,λz=>nomatch z⟩
  |@dK a kvs ea=>
   cases (show u=Value.ref a from r)
   obtain⟨_,_,_,_,o,_,_,b,c,_⟩:=(show jd X.prog X.w H s.heap a (.dK kvs) from I.hok a _ ea)
   exact⟨_,kitx_dict,⟨o,b,c.1⟩,λz=>nomatch z⟩
  |@dT a kvs ea=>
   cases (show u=Value.ref a from r)
   obtain⟨_,_,_,_,o,_,_,b,c,_⟩:=(show jd X.prog X.w H s.heap a (.dT kvs) from I.hok a _ ea)
   exact⟨_,kitx_dict,⟨o,b,c.1⟩,λz=>nomatch z⟩
  |ins=>cases hT
 ·cases (show u=Value.ref a from r)
  obtain⟨e,_,⟨o,b,c,_⟩,_⟩:=I.tuple h;exact⟨_,kitx_tuple,⟨o,b,c⟩,λz=>nomatch z⟩
def fA (K:Frag)(a b:Ty):List V->Hp->VK->Prop:=λxs H Q=>∃x t l,xs=[x,.ref l]/\qM K H l [.ty (Ty.nm a),.ty (Ty.nm b)]/\Jy K H x t/\Q (.bl (kK t a || kK t b)) H
def Dn {a b:Ty}:j3 X (.builtin "isinstance") (fA X.K a b):=by
 intro pins s σ H xs us Q I r h;obtain⟨x,t,l,rfl,y,w,q⟩:=h;obtain⟨u,e,rfl,f,c⟩:=vals2 r;cases (show e=Value.ref l from c)
 obtain⟨p,v,⟨o,C,B,k,A⟩,_⟩:=I.tuple y;obtain⟨d,U,rfl,i,g⟩:=vals2 v;cases (show d=Value.type a.nm from i)
 cases (show U=Value.type b.nm from g)
 obtain⟨J,Z,z,ne⟩:=w.kitx I f;obtain⟨n,E,j,D⟩:=o;cases (show n=_ from B)
 cases (show j=_ from A)
 exact PySem.W.kia_tup Z I.kIn z C (Bs t a b) ne λtk=>⟨.bl (kK t a || kK t b),H,I.tok tk,rfl,q⟩
def GI (t T:Ty)(m:Ev):Ev:=λρ A=>(m ρ A).bind λw A1=>match yk w A1 with
 |some t'=>.ok (.bl (kK t' t || kK t' T)) A1
 |none=>.bad
noncomputable def QG (m:Ev)(tw:Tg):Ex:=λρ A=>(m ρ A).bind λw A1=>match tw w ρ with
 |some a=>.ok (.nx a) A1|none=>.bad
end
noncomputable def Gp (PG:jP):W->W
 |.clo k ws _=>.clo k ws (PG k)|w=>w
open Classical in
def Kx (ls:List Lm)(PF:jP)(ρ:En):W->Option W
 |.clo k [] P=>if P=PF k then(match ls[k]? with
  |some t=>(Z0 t.idx ρ).map λws=>.clo k ws P|none=>none) else none
 |.clo _ _ _=>none|w=>some w
def Zj (ls:List Lm)(PF:jP)(ρ:En):List W->Option (List W)
 |[]=>some []|w::r=>match Kx ls PF ρ w,Zj ls PF ρ r with
  |some u,some us=>some (u::us)|_,_=>none
def Qs (ls:List Lm)(PF:jP)(f:Fn)(a:Ea):Ev:=λρ A=>(a ρ A).bind λws A1=>match Zj ls PF ρ ws with
 |some us=>f us A1|none=>.bad
section
variable {ls:List Lm}{q:Str}
def Ob (I:Inv X pins σ H s)(n:∀x,X.fn x=true)(l:∀t∈ls,Jp X.prog X.w X.K X.mg j q t)(c:∀t∈ls,Yi X t):
  Yl X.prog X.w X.K X.mg (Zp X.base s.heap X.env.cells) X.A X.stack s H/\∀k,Jj X.prog X.w X.K X.mg (Zp X.base s.heap X.env.cells) (j+1) (Yw X.env q ls σ k) (kx ls k):=by
 have a:∀b o,X.base.get? b=some o->(Zp X.base s.heap X.env.cells).get? b=some o:=λb o e=>HP I.bk e;have M:Mod X.K X.mg (Zp X.base s.heap X.env.cells):=by
  obtain⟨mb,p,B⟩:=I.mod.blt;exact⟨I.mod.kin.keeps a,I.mod.glob.keeps a,⟨mb,p.keeps a,B⟩,I.mod.nolimit.keeps a⟩
 have bs:∀b o,(Zp X.base s.heap X.env.cells).get? b=some o->s.heap.get? b=some o/\H b=none:=λb o e=>by
  obtain⟨i,E⟩:=P4 e;refine⟨i,?_⟩;rcases E with ⟨o',E⟩|⟨y,E⟩
  ·exact(I.bs b o' E).2
  ·exact I.freeC y b E
 refine⟨⟨I.ok.frames,M,bs,Nat.le_of_eq (hideAll_size _ _),frames_at I.stack λb d=>?_,I.stkFree,I.hok,I.bare⟩,
  λk=>fo l (λt f vs h=>DW I (λy C v e ⟨o,g,hd⟩=>⟨o,HA e g,hd⟩) (c t f) h) k⟩
 cases e:(Zp X.base s.heap X.env.cells).get? b with
 |none=>rfl|some o=>
  exfalso;rcases(P4 e).2 with ⟨o',E⟩|⟨y,E⟩
  ·have:=(I.stack.mem d).1
   rw[E]at this;cases this
  ·exact CK I n E d
theorem Rv {K:Frag}(re:RE K φ H ρ σ):∀{ws us:List W}{vs:List V},Zj ls (w8 env q ls) ρ ws=some us->zy K φ H ws vs->zy K φ H (us.map (Gp (Yw env q ls σ))) vs
 |[],us,vs,e,r=>by cases e;exact r|w::r,us,vs,e,⟨v,A,ev,j,y⟩=>by
  subst ev;unfold Zj at e;cases E:Kx ls (w8 env q ls) ρ w with
  |none=>rw[E]at e;cases e|some u=>
   cases i:Zj ls (w8 env q ls) ρ r with
   |none=>rw[E,i]at e;cases e|some U=>
    rw[E,i]at e;cases e;rw[aL];refine .cons ?_ (Rv re i y);cases w with
    |clo k xs P=>
     cases xs with
     |cons x xs=>unfold Kx at E;cases E|nil=>
      unfold Kx at E;dsimp only at E
      by_cases h:P=w8 env q ls k
      ·rw[ag h]at E
       subst h;cases d:ls[k]? with
       |none=>rw[d]at E;cases E|some t=>
        rw[d]at E;dsimp only at E;cases g:Z0 t.idx ρ with
        |none=>rw[g]at E;cases E|some l=>
         rw[g]at E;cases E;obtain⟨a,ob,o,c,s,uc,n,rfl,g1,g2,⟨t',b,z⟩,_⟩:=j;rw[d]at b;cases b;obtain⟨f,cv,p⟩:=R8 re g;exact⟨a,ob,o,c,s,uc,f,rfl,g1,g2,⟨t,d,z,cv⟩,p⟩
      ·rw[aj h]at E;cases E
    |_=>cases E;exact j
end
section
noncomputable abbrev wW (led:Bool):Obj:={ cls:=.type "set",dict:=none,data:=.set #[] 0 (.fresh 0 0 led) }
end
def intsAre_of:∀{ns:bX}{i:bY},Vals (ns.map V.int) i->IntsAre i ns:=by
 intro ns
 induction ns with
 |nil=>intro i h;cases h;exact .nil|cons n ns I=>
  intro i h;cases h with
  |cons r t=>obtain⟨tk,rfl⟩:=r;exact .cons n tk (I t)
def NZ (s:Stmt):Expr:=match s with
 |.If t _ _ _=>t|_=>Jg
inductive kP (h:Heap):List Value->List (bX)->Prop
 |nil:kP h [] []
 |cons {p:Addr} {its:Array Value} {ns:bX} {vs:bY} {nss:bV} (t:IsTup h p its) (i:IntsAre its.toList ns) (r:kP h vs nss):kP h (.ref p::vs) (ns::nss)
theorem kP.length {n:bV}(t:kP h vs n):vs.length=n.length:=by
 induction t with
 |nil=>rfl|cons _ _ _ i=>rw[aV,aV,i]
def kP.keep {n:bV}(t:kP h vs n)(k:∀p I,IsTup h p I->IsTup h' p I):kP h' vs n:=by
 induction t with
 |nil=>exact .nil|cons t i _ a=>exact .cons (k _ _ t) i a
def RX:∀{vs:bY}{ns:bX},IntsAre vs ns->ReadsAll h vs (ns.map PyData.int) []:=by
 intro vs ns i
 induction i with
 |nil=>exact .nil|cons n t r I=>exact .cons (.int n t) I
theorem Pp:∀(ns ms:bX),PyData.eqvAll (ns.map PyData.int) (ms.map PyData.int)=decide (ns=ms)
 |[],[]=>by simp[PyData.eqvAll]|[],_::_=>by simp[PyData.eqvAll]|_::_,[]=>by simp[PyData.eqvAll]|n::ns,m::ms=>by
  have:=Pp ns ms
  simp only[aL,PyData.eqvAll,PyData.eqv,this,List.cons.injEq]
  by_cases h1:n=m<;>by_cases h:ns=ms<;>simp[h1,h]
theorem Vk:∀(ns:bX),PyData.canLayAll0 (ns.map PyData.int)=true
 |[]=>by simp[PyData.canLayAll0]|n::ns=>by simp[PyData.canLayAll0,PyData.canLay0,Vk ns]
theorem XX:∀(ns:bX),PyData.depthAll (ns.map PyData.int)<=1
 |[]=>by simp[PyData.depthAll]|n::ns=>by
  have:=XX ns
  simp only[aL,PyData.depthAll,PyData.depth];omega
def EJ {A:Around}{p q:Addr}{a I:Array Value}{ms:bX}(t:IsTup s.heap p a)(T:IsTup s.heap q I)(i:IntsAre a.toList ns)(j:IntsAre I.toList ms)(u:A.units+10<cLine):
  SeqAt.EqAt A s (.ref p) (.ref q) (decide (ns=ms)):=by
 obtain⟨o,b,H,k,h⟩:=t;obtain⟨c,g1,g2,k2,g3⟩:=T;have e:=SeqAt.eqAt_reads (.tuple (ns.map .int)) (.tuple (ms.map .int)) A s (.ref p) (.ref q) _ _ (.tuple b H h (RX i)) (.tuple g1 g2 g3 (RX j)) (by simp[PyData.canLay0,Vk]) (by simp[PyData.canLay0,Vk])
  (by have:=XX ns;have:=XX ms;simp only[PyData.depth];omega)
 have ev:PyData.eqv (.tuple (ns.map .int)) (.tuple (ms.map .int))=decide (ns=ms):=by
  simp only[PyData.eqv];exact Pp ns ms
 rw[ev]at e;exact e
section
open PySem.SeqAt
open PySem.AutoSeq1 (wpAny_loadPart')
open PySem.MeetsSeq PySem.MeetsSeq2 PySem.MeetsSeq3
end
section
variable {K:Frag}
def Pm {w:W}{ds:List PyData}(h:qm A 8 w=some (.list ds)):PyData.canLayAll0 ds=true/\PyData.depthAll ds<=8:=by
 obtain⟨H,a⟩:=WB 8 w _ h;simp only[PyData.canLay0,PyData.depth]at H a;exact⟨H,by omega⟩
def zdr:W->W->Hx->R W:=λx y A=>match qm A 8 x,qm A 8 y with
 |some d,some (.list ds)=>.ok (.bl (ds.any λz=>PyData.eqv z d)) A|_,_=>.bad
noncomputable def Zk (p:PyData->Bool):List PyData->Option Nat
 |[]=>none|d::ds=>if p d then some 0 else(Zk p ds).map (· + 1)
theorem Pn {p:PyData->Bool}:∀{ds:List PyData}{j:Nat},Zk p ds=some j->∃h:j<ds.length,p ds[j]=true/\∀m (hm:m<ds.length),m<j->p ds[m]=false
 |[],_,e=>by cases e|d::ds,j,e=>by
  unfold Zk at e
  by_cases hd:p d=true
  ·rw[ag hd]at e
   cases e;exact⟨zero_lt_succ _,hd,λm _ z=>absurd z (not_lt_zero _)⟩
  ·rw[aj hd]at e
   cases E:Zk p ds with
   |none=>rw[E]at e;cases e|some J=>
    rw[E]at e;cases e;obtain⟨b,a,H⟩:=Pn E;refine⟨Nat.succ_lt_succ b,a,λm hm z=>?_⟩;cases m with
    |zero=>exact Bool.eq_false_iff.mpr hd|succ m=>exact H m (Nat.lt_of_succ_lt_succ hm) (Nat.lt_of_succ_lt_succ z)
def Ak (K:Frag):V->List V->Hp->VK->Prop:=λx vs H Q=>∃φ A u v y d ds j,vs=[y]/\zI K φ A H/\RV K φ H u x/\RV K φ H v y/\qm A 8 u=some (.list ds)/\qm A 8 v=some d/\Zk (λz=>PyData.eqv z d) ds=some j/\j<1000000/\Q (.int j) H
def Eo (N:X.A.units+64<cLine):U2 X "list.index" (Ak X.K):=by
 intro pins s σ H x vs v us Q I r i h;obtain⟨φ,A,f,w,y,d,ds,j,rfl,S,B,t,a,E,L,P,q⟩:=h;obtain⟨u,rfl,p⟩:=i.one;obtain⟨as,D⟩:=Qi I S 8 f x v _ B r a;obtain⟨bs,C⟩:=Qi I S 8 w y u d t p E;obtain⟨g1,g2⟩:=WB 8 w d E;obtain⟨g3,T⟩:=Pm a;obtain⟨f1,f2,J⟩:=Pn L;cases D with
 |list a1 a2 c b=>
  rename_i l o items n M
  obtain⟨cls,dd,data,g⟩:=o;simp only at a2 c;subst a2 c;have hm:=SeqAt.readsAll_map _ _ _ g3 b;have hlen:items.size=ds.length:=by rw[<- hm];simp
  have at_:∀m (h:m<items.size) (h':m<ds.length),SeqAt.readOf s.heap items[m]=ds[m]:=λm h h'=>by
   have e:(items.toList.map (SeqAt.readOf s.heap))[m]? =ds[m]?:=by rw[hm]
   rw[ao,aa h',bM,Array.getElem?_eq_getElem h]at e;exact aA e
  refine call_meets F.slot_list_index ⟨_,a1,rfl⟩ F.entry_list_index (F.args_list_index_2 _ _)
   (SeqAt.list_indexAt l items n dd g u (λz=>PyData.eqv (SeqAt.readOf s.heap z) d) j (by omega) (by omega) (by rw[at_ j (by omega) f1];exact f2) (λm h z=>by rw[at_ m h (by omega)];exact J m (by omega) z)) ⟨a1,SeqAt.items_eqAt b C g3 g1 (by omega),?_⟩
  exact⟨.int j,H,I.tok _,⟨_,rfl⟩,q⟩
def Zf:W->W->Hx->R W:=λx y A=>match qm A 8 x,qm A 8 y with
 |some (.list ds),some d=>(match Zk (λz=>PyData.eqv z d) ds with
  |some j=>if j<1000000 then .ok (.int j) A else .bad|none=>.bad)
 |_,_=>.bad
def DP:∀x y A,qR (Zf x y A):=λx y A=>by
 unfold Zf
 split
 ·split
  ·exact gF jQ qP
  ·exact qP
 ·exact qP
end
end Mi
variable {ls:List Mi.Lm}
namespace Mi
open PySem
noncomputable def qe (n:Nat):b9:=(List.range 8).filter λi=>n.testBit i
def jg (led:Bool)(n:Nat):SetTable:=if (qe n).length<5 then⟨7,(qe n).toArray,#[],0,led,0,true⟩ else⟨31,(qe n).toArray,#[],0,led,1,true⟩
noncomputable def jy (n v:Nat):Nat:=n ||| (1 <<< v)
def gL (n v:Nat):Nat:=((qe n).filter λi=>decide (i<v)).length
def kR (led:Bool)(n v:Nat):SetTable:={ jg led n with place:=(qe (jy n v)).toArray }
def yX (led:Bool)(n v:Nat):Bool:=n.testBit v || (((jg led n).freeSlot (v:Int)==some (v,false))&&((jg led n).put v==(kR led n v,gL n v))&&(qe (jy n v)==(qe n).take (gL n v)++v::(qe n).drop (gL n v))&&
 (kR led n v).fits (qe (jy n v)).length&&((kR led n v).tooFull==((qe (jy n v)).length==5))&&
 (if (qe (jy n v)).length==5 then(kR led n v).relaid ((qe (jy n v)).map λ(i:Nat)=>(i:Int)).toArray 20==some (jg led (jy n v),#[0,1,2,3,4]) else jg led (jy n v)==kR led n v)&&
 (jg led (jy n v)).fits (qe (jy n v)).length&&decide (jy n v<256))
def add_0:((List.range' 0 32).all λn=>(List.range 8).all λv=>yX true n v&&yX false n v)=true:=by decide +kernel
def fB:((List.range' 32 32).all λn=>(List.range 8).all λv=>yX true n v&&yX false n v)=true:=by decide +kernel
def fC:((List.range' 64 32).all λn=>(List.range 8).all λv=>yX true n v&&yX false n v)=true:=by decide +kernel
def fD:((List.range' 96 32).all λn=>(List.range 8).all λv=>yX true n v&&yX false n v)=true:=by decide +kernel
def fE:((List.range' 128 32).all λn=>(List.range 8).all λv=>yX true n v&&yX false n v)=true:=by decide +kernel
def fF:((List.range' 160 32).all λn=>(List.range 8).all λv=>yX true n v&&yX false n v)=true:=by decide +kernel
def fG:((List.range' 192 32).all λn=>(List.range 8).all λv=>yX true n v&&yX false n v)=true:=by decide +kernel
def fH:((List.range' 224 32).all λn=>(List.range 8).all λv=>yX true n v&&yX false n v)=true:=by decide +kernel
def Br:((List.range 256).all λn=>(List.range 8).all λv=>yX true n v&&yX false n v)=true:=by
 rw[show List.range 256=List.range' 0 32++(List.range' 32 32++(List.range' 64 32++(List.range' 96 32++(List.range' 128 32++(List.range' 160 32++(List.range' 192 32++List.range' 224 32)))))) by decide +kernel,bS,bS,bS,bS,bS,bS,bS,add_0,fB,fC,fD,fE,fF,fG,fH]
 rfl
open PySem PySem.Spec PyProof.Rows
inductive jt:List (Int×Value)->List Nat->Prop
 |nil:jt [] []
 |cons {es:List (Int×Value)} {vs:b9} (v:Nat) (tk:Tok) (h:jt es vs):jt (((v:Int),.int (v:Int) tk)::es) (v::vs)
theorem jt.length {vs:b9}(h:jt es vs):es.length=vs.length:=by
 induction h with
 |nil=>rfl|cons v tk h i=>simp[i]
def jt.map1 {vs:b9}(h:jt es vs):es.map (·.1)=vs.map λ(i:Nat)=>(i:Int):=by
 induction h with
 |nil=>rfl|cons v tk h I=>simp[I]
theorem jt.take {vs:b9}(h:jt es vs):∀k,jt (es.take k) (vs.take k):=by
 induction h with
 |nil=>intro k;simp;exact .nil|cons v tk h i=>
  intro k;cases k with
  |zero=>exact .nil|succ k=>exact .cons v tk (i k)
theorem jt.drop {vs:b9}(h:jt es vs):∀k,jt (es.drop k) (vs.drop k):=by
 induction h with
 |nil=>intro k;simp;exact .nil|cons v tk h i=>
  intro k;cases k with
  |zero=>exact .cons v tk h|succ k=>exact i k
def jt.app {es':List (Int×Value)}{vs a:b9}(h:jt es vs)(h':jt es' a):jt (es++es') (vs++a):=by
 induction h with
 |nil=>exact h'|cons v tk h i=>exact .cons v tk i
def Ro:∀v,v<8->hashInt ((v:Nat):Int)=(v:Int):=by decide
section
variable {prog:Program}
def jt.elems {vs:b9}(h:jt es vs)(H:∀v∈vs,v<8):ElemsOf (intKind prog w) es:=by
 induction h with
 |nil=>intro e he;cases he|cons v tk h i=>
  intro e he;rcases cA.mp he with rfl|he
  ·exact⟨⟨(v:Int),intKind_is _ _ _ _,(Ro v (H v (ax ..))).symm⟩,rfl⟩
  ·exact i (λu a=>H u (au _ a)) e he
def jt.find {vs:b9}(h:jt es vs)(v:Nat):(es.findIdx? λe=>(intKind prog w).is (v:Int) e.2)=vs.findIdx? λu=>decide (u=v):=by
 induction h with
 |nil=>rfl|cons u tk h i=>
  rw[List.findIdx?_cons,List.findIdx?_cons,i]
  have:(intKind prog w).is (v:Int) (Value.int (u:Int) tk)=decide (u=v):=by
   show Value.isInt (v:Int) (Value.int (u:Int) tk)=_;unfold Value.isInt;rw[Bool.eq_iff_iff];simp;omega
  rw[this]
end
def VO {v:Nat}:v∈qe n↔v<8/\n.testBit v=true:=by
 unfold qe;rw[mem_filter,mem_range]
def yO (h:Heap)(a:Addr)(led:Bool)(n:Nat):Prop:=∃o e E,h.get? a=some o/\o.ExactSet/\o.data=.set e E (jg led n)/\jt e.toList (qe n)/\n<256
def yO.keep (x:yO h a led n)(k:∀o,h.get? a=some o->h'.get? a=some o):yO h' a led n:=
 let ⟨o,es,ep,H,r⟩:=x;⟨o,es,ep,k o H,r⟩
def De {v:Nat}(hn:n<256)(H:v<8)(led:Bool):yX led n v=true:=by
 have h:=cF.mp (cF.mp Br n (cC.mpr hn)) v (cC.mpr H);rw[aw]at h;cases led
 ·exact h.2
 ·exact h.1
def Cg:((List.range 256).all λn=>(jg true n).fits (qe n).length&&(jg false n).fits (qe n).length)=true:=by decide +kernel
def X8 (led:Bool)(n:Nat):(jg led n).plain=true:=by unfold jg;split<;>rfl
def BS (led:Bool)(n:Nat):(jg led n).led=led:=by unfold jg;split<;>rfl
def RO (led:Bool)(n:Nat):(jg led n).place=(qe n).toArray:=by unfold jg;split<;>rfl
def fits_of (hn:n<256)(led:Bool):(jg led n).fits (qe n).length=true:=by
 have h:=cF.mp Cg n (cC.mpr hn);rw[aw]at h;cases led
 ·exact h.2
 ·exact h.1
def J0 (n:Nat):(qe n).length<=8:=by
 unfold qe;exact bt (bG _ _) (by simp)
structure GJ (led:Bool)(n v:Nat):Prop where
 free:(jg led n).freeSlot (v:Int)=some (v,false)
 put:(jg led n).put v=(kR led n v,gL n v)
 vs:qe (jy n v)=(qe n).take (gL n v)++v::(qe n).drop (gL n v)
 fits:(kR led n v).fits (qe (jy n v)).length=true
 full:(kR led n v).tooFull=((qe (jy n v)).length==5)
 UT:(qe (jy n v)).length=5->(kR led n v).relaid ((qe (jy n v)).map λ(i:Nat)=>(i:Int)).toArray 20=some (jg led (jy n v),#[0,1,2,3,4])
 less:(qe (jy n v)).length≠5->jg led (jy n v)=kR led n v
 lt:jy n v<256
def FE {v:Nat}(hn:n<256)(a:v<8)(led:Bool)(b:n.testBit v=false):GJ led n v:=by
 have h:=De hn a led;unfold yX at h;rw[b,Bool.false_or]at h;simp only[aw,aK,ak]at h;obtain⟨⟨⟨⟨⟨⟨⟨j,i⟩,g⟩,f⟩,d⟩,H⟩,l⟩,c⟩:=h;refine⟨j,i,g,f,d,λe=>?_,λe=>?_,c⟩
 ·rw[ag e]at H;exact of_decide_eq_true (by simpa using H)
 ·rw[aj e]at H;simpa using H
def yM (n v:Nat):Nat:=if n.testBit v then n else jy n v
section
variable {prog:Program}{A:Around}
def Cc {e:Array (Int×Value)}{v:Nat}{x:Value}(f:GJ led n v)(he:jt e.toList (qe n)):layNew (jg led n) e (v:Int) x=(SetTable.insertAt e (gL n v) ((v:Int),x),kR led n v,false,false):=by
 have hsz:(SetTable.insertAt e (gL n v) ((v:Int),x)).size=(qe (jy n v)).length:=by
  rw[<- aS,SetTable.toList_insertAt,f.vs,ay,ay,aV,aV,bU,bU,length_drop,length_drop,he.length]
 unfold layNew;rw[f.free];dsimp only;rw[f.put];dsimp only;rw[hsz];unfold SetTable.orStandIn;rw[ag f.fits,f.fits]
 rfl
def Bz {E:Array (Int×Value)}{v:Nat}(f:GJ led n v)(H:(qe (jy n v)).length=5)(he:jt E.toList (qe (jy n v))):relayAll (kR led n v) E 20=(E,jg led (jy n v),false):=by
 have hm:E.map (·.1)=((qe (jy n v)).map λ(i:Nat)=>(i:Int)).toArray:=by
  apply Array.toList_inj.mp
  rw[Array.toList_map,he.map1]
 have hsz:E.size=5:=by rw[<- aS,he.length,H]
 have h:(#[0,1,2,3,4]:Array Nat).filterMap (E[·]?)=E:=by
  apply Array.toList_inj.mp
  rw[Array.toList_filterMap];have h0:E.toList.length=5:=by rw[aS];exact hsz
  have g:∀i,E[i]? =E.toList[i]?:=λi=>by rw[bM]
  simp only[g];generalize E.toList=l at h0;obtain⟨a,b,c,d,e,rfl⟩:∃a b c d e,l=[a,b,c,d,e]:=by
   match l,h0 with
   |[a,b,c,d,e],_=>exact⟨a,b,c,d,e,rfl⟩
  rfl
 unfold relayAll;rw[hm,f.UT H];dsimp only;rw[h];have j:coversAll #[0,1,2,3,4] E.size=true:=by rw[hsz];decide +kernel
 have hf:(jg led (jy n v)).fits E.size=true:=by rw[hsz,<- H];exact fits_of f.lt led
 rw[j,hf]
 rfl
def jt.insert {e:Array (Int×Value)}{v:Nat}{tk:Tok}(f:GJ led n v)(he:jt e.toList (qe n)):jt (SetTable.insertAt e (gL n v) ((v:Int),.int (v:Int) tk)).toList (qe (jy n v)):=by
 rw[SetTable.toList_insertAt,f.vs];exact(he.take _).app (.cons v tk (he.drop _))
def Rt {o:Obj}{E es':Array (Int×Value)}{e:Nat}{t:SetTable}{t':SetTable}(H:h.get? a=some o)(hd:o.data=.set E e t):(h.update a (Obj.putSet es' t')).get? a=some { o with data:=.set es' (e+1) t' }:=by
 have:=bb (Obj.putSet es' t') H (by rw[putSet_of es' t' hd];rfl)
 rw[putSet_of es' t' hd]at this;exact this
def HS {v:Nat}{tk:Tok}{Q:Bool->Shared->Prop}(U:yO s.heap a led n)(z:v<8)
  (h:∀h' b,Heap.SameBut a s.heap h'->yO h' a led (yM n v)->Q b { s with heap:=h' }):
  wpAny (model prog w) A (setAddHashed a (.int (v:Int) tk) ((intKind prog w).hash (v:Int))) Q E s:=by
 obtain⟨o,p,I,r,hex,hd,he,hn⟩:=U;have hlen:p.size=(qe n).length:=by rw[<- aS,he.length]
 have hf:(jg led n).fits p.size=true:=by rw[hlen];exact fits_of hn led
 have t:ElemsOf (intKind prog w) p.toList:=he.elems λu K=>(VO.mp K).1;have l:p.size<scanBound:=by rw[hlen];have:=J0 n;unfold scanBound;omega
 unfold setAddHashed setAddHashedIn;refine wpAny_holding (cy (wpAny_setState_of r hd hf ?_));dsimp only;rw[byScan_of (x:=.int (v:Int) tk) rfl l t];simp only[↓reduceIte];unfold setAddByScan;refine cy ?_;refine cy (wpAny_rule ?_);refine cy (wpAny_setScan_of (knd:=intKind prog w) (intKind_is _ _ _ _) r hd hf t ?_);rw[he.find];cases J:(qe n).findIdx? λu=>decide (u=v) with
 |some j=>
  dsimp only;have l:n.testBit v=true:=by
   obtain⟨P,C,_⟩:=List.findIdx?_eq_some_iff_getElem.mp J
   have:=of_decide_eq_true C
   exact(VO.mp (this ▸ aP P)).2
  refine cz (cz ?_);have e:s={ s with heap:=s.heap }:=by cases s;rfl
  rw[e];refine h s.heap false (Heap.SameBut.refl a s.heap) ?_;unfold yM;rw[ag l];exact⟨o,p,I,r,hex,hd,he,hn⟩
 |none=>
  dsimp only;have l:n.testBit v=false:=by
   cases N:n.testBit v with
   |false=>rfl|true=>
    have:=List.findIdx?_eq_none_iff.mp J v (VO.mpr ⟨z,N⟩)
    simp at this
  have f:=FE hn z led l;have S:(intKind prog w).hash (v:Int)=(v:Int):=Ro v z;rw[S];rw[Cc f he];have H:=he.insert (tk:=tk) f;have i:(SetTable.insertAt p (gL n v) ((v:Int),Value.int (v:Int) tk)).size=(qe (jy n v)).length:=by rw[<- aS,H.length]
  generalize SetTable.insertAt p (gL n v) ((v:Int),Value.int (v:Int) tk)=c at H i;dsimp only;refine cy (cz ?_);have M:(kR led n v).plain=true:=by unfold kR;exact X8 led n
  rw[M];simp only[↓reduceIte];refine cy ?_;rw[hashByValue_scannable 8 (x:=.int (v:Int) tk) rfl];refine cz ?_;have B:plainKind (.int (v:Int) tk)=true:=rfl;rw[B];simp only[↓reduceIte];have q:c.size<=sizeLine:=by rw[i,sizeLine_eq];have:=J0 (jy n v);omega
  refine cy (wpAny_storeSet_of r hd ?_ q);have g:=Rt (es':=c) (t':=kR led n v) r hd;have d:=Heap.SameBut.update s.heap a (Obj.putSet c (kR led n v));rw[f.full]
  by_cases y:(qe (jy n v)).length=5
  ·have T:SetTable.grown c.size=20:=by rw[i,y];rfl
   rw[T,Bz f y H,y];simp only[Bool.not_false,Bool.true_and,br,↓reduceIte];refine cy (cz ?_);refine cy (wpAny_storeSet_of g rfl ?_ q);refine cz ?_;dsimp only;refine cz ?_;have D:=Rt (es':=c) (t':=jg led (jy n v)) g rfl;refine h _ true (d.trans (Heap.SameBut.update _ a _)) ?_;unfold yM;rw[l];exact⟨_,c,I+1+1,D,hex,rfl,H,f.lt⟩
  ·have L:((qe (jy n v)).length==5)=false:=by simpa using y
   rw[L];simp only[Bool.not_false,Bool.and_false,a9,↓reduceIte];refine cz ?_;dsimp only;refine cz ?_;refine h _ true d ?_;unfold yM;rw[l,aj az,];refine⟨_,c,I+1,g,hex,?_,H,f.lt⟩;rw[f.less y]
end
noncomputable abbrev jO (w:World):Bool:=!w.params.followText "set-order"
def ZW (val:Nat->Nat)(i:Nat):Nat:=((List.range i).map val).foldl yM 0
def EW (val:Nat->Nat)(i:Nat):ZW val (i+1)=yM (ZW val i) (val i):=by
 unfold ZW;rw[bE,aX,foldl_append]
 rfl
section
variable {prog:Program}{A:Around}
def LZ (a:Value){Q1:cf}(h:Q1 (.ref s.heap.objs.size) { s with heap:=s.heap.push (wW (jO w)) }):
  codeAny (model prog w) A (.call (.builtin "set.__new__") ⟨[.type "set",a],[]⟩) (wants Q1 E) s:=by
 refine codeAny_of_tree ?_;show wpAny _ A.in1 (do checkBuiltinCall "set.__new__" ⟨[.type "set",a],[]⟩;again (.builtin "set.__new__" ⟨[.type "set",a],[]⟩)) _ _ s
 refine cy (wpAny_of_eq (F.newCall_set_1 a) (cz ⟨plainId_quiet F.plain_set_new _,codeAny_builtin F.entry_set_new ?_⟩));rw[Around.under_plainId F.plain_set_new _];unfold Builtin.«set.__new__» Builtin.Frozenset.newClass;have H:=sub_set_self;obtain⟨p,g,d,tk,os⟩:=s;dsimp only
 wp_walk
 refine wpAny_askSetting (cz ?_);dsimp only;simp only[newObj];refine cy (wpAny_alloc (cz ?_));exact cz h
end
section
variable {prog:Program}{A:Around}{R:Result->Shared->Prop}{I:Addr}{wr:bZ}{G:Array GenState->Array GenState->Prop}{P:Nat->Value->Prop}{St:Nat->Shared->Prop}
def EH (W:WalksS prog w A.in1 I fp wr G n P St)(S:Addr)(q:S∉fp)(led:Bool)(val:Nat->Nat)(l:∀i v,P i v->∃t,v=.int ((val i:Nat):Int) t)(N:∀i,i<n->val i<8):
  ∀(k i:Nat)(s:Shared),n-i=k->i<=n->St i s->yO s.heap S led (ZW val i)->
   (∀s',Moved (S::wr) G s s'->yO s'.heap S led (ZW val n)->R (.ok (.ret .none)) s')->
   codeAny (model prog w) A (.builtin "set.update.loop" ⟨[.ref S,.ref I],[]⟩) R s:=by
 have p:S∉wr:=λh=>q (W.sub _ h);have H:∀b∈wr,b∈S::wr:=λb j=>au _ j;intro k
 induction k with
 |zero=>
  intro i s K L a D E;have y:i=n:=by omega
  subst y;refine codeAny_builtin F.entry_set_update_loop ?_;rw[Around.under_plainId F.plain_set_update_loop _];show wpAny _ A.in1 (pyNext (.ref I) >>= _) _ _ s;refine cy (W.done s _ _ a λs' hm=>?_);show wpAny _ A.in1 (ret Value.none) _ _ s';exact cz (E s' (hm.mono H) (D.keep λo x=>hm.heap S _ p x))
 |succ k J=>
  intro i s K L a D E;have c:i<n:=by omega
  refine codeAny_builtin F.entry_set_update_loop ?_;rw[Around.under_plainId F.plain_set_update_loop _];show wpAny _ A.in1 (pyNext (.ref I) >>= _) _ _ s;refine cy (W.item i s _ _ c a λv s' M d hm=>?_);obtain⟨t,rfl⟩:=l i v M;have C:yO s'.heap S led (ZW val i):=D.keep λo x=>hm.heap S _ p x;show wpAny _ A.in1 (holding [Value.int ((val i:Nat):Int) t] (setAdd S (.int ((val i:Nat):Int) t)) >>= _) _ _ s';refine cy (wpAny_holding ?_);unfold setAdd;refine wpAny_holding ?_;refine cy ((intKind prog w).pyHash (k:=((val i:Nat):Int)) (intKind_is _ _ _ _) ?_);refine HS (s:={ s' with toks:=s'.toks+1 }) C (N i c) λh' b f B=>?_
  have z:yO h' S led (ZW val (i+1)):=by rw[EW];exact B
  refine cz ⟨plainId_quiet F.plain_set_update_loop _,J (i+1) _ (by omega) c (W.frame _ s' _ _ d (le_succ _) λb j o e=>?_) z λu g r=>?_⟩
  ·rw[f.2 b (λh:b=S=>q (by rw[<- h];exact j))];exact e
  ·refine E u (Moved.trans W.gtrans ((hm.mono H).then_heap (le_succ _) λb o j e=>?_) g) r
   rw[f.2 b (λh:b=S=>j (by rw[h];exact ax))];exact e
end
section
variable {prog:Program}{A:Around}
def fI (led:Bool)(g:h.get? a=some (wW led)):yO h a led 0:=
 ⟨_,#[],0,g,⟨rfl,rfl,rfl⟩,(by cases led<;>rfl),.nil,by decide⟩
def LD {l:Addr}{vs:b9}(D:A.handled=none)(B:s.heap.IsList l its.toArray)(p:IntsAre its (vs.map λ(v:Nat)=>(v:Int)))(J:∀v∈vs,v<8)
  (h:∀(h':Heap)(tk:Nat),yO h' s.heap.objs.size led (vs.foldl yM 0)->
   (∀b o,b<s.heap.objs.size->s.heap.get? b=some o->h'.get? b=some o)->Q .none { s with heap:=h',toks:=tk }):
  codeAny (model prog w) A (.call (.builtin "set.__init__") ⟨[.ref s.heap.objs.size,.ref l],[]⟩) (wants Q E) { s with heap:=s.heap.push (wW led) }:=by
 have hlen:its.length=vs.length:=by
  have:∀{its:bY}{ns:bX},IntsAre its ns->its.length=ns.length:=λh=>by
   induction h with
   |nil=>rfl|cons _ _ _ I=>simp[I]
  rw[this p,ai]
 have S:(s.heap.push (wW led)).get? s.heap.objs.size=some (wW led):=av _ rfl;refine codeAny_call_builtin F.called_set.init.plain F.entry_set_init (check_set_init_1 ⟨_,S,rfl⟩ ?_);obtain⟨ob,f,a,n,q⟩:=B;obtain⟨U,P,y,x⟩:=ob;dsimp only at a q;cases a;cases q;have g1:=af (wW led) f;have n1:=F.sub_list_set;have Y:=F.sub_list_frozenset;have X:(Value.type "list" == Value.type "dict")=false:=by decide
 have r:(s.heap.push (wW led)).IsList l its.toArray:=⟨_,g1,rfl,n,rfl⟩;unfold Builtin.«set.__init__» noKeywords Builtin.Frozenset.updateFrom;generalize C:pyIter=PI
 wp_walk
 subst C;refine wpAny_pyIter_list r (cy (wpAny_runValue ?_));have lt:l<s.heap.objs.size:=aG f;have sz:(s.heap.push (wW led)).objs.size=s.heap.objs.size+1:=bf ..;have ne:l≠(s.heap.push (wW led)).objs.size:=by rw[sz];exact aM (bc lt)
 have W:=(Walks.list (prog:=prog) (w:=w) (A:=A.in1.in1) (by simp[D]) (s.heap.push (wW led)).objs.size l ne its.toArray).toS
 have g:its.toArray.size=vs.length:=by rw[aF];exact hlen
 rw[g]at W;have off:s.heap.objs.size∉[(s.heap.push (wW led)).objs.size,l]:=by
  rw[sz];intro hm;rcases cA.mp hm with z|hm
  ·exact aM (bz _) z
  ·exact bq lt (cE.mp hm)
 have c:ZW (λi=>vs.getD i 0) vs.length=vs.foldl yM 0:=by
  unfold ZW
  congr 1
  apply bx
  ·simp
  ·intro i f a
   have H:i<vs.length:=by simpa using a
   simp[ae,aa H]
 refine EH W s.heap.objs.size off led (λi=>vs.getD i 0) (λi v e=>?_) (λi H=>?_) vs.length 0 _ rfl (bK _) ⟨⟨_,av _ rfl,rfl,rfl⟩,r.push _⟩ ?_ ?_
 ·obtain⟨t,j⟩:=IntsAre.int_at p i v (by simpa using e)
  refine⟨t,j.trans ?_⟩;have H:i<vs.length:=by
   have:=(cB.mp (show its[i]? =some v by simpa using e)).1
   omega
  congr 1
  simp[ae,ao,aa H]
 ·rw[ae,aa H]
  exact J _ (aP H)
 ·exact fI led (af _ S)
 ·intro s' M u
  rw[c]at u;obtain⟨h',g',d',T,d⟩:=s';have N:g'=s.gens:=M.gens;have j:d'=s.drawn:=M.drawn;have K:d=s.os:=M.os;subst N j K;refine cz ?_;show wpAny _ _ (ret Value.none) _ _ _;refine cz (h h' T u λb o L e=>M.heap b o (λhm=>?_) (af _ (af _ e)));rcases cA.mp hm with z|hm
  ·exact aM L z
  ·exact aM (bc L) ((cE.mp hm).trans sz)
def LJ {l:Addr}{vs:b9}(j:A.handled=none)(t:s.heap.IsList l its.toArray)(i:IntsAre its (vs.map λ(v:Nat)=>(v:Int)))(n:∀v∈vs,v<8)
  (h:∀(h':Heap)(tk:Nat),yO h' s.heap.objs.size (jO w) (vs.foldl yM 0)->
   (∀b o,b<s.heap.objs.size->s.heap.get? b=some o->h'.get? b=some o)->Q (.ref s.heap.objs.size) { s with heap:=h',toks:=tk }):
  wpAny (model prog w) A (call (.type "set") [.ref l]) Q E s:=by
 obtain⟨c,q,d⟩:=F.called_set.mro;have a1:=F.called_set.made;have a2:=F.called_set.sub;have C:=F.called_set.notType;have z:=F.called_set.canCreate;have y:=F.typeCall_set_1 (.ref l);refine wpAny_call (codeAny_of_tree ?_);show wpAny _ _ (callAny (.type "set") _) _ _ _;refine cz ⟨Code.quiet_builtin _ (by decide +kernel),codeAny_builtin F.entry_type_call ?_⟩
 rw[Around.under_plain (weight_type_call_type "set" [.ref l] []) rfl]
 repeat (any_goals (first|assumption|wp_step))
 refine codeAny_mono (LZ (.ref l) (E:=E) (Q1:=λu s1=>u=.ref s.heap.objs.size/\s1={ s with heap:=s.heap.push (wW (jO w)) }) ⟨rfl,rfl⟩) λr s1 a=>?_
 cases r with
 |error e=>exact a|ok p=>
  cases p with
  |ret u=>
   obtain⟨rfl,rfl⟩:=a;have T:Shared.TypeIs { s with heap:=s.heap.push (wW (jO w)) } (.ref s.heap.objs.size) "set":=⟨_,av _ rfl,rfl⟩
   have x:=F.called_set.init.lookup;have B:=F.called_set.init.bind (.ref s.heap.objs.size)
   repeat (any_goals (first|assumption|wp_step))
   refine codeAny_mono (LD (E:=E) (Q:=λv s2=>v=.none/\∃h' tk,s2={ s with heap:=h',toks:=tk }/\yO h' s.heap.objs.size (jO w) (vs.foldl yM 0)/\
    ∀b o,b<s.heap.objs.size->s.heap.get? b=some o->h'.get? b=some o) (by simp[j]) t i n λh' tk S K=>⟨rfl,h',tk,rfl,S,K⟩) λg s2 H=>?_
   cases g with
   |error e=>exact H|ok f=>
    cases f with
    |ret v=>
     obtain⟨rfl,h',tk,rfl,S,K⟩:=H
     repeat (any_goals (first|assumption|wp_step))
     exact h _ _ S K
    |_=>exact H.elim
  |_=>exact a.elim
end
theorem RC:∀{l:List α}{k:Nat}{w:α},l[k]? =some w->l.Perm (w::l.eraseIdx k)
 |[],_,_,h=>by simp at h|x::l,0,w,h=>by
  simp at h;subst h;simp
 |x::l,k+1,w,h=>by
  rw[List.getElem?_cons_succ]at h;rw[List.eraseIdx_cons_succ];exact((RC h).cons x).trans (List.Perm.swap w x _)
def Bg (next:Nat->Nat):∀(f k:Nat)(left:List α)(out:Array α),left.length=f->(pickOrder.go next f k left out).toList.Perm (out.toList++left):=by
 intro f
 induction f with
 |zero=>
  intro k left out h
  have:left=[]:=List.length_eq_zero_iff.mp h
  subst this;unfold pickOrder.go;simp
 |succ f i=>
  intro k left out h;have H:next k%left.length<left.length:=Nat.mod_lt _ (by omega)
  unfold pickOrder.go;rw[aa H];dsimp only;refine(i (k+1) _ _ (by rw[List.length_eraseIdx_of_lt H];omega)).trans ?_
  rw[Array.toList_push,aN];exact List.Perm.append_left _ (RC (aa H)).symm
def Eh (next:Nat->Nat)(xs:Array α):(pickOrder next xs).toList.Perm xs.toList:=by
 unfold pickOrder
 have:=Bg next xs.size 0 xs.toList #[] (by simp)
 simpa using this
namespace F
def Lv:entryFor table "set.__iter__"=some Builtin.«frozenset.__iter__»:=entryFor_alias (id' := "frozenset.__iter__") (by kernel_rfl) rfl (by decide +kernel) (by kernel_rfl)
def MJ:entryFor table "set_iterator.__iter__"=some Builtin.«dict_keyiterator.__iter__»:=entryFor_alias (id' := "dict_keyiterator.__iter__") (by kernel_rfl) rfl (by decide +kernel) (by kernel_rfl)
def Tv:Manifest.owners.lookup (String.ofList ['r','o','t','a','r','e','t','i','_','t','e','s'].reverse)=some Manifest.sig_set_iterator:=by kernel_rfl
def JC:Slot "set_iterator" "__next__" "set_iterator.__next__":=
 .of (owner := "set_iterator") (n := "__next__") (by rw[typeLookup_type,builtinLookup_eq_fast];kernel_rfl) (by decide +kernel) (by decide +kernel) (by decide +kernel)
  (by first|exact .inl (by decide +kernel)|exact .inr (by decide +kernel)) (by rw[isSubtype_type];kernel_rfl)
def To:entryFor table "set_iterator.__next__"=some Builtin.«set_iterator.__next__»:=entryFor_of_tree (by kernel_rfl)
def Tn (a:Value):argsOk "set_iterator.__next__" ⟨[a],[]⟩:=by
 unfold argsOk;rw[signature?_of (id := "set_iterator.__next__") (n:=['_','_','t','x','e','n','_','_']) (o:=['r','o','t','a','r','e','t','i','_','t','e','s']) (by kernel_rfl) Tv];kernel_rfl
def MH (a:Value):argsOk "set_iterator.__iter__" ⟨[a],[]⟩:=by
 unfold argsOk;rw[signature?_of (id := "set_iterator.__iter__") (n:=['_','_','r','e','t','i','_','_']) (o:=['r','o','t','a','r','e','t','i','_','t','e','s']) (by kernel_rfl) Tv];kernel_rfl
def Tp:Slot "set_iterator" "__iter__" "set_iterator.__iter__":=
 .of (owner := "set_iterator") (n := "__iter__") (by rw[typeLookup_type,builtinLookup_eq_fast];kernel_rfl) (by decide +kernel) (by decide +kernel) (by decide +kernel)
  (by first|exact .inl (by decide +kernel)|exact .inr (by decide +kernel)) (by rw[isSubtype_type];kernel_rfl)
end F
def Kl (n i:Nat):Nat:=match i with
 |0=>0|i+1=>(qe n).getD i 0+1
def Nt (n i:Nat):Bool:=decide ((qe n).length<i) || (SetTable.below (qe n).toArray (Kl n i)==i)
def E4:((List.range 256).all λn=>(List.range 9).all λi=>Nt n i)=true:=by decide +kernel
def Cj (hn:n<256)(H:i<=(qe n).length):SetTable.below (qe n).toArray (Kl n i)=i:=by
 have a:=J0 n;have h:=cF.mp (cF.mp E4 n (cC.mpr hn)) i (cC.mpr (by omega))
 unfold Nt at h;rw[aC (by omega),Bool.false_or,aK]at h
 exact h
def QW (h:Heap)(I S:Addr)(slot i n e:Nat):Prop:=∃o,h.get? I=some o/\o.cls=.type "set_iterator" /\ o.data=.fields #[.int slot 0,.int i 0,.ref S,.int n 0,.int e 0]
noncomputable def kh (w:World)(a:Addr)(E:Nat)(e:Array (Int×Value)):Array (Int×Value):=if w.params.followText "set-order" then pickOrder (w.params.setOrder a E) e else e
def YM (w:World)(a:Addr)(E:Nat)(e:Array (Int×Value)):(kh w a E e).toList.Perm e.toList:=by
 unfold kh
 split
 ·exact Eh _ _
 ·exact List.Perm.refl _
def wD (w:World)(n i:Nat):Nat:=if w.params.followText "set-order" then 0 else Kl n i
section
variable {prog:Program}{A:Around}{o:Obj}{es:Array (Int×Value)}{ep:Nat}
def XH {Q:Bool->Shared->Prop}(h:Q (w.params.followText "set-order") s):wpAny (model prog w) A setsByText Q E s:=by
 unfold setsByText;exact cy (wpAny_askSetting (cz h))
def M3 (H:s.heap.get? a=some o)(hex:o.ExactSet)(hd:o.data=.set es ep (jg (jO w) n))(he:jt es.toList (qe n))(hn:n<256)
  (c:Q (.ref s.heap.objs.size) { s with heap:=s.heap.push { cls:=.type "set_iterator",data:=.fields #[.int 0 0,.int 0 0,.ref a,.int es.size 0,.int ep 0] } }):
  wpAny (model prog w) A (pyIter (.ref a)) Q E s:=by
 have hT:s.TypeIs (.ref a) "set":=⟨o,H,hex.1⟩;have hlen:es.size=(qe n).length:=by rw[<- aS,he.length]
 have hf:(jg (jO w) n).fits es.size=true:=by rw[hlen];exact fits_of hn _
 refine wpAny_pyIter_slot hT slot_set_iter (wpAny_call_entry slot_set_iter hT F.Lv ?_ (PySem.F.args_set_iter_1 _));unfold Builtin.«frozenset.__iter__»;show wpAny _ _ (Builtin.Frozenset.sizeOf a >>= _) _ _ s;unfold Builtin.Frozenset.sizeOf;refine cy (cy (wpAny_setEntries_of H hd hf (cz ?_)));unfold setDrawn;refine cy (cy (wpAny_setState_of H hd hf ?_));dsimp only;refine cy (XH (cz ?_));rw[aj (λh=>by
  have b:(!w.params.followText "set-order" && (!(jg (jO w) n).plain&&decide (es.size > 1)))=true:=h;rw[X8]at b;simp at b)]
 refine cy (cz ?_);refine cy (wpAny_setEpoch_of H hd hf ?_);exact cy (wpAny_newObj_type (cz ⟨_,rfl,"set_iterator",_,⟨_,av _ rfl,rfl⟩,F.JC.lookup,c⟩))
def TZ {Q:Option (Value×Nat)->Shared->Prop}(c:s.heap.get? a=some o)(hd:o.data=.set es ep (jg (jO w) n))(he:jt es.toList (qe n))(hn:n<256)(q:i<=es.size)
  (h:Q (((kh w a ep es)[i]?).map λe=>(e.2,wD w n (i+1))) s):wpAny (model prog w) A (setNext a (wD w n i) i ep) Q E s:=by
 have hlen:es.size=(qe n).length:=by rw[<- aS,he.length]
 have hf:(jg (jO w) n).fits es.size=true:=by rw[hlen];exact fits_of hn _
 unfold setNext;refine cy (wpAny_setState_of c hd hf ?_);dsimp only;refine cy (XH ?_);unfold kh wD at h;cases t:w.params.followText "set-order" with
 |true=>
  rw[t]at h;simp only[↓reduceIte]at h ⊢;have p:¬((ep != ep)=true):=by simp
  rw[aj p];unfold setWalk;refine cy (cy (wpAny_setState_of c hd hf ?_));dsimp only;refine cy (XH ?_);rw[t];simp only[↓reduceIte];refine cy (wpAny_askSetting (cz (cz ?_)));unfold wD;rw[t];exact h
 |false=>
  rw[t]at h;simp only[a9,↓reduceIte]at h ⊢;rw[aj (λh=>by
   have f:(!(jg (jO w) n).plain&&decide (es.size > 1))=true:=h;rw[X8]at f;simp at f)]
  have d:(jg (jO w) n).led=true:=by rw[BS];unfold jO;rw[t];rfl
  refine cy ?_;show wpAny _ _ (if (!(jg (jO w) n).led&&!es.isEmpty)=true then unsupported "set:maker-not-led" else pure ()) _ _ _;rw[d];simp only[Bool.not_true,Bool.false_and,a9,↓reduceIte];refine cz ?_;have l:SetTable.below (jg (jO w) n).place (wD w n i)=i:=by
   rw[RO];unfold wD;rw[t];exact Cj hn (by omega)
  rw[l,RO];refine cz ?_
  by_cases b:i<es.size
  ·have v:(qe n)[i]? =some ((qe n)[i]'(by omega)):=aa (by omega)
   have j:(qe n).toArray[i]? =some ((qe n)[i]'(by omega)):=by rw[List.getElem?_toArray];exact v
   have H:es[i]? =some es[i]:=Array.getElem?_eq_getElem b;rw[H]at h;rw[H,j];dsimp only;have g:Kl n (i+1)=(qe n)[i]'(by omega)+1:=by
    show(qe n).getD i 0+1=_;rw[ae,v]
    rfl
   rw[g]at h;exact h
  ·have H:es[i]? =none:=Array.getElem?_eq_none (by omega)
   rw[H]at h;rw[H];exact h
def MK {I:Addr}{e:Int×Value}{Q:Option Value->Shared->Prop}(hit:QW s.heap I a (wD w n i) i es.size ep)(d:s.heap.get? a=some o)(hex:o.ExactSet)(hd:o.data=.set es ep (jg (jO w) n))(he:jt es.toList (qe n))(hn:n<256)(x:(kh w a ep es)[i]? =some e)
  (j:∀h',QW h' I a (wD w n (i+1)) (i+1) es.size ep->Heap.SameBut I s.heap h'->Q (some e.2) { s with heap:=h' }):
  wpAny (model prog w) A (pyNext (.ref I)) Q E s:=by
 obtain⟨c,H,f,h⟩:=id hit;have hT:s.TypeIs (.ref I) "set_iterator":=⟨c,H,f⟩;have hlen:es.size=(qe n).length:=by rw[<- aS,he.length]
 have hf:(jg (jO w) n).fits es.size=true:=by rw[hlen];exact fits_of hn _
 unfold pyNext;refine cy (wpAny_attempt (wpAny_callSpecial?_slot (name:=Str.ofString "__next__") hT F.JC
  (wpAny_call_entry F.JC hT F.To ?_ (F.Tn _))))
 unfold Builtin.«set_iterator.__next__»;show wpAny _ _ (fieldsOf (.ref I) >>= _) _ _ s;refine cy (wpAny_fieldsOf H h ?_);dsimp only;refine cy (wpAny_setEntries_of d hd hf ?_);rw[aj (by simp)]
 have g:i<es.size:=by
  have b:=(Array.getElem?_eq_some_iff.mp x).1;have l:=(YM w a ep es).length_eq;simp at l;omega
 simp only[aI];refine cy (TZ d hd he hn (bA g) ?_);rw[x];dsimp only[Option.map_some];refine cy (wpAny_setField H h (by simp) ?_)
 have b:(s.heap.update I (Obj.mapFields (·.setIfInBounds 0 (rawInt (wD w n (i+1)))))).get? I=some (Obj.mapFields (·.setIfInBounds 0 (rawInt (wD w n (i+1)))) c):=bb _ H (Obj.isFreed_of_fields (Obj.data_mapFields h _));refine cy (wpAny_setField b (Obj.data_mapFields h _) (by simp) ?_)
 refine cz ⟨e.2,rfl,cz (j _ ?_ ((Heap.SameBut.update ..).trans (Heap.SameBut.update ..)))⟩;refine⟨_,bb _ b (Obj.isFreed_of_fields (Obj.data_mapFields (Obj.data_mapFields h _) _)),(Obj.cls_mapFields ..).trans ((Obj.cls_mapFields ..).trans f),?_⟩;rw[Obj.data_mapFields (Obj.data_mapFields h _)];simp[rawInt]
def ML {I:Addr}{Q:Option Value->Shared->Prop}(d:A.handled=none)(hit:QW s.heap I a (wD w n es.size) es.size es.size ep)(c:s.heap.get? a=some o)(hex:o.ExactSet)(hd:o.data=.set es ep (jg (jO w) n))(he:jt es.toList (qe n))(hn:n<256)
  (f:∀h',Heap.ExtBut I s.heap h'->Q none { s with heap:=h' }):wpAny (model prog w) A (pyNext (.ref I)) Q E s:=by
 obtain⟨i,h,e,H⟩:=id hit;have hT:s.TypeIs (.ref I) "set_iterator":=⟨i,h,e⟩;have hlen:es.size=(qe n).length:=by rw[<- aS,he.length]
 have hf:(jg (jO w) n).fits es.size=true:=by rw[hlen];exact fits_of hn _
 unfold pyNext;refine cy (wpAny_attempt (wpAny_callSpecial?_slot (name:=Str.ofString "__next__") hT F.JC
  (wpAny_call_entry F.JC hT F.To ?_ (F.Tn _))))
 unfold Builtin.«set_iterator.__next__»;show wpAny _ _ (fieldsOf (.ref I) >>= _) _ _ s;refine cy (wpAny_fieldsOf h H ?_);dsimp only;refine cy (wpAny_setEntries_of c hd hf ?_);rw[aj (by simp)]
 simp only[aI];refine cy (TZ c hd he hn (ar _) ?_);have x:(kh w a ep es)[es.size]? =none:=Array.getElem?_eq_none (by
  have g:=(YM w a ep es).length_eq;simp at g;omega)
 rw[x];dsimp only[Option.map_none];refine cy (wpAny_setField h H (by simp) ?_)
 show wpAny _ _ (newExc (.type "StopIteration") [] >>= _) _ _ _;refine cy ?_;simp only[newExc,newTuple];refine cy (wpAny_newObj_type ?_ (by size_fits))
 refine cy (m:=firstArgMember _ _) (wpAny_of_eq (a:=Value.none) (by first|rfl|(simp only[firstArgMember];rfl)) ?_)
 refine wpAny_newObj_type ?_ (by size_fits)
 simp only[raiseNew];refine cy (wpAny_handled ?_)
 first|rw[show A.in1.handled=none from d]|rw[d]
 refine cy (cz (wpAny_throw ?_));refine cy (wpAny_isInstance (T := "StopIteration") (b:=true) ⟨_,av _ rfl,rfl⟩ isSubtype_stop ?_);exact cz (f _ (((Heap.SameBut.update ..).extBut.push _).push _))
end
def QW.typeIs {I S:Addr}{slot e:Nat}(h:QW s.heap I S slot i n e):s.TypeIs (.ref I) "set_iterator":=let ⟨o,H,c,_⟩:=h;⟨o,H,c⟩
section
variable {prog:Program}{A:Around}{o:Obj}{es:Array (Int×Value)}{ep:Nat}
def MN {I S:Addr}{slot m e:Nat}(hit:QW s.heap I S slot i m e)(h:Q (.ref I) s):wpAny (model prog w) A (pyIter (.ref I)) Q E s:=by
 refine wpAny_pyIter_slot hit.typeIs F.Tp (wpAny_call_entry F.Tp hit.typeIs F.MJ ?_ (F.MH _));show wpAny _ _ (ret (.ref I)) _ _ s;exact cz ⟨_,rfl,"set_iterator",_,hit.typeIs,F.JC.lookup,h⟩
def Walks.setP (q:A.handled=none)(I a:Addr)(g:a≠I)(hex:o.ExactSet)(hd:o.data=.set es ep (jg (jO w) n))(he:jt es.toList (qe n))(hn:n<256):
  Walks prog w A I [I,a] [I] es.size (λi v=>∃e,(kh w a ep es)[i]? =some e/\v=e.2) (λi h=>QW h I a (wD w n i) i es.size ep/\h.get? a=some o) where
 sub:=λb H=>by simp at H;simp[H]
 frame:=λ_ _ _ st p=>⟨let ⟨x,h1,r⟩:=st.1;⟨x,p I (by simp) x h1,r⟩,p a (by simp) o st.2⟩
 item:=λi s Q E t st f=>by
  have hsz:(kh w a ep es).size=es.size:=by have:=(YM w a ep es).length_eq;simpa using this
  have l:(kh w a ep es)[i]? =some ((kh w a ep es)[i]'(by omega)):=Array.getElem?_eq_getElem (by omega)
  refine MK st.1 st.2 hex hd he hn l λh' d c=>?_;refine f _ h' s.toks ⟨_,l,rfl⟩ ⟨d,?_⟩ λb o H e=>c.extBut b o (λh=>H (by simp[h])) e
  exact c.extBut a o g st.2
 done:=λs Q E st f=>ML q st.1 st.2 hex hd he hn λh' j=>f h' s.toks λb o H e=>j b o (λh=>H (by simp[h])) e
 self:=λ_ _ _ _ st f=>MN st.1 f
def Fv:typeLookup (.type "set") "__len__"=pure (some (.builtin "set.__len__")):=by rw[typeLookup_type,builtinLookup_eq_fast];kernel_rfl
def MY {Q:List Value->Shared->Prop}(hh:A.handled=none)(I:s.heap.get? a=some o)(hex:o.ExactSet)(hd:o.data=.set es ep (jg (jO w) n))(he:jt es.toList (qe n))(hn:n<256)
  (hQ:∀(h':Heap)(tk:Nat),(∀b o,b<s.heap.objs.size->s.heap.get? b=some o->h'.get? b=some o)->s.heap.objs.size<=h'.objs.size->Q ((kh w a ep es).toList.map (·.2)) { s with heap:=h',toks:=tk }):
  wpAny (model prog w) A (collect (.ref a)) Q E s:=by
 have hT0:s.TypeIs (.ref a) "set":=⟨o,I,hex.1⟩;have t:a<s.heap.objs.size:=aG I;unfold collect;refine cy (wpAny_runValue (codeAny_builtin PySem.F.entry_proto_collect ?_));rw[Around.under_plainId PySem.F.plain_proto_collect _];show wpAny _ A.in1 (newList [] >>= λl=>again (.builtin "list.__iadd__" ⟨[l,.ref a],[]⟩)) _ _ s;refine cy (wpAny_newObj_type ?_);refine cz ⟨plainId_quiet PySem.F.plain_list_iadd _,codeAny_builtin PySem.F.entry_list_iadd ?_⟩;rw[Around.under_plainId PySem.F.plain_list_iadd _];show wpAny _ A.in1 (Builtin.List.listExtendWith (.ref s.heap.objs.size) (.ref a) (.ref s.heap.objs.size)) _ _ _;have f:(s.heap.push { cls:=.type "list",data:=.seq ([]:bY).toArray }).get? a=some o:=af _ I;have hT:Shared.TypeIs { s with heap:=s.heap.push { cls:=.type "list",data:=.seq ([]:bY).toArray } } (.ref a) "set":=⟨o,f,hex.1⟩
 unfold Builtin.List.listExtendWith;refine cy (wpAny_typeOf hT ?_);have C:Builtin.List.listSameRef (.ref s.heap.objs.size) (.ref a)=false:=by simp[Builtin.List.listSameRef];exact bq t
 have X:(Value.type "set" == Value.type "list")=false:=by decide
 have U:(Value.type "set" == Value.type "tuple")=false:=by decide
 simp only[C,X,U,Bool.or_false,a9,if_false];refine cy (M3 f hex hd he hn ?_);refine cy (wpAny_holding ?_);unfold Builtin.List.listLengthHint;generalize B:s.heap.push { cls:=.type "list",data:=.seq ([]:bY).toArray }=H;have p:H.objs.size=s.heap.objs.size+1:=by rw[<- B,bf]
 have r:H.get? a=some o:=by rw[<- B];exact f
 have P:H.get? s.heap.objs.size=some { cls:=.type "list",data:=.seq ([]:bY).toArray }:=by rw[<- B];exact av _ rfl
 generalize i:({ cls:=.type "set_iterator",data:=.fields #[.int 0 0,.int 0 0,.ref a,.int es.size 0,.int ep 0] }:Obj)=io;have g:Shared.TypeIs { s with heap:=H.push io } (.ref a) "set":=⟨o,af _ r,hex.1⟩
 have L:(H.push io).get? H.objs.size=some io:=av _ (by rw[<- i];rfl)
 refine cy (wpAny_specialOf g Fv ?_)
 wp_delta
 refine cy (wpAny_isInstance (b:=true) g (by rw[isSubtype_type];kernel_rfl) ?_)
 show wpAny _ A.in1 (typeOf (Value.ref a) >>= _) _ _ _;refine cy (wpAny_typeOf g ?_);refine cz ?_;show wpAny _ A.in1 (rule "list.extend.makes-room" >>= λ_=>Builtin.List.listTouch (.ref s.heap.objs.size) >>= λ_=>
  again (.builtin "list.extend.loop" ⟨[.ref s.heap.objs.size,.ref H.objs.size,.ref s.heap.objs.size],[]⟩)) _ _ _
 refine cy (wpAny_rule ?_);have v:(H.push io).get? s.heap.objs.size=some { cls:=.type "list",data:=.seq ([]:bY).toArray }:=af _ P;refine cy ?_;show wpAny _ A.in1 (updateSeq s.heap.objs.size (·.push .none) >>= λ_=>updateSeq s.heap.objs.size (·.pop)) _ _ _;refine cy (wpAny_updateSeq v rfl ?_);have u:=bb (Obj.mapSeq (·.push Value.none)) v rfl;refine wpAny_updateSeq u rfl ?_;have N:=bb (Obj.mapSeq (·.pop)) u rfl;have d:∀b o,b≠s.heap.objs.size->(H.push io).get? b=some o->(((H.push io).update s.heap.objs.size (Obj.mapSeq (·.push Value.none))).update s.heap.objs.size (Obj.mapSeq (·.pop))).get? b=some o:=
  λb o q e=>(aQ _ _ (Ne.symm q)).trans ((aQ _ _ (Ne.symm q)).trans e)
 have J:a≠H.objs.size:=by rw[p];exact aM (bc t)
 have y:H.objs.size≠s.heap.objs.size:=by rw[p];exact Nat.succ_ne_self _
 have S:a≠s.heap.objs.size:=aM t;have W:=(Walks.setP (prog:=prog) (w:=w) (A:=A.in1) (by simp[hh]) H.objs.size a J hex hd he hn).toS
 have M:s.heap.objs.size∉[H.objs.size,a]:=λhm=>by
  rcases cA.mp hm with z|hm
  ·exact y z.symm
  ·exact S (cE.mp hm).symm
 have hlen:es.size=(qe n).length:=by rw[<- aS,he.length]
 have h8:=J0 n;refine cz ⟨plainId_quiet PySem.F.plain_extend_loop _,codeAny_extend_loopS W (by rw[sizeLine_eq];omega) _ M _ es.size 0 _ _ _ rfl (bK _) ⟨?_,d a o S (af _ r)⟩ N (ItemsOf.nil _) λs' c c' hm x h=>?_⟩
 ·refine⟨io,d _ _ y L,by rw[<- i],?_⟩
  rw[<- i]
  have:wD w n 0=0:=by unfold wD Kl;split<;>rfl
  rw[this]
  rfl
 show wpAny _ A (load s.heap.objs.size >>= _) _ _ s';refine cy (wpAny_load x ?_);have Z:c.toList=(kh w a ep es).toList.map (·.2):=by
  have hsz:(kh w a ep es).size=es.size:=by have:=(YM w a ep es).length_eq;simpa using this
  apply ext_getElem?
  intro j
  by_cases Y:j<es.size
  ·have C:c[j]? =some (c[j]'(by rw[h.1];exact Y)):=Array.getElem?_eq_getElem (by rw[h.1];exact Y)
   obtain⟨e,X,U⟩:=h.2 j _ C;rw[bM,C,ao,bM,X,U]
   rfl
  ·rw[aE (by rw[aS,h.1];omega),aE (by rw[ai,aS,hsz];omega)]
 show wpAny _ A (pure c.toList) _ _ s';rw[Z];obtain⟨h',g',d',T,D⟩:=s';have e1:g'=s.gens:=hm.gens;have e2:d'=s.drawn:=hm.drawn;have e3:D=s.os:=hm.os;subst e1 e2 e3;refine cz (hQ h' T (λb ob q e=>?_) ?_)
 ·refine hm.heap b ob (λK=>?_) (d b ob (aM q) (af _ (by rw[<- B];exact af _ e)))
  rcases cA.mp K with z|z
  ·exact aM q z
  ·exact aM (bc q) ((cE.mp z).trans p)
 ·exact bA (aG (show h'.get? s.heap.objs.size=_ from x))
end
open PySem PySem.Spec PyProof.Rows L2
theorem Pc:∀{a b:bX},a.Perm b->a.Pairwise (·<=·)->b.Pairwise (·<=·)->a=b
 |[],b,p,_,_=>by rw[List.nil_perm.mp p]|x::a,[],p,_,_=>absurd p.length_eq (by simp)|x::a,y::b,p,H,h=>by
  have d:x∈y::b:=p.mem_iff.mp (ax ..);have c:y∈x::a:=p.mem_iff.mpr (ax ..);have e:x=y:=by
   rcases cA.mp d with e|e
   ·exact e
   ·rcases cA.mp c with E|E
    ·exact E.symm
    ·have g:=(List.pairwise_cons.mp h).1 x e
     have f:=(List.pairwise_cons.mp H).1 y E;omega
  subst e;rw[Pc (List.Perm.cons_inv p) (List.pairwise_cons.mp H).2 (List.pairwise_cons.mp h).2]
def CJ (n v i:Nat):(yM n v).testBit i=(n.testBit i || decide (i=v)):=by
 unfold yM
 by_cases h:n.testBit v=true
 ·rw[ag h]
  by_cases e:i=v
  ·subst e;simp[h]
  ·simp[e]
 ·rw[aj h]
  unfold jy;rw[Nat.testBit_or,Nat.one_shiftLeft,Nat.testBit_two_pow]
  congr 1
  by_cases e:v=i
  ·subst e;simp
  ·simp[e,Ne.symm e]
theorem P2 (i:Nat):∀(vs:b9)(n:Nat),(vs.foldl yM n).testBit i=(n.testBit i || decide (i∈vs))
 |[],n=>by simp|v::vs,n=>by
  rw[foldl_cons,P2 i vs,CJ]
  by_cases e:i=v
  ·simp[e]
  ·simp[e]
def Eu (vs:b9):qe (vs.foldl yM 0)=(List.range 8).filter λi=>decide (i∈vs):=by
 unfold qe
 congr 1
 funext i
 rw[P2];simp
def Eg (n:Nat):((qe n).map λ(i:Nat)=>(i:Int)).Pairwise (·<=·):=by
 rw[pairwise_map];unfold qe;refine List.Pairwise.imp ?_ (List.Pairwise.filter _ List.pairwise_lt_range);intro a b h;omega
def jt.snd {vs:b9}(h:jt es vs):∀e∈es,∃tk,e.2=.int e.1 tk:=by
 induction h with
 |nil=>intro e he;cases he|cons v tk h i=>
  intro e he;rcases cA.mp he with rfl|he
  ·exact⟨tk,rfl⟩
  ·exact i e he
theorem Se:∀{l:List (Int×Value)},(∀e∈l,∃tk,e.2=.int e.1 tk)->IntsAre (l.map (·.2)) (l.map (·.1))
 |[],_=>.nil|e::l,h=>by
  obtain⟨tk,he⟩:=h e (ax ..);rw[aL,aL,he];exact .cons _ tk (Se λx H=>h x (au _ H))
section
variable {prog:Program}{A:Around}{o:Obj}{es:Array (Int×Value)}{ep:Nat}
def Hl (u:A.handled=none)(S:yO s.heap a (jO w) n)
  (h:∀(h':Heap)(tk:Nat)(l:Addr)(I:bY)(c:Nat),s.heap.objs.size<=l->h'.get? l=some { cls:=.type "list",data:=.seq I.toArray c }->IntsAre I ((qe n).map λ(i:Nat)=>(i:Int))->
   (∀b o,s.heap.get? b=some o->h'.get? b=some o)->Q (.ref l) { s with heap:=h',toks:=tk }):
  wpAny (model prog w) A (call (.builtin "sorted") [.ref a]) Q E s:=by
 obtain⟨o,f,p,t,hex,hd,he,hn⟩:=S;refine Calls.call_function_entry kind_sorted plain_sorted entry_sorted (args_sorted1 _) ?_;unfold Builtin.«sorted»;refine cy (m:=checkCount "sorted" 1 1 _) (cz ?_);refine cy (MY (by simp[u]) t hex hd he hn λd tk kp hle=>?_)
 have g:=YM w a p f;have q:IntsAre ((kh w a p f).toList.map (·.2)) ((kh w a p f).toList.map (·.1)):=Se λe hm=>he.snd e (g.mem_iff.mp hm);have H:((kh w a p f).toList.map (·.1)).Perm ((qe n).map λ(i:Nat)=>(i:Int)):=by
  rw[<- he.map1];exact g.map _
 have hlen:((kh w a p f).toList.map (·.2)).length<=8:=by
  rw[ai,g.length_eq,he.length];exact J0 n
 generalize (kh w a p f).toList.map (·.2)=vs at q hlen;generalize (kh w a p f).toList.map (·.1)=ns at q H;refine cy (wpAny_newList ?_);have L:(d.push (seqObj "list" vs.toArray 0)).get? d.objs.size=some (seqObj "list" vs.toArray 0):=av _ rfl;show wpAny _ _ _ _ _ { s with heap:=d.push (seqObj "list" vs.toArray 0),toks:=tk }
 refine cy (wpAny_holding (wpAny_call_entry slot_list_sort ⟨_,L,rfl⟩ entry_list_sort (list_sort_tree L q (by omega) λout N a1 a2 z=>⟨_,rfl,?_⟩) (args_list_sort _)))
 have j:N=(qe n).map λ(i:Nat)=>(i:Int):=Pc (a2.trans H) z (Eg n);subst j;refine cz ⟨_,rfl,?_⟩;have y:=get?_update_seq L (λ_=>(#[]:Array Value));have x:=af (seqObj "list" #[] 0) (af (seqObj "tuple" vs.toArray 0) y);obtain⟨c,v⟩:∃c,(sortedHeap (d.push (seqObj "list" vs.toArray 0)) d.objs.size vs out).get? d.objs.size=some (seqObj "list" out c):=⟨_,get?_update_seq x (λ_=>out)⟩;refine h _ tk d.objs.size out.toList c hle ?_ a1 λb ob e=>?_
 ·rw[Array.toArray_toList]
  exact v
 ·have r:b<s.heap.objs.size:=aG e
  have k1:=kp b ob r e;have nb:d.objs.size≠b:=bq (aD r hle);unfold sortedHeap;refine(aQ _ _ nb).trans ?_;refine af _ (af _ ?_);exact(aQ _ _ nb).trans (af _ k1)
end
section
variable {m:Ev}
def fJ (K:Frag)(w:World):List V->Hp->VK->Prop:=λxs H Q=>∃(p:Addr) (vs:b9),xs=[.ref p]/\qW K H p (vs.map λ(v:Nat)=>V.int (v:Int))/\(∀v∈vs,v<8)/\∀l,H l=none->Q (.ref l) (upd H l (.ext λh=>yO h l (jO w) (vs.foldl yM 0)))
def Ew (l:X.calm=true):j3 X (.type "set") (fJ X.K X.w):=by
 intro pins s σ H xs us Q I r h;obtain⟨p,vs,rfl,g,n,q⟩:=h;obtain⟨u,rfl,d⟩:=vals1 r;cases d;obtain⟨i,c,⟨o,k,x,t,C,E⟩,_⟩:=I.list g;have f:Vals ((vs.map λ(v:Nat)=>(v:Int)).map V.int) i:=by rw[aO];exact c
 refine LJ (I.ok.hd l) ⟨o,x,t,k,E⟩ (intsAre_of f) n λh' tk S kp=>?_;refine⟨.ref s.heap.objs.size,_,I.laid (t':=tk) (o:=.ext λh=>yO h s.heap.objs.size (jO X.w) (vs.foldl yM 0)) (λb o e=>kp b o (aG e) e) (ar _) ⟨S,?_,λz y a b=>a.keep b⟩,rfl,q _ (I.hok.fresh (ar _))⟩;obtain⟨o,A,B,j,_⟩:=S;exact⟨o,j⟩
theorem YN:∀{ns:bX}{i:bY},IntsAre i ns->Vals (ns.map V.int) i
 |_,_,.nil=>.nil|_,_,.cons n t h=>.cons ⟨t,rfl⟩ (YN h)
def IE (j:X.calm=true):j3 X (.builtin "sorted") (λxs H Q=>∃(p:Addr) (n:Nat),xs=[.ref p]/\H p=some (.ext λh=>yO h p (jO X.w) n)/\∀l,H l=none->Q (.ref l) (upd H l (.lst ((qe n).map λ(v:Nat)=>V.int (v:Int))))):=by
 intro pins s σ H xs us Q I r h;obtain⟨p,n,rfl,e,q⟩:=h;obtain⟨u,rfl,d⟩:=vals1 r;cases d;have S:yO s.heap p (jO X.w) n:=(show jd X.prog X.w H s.heap p (.ext λh=>yO h p (jO X.w) n) from I.hok p _ e).1
 refine Hl (I.ok.hd j) S λh' tk l i c b g f kp=>?_;have a:=YN f;rw[aO]at a;refine⟨.ref l,_,I.laid (t':=tk) (o:=.lst ((qe n).map λ(v:Nat)=>V.int (v:Int))) kp b ⟨?_,i,c,a,g⟩,rfl,q _ (I.hok.fresh b)⟩;rw[ai,sizeLine_eq]
 have:=J0 n
 omega
noncomputable def Qw:List Int->Option (b9)
 |[]=>some []|i::is=>if 0<=i/\i<8 then(Qw is).map (i.toNat::·) else none
theorem RW:∀{is:bX}{vs:b9},Qw is=some vs->is=vs.map (λ(v:Nat)=>(v:Int))/\∀v∈vs,v<8
 |[],_,e=>by cases e;exact⟨rfl,λv H=>by cases H⟩|i::is,vs,e=>by
  unfold Qw at e
  by_cases h:0<=i/\i<8
  ·rw[ag h]at e
   cases E:Qw is with
   |none=>rw[E]at e;cases e|some us=>
    rw[E]at e;cases e;obtain⟨b,a⟩:=RW E;refine⟨?_,λv H=>?_⟩
    ·rw[aL,<- b,bI h.1]
    ·rcases cA.mp H with rfl|H
     ·omega
     ·exact a v H
  ·rw[aj h]at e;cases e
def Vh:W->Hx->R W:=λw A=>match w with
 |.ref n=>match A[n]? with
  |some (.lst ws)=>match intsOf ws with
   |some is=>match Qw is with
    |some vs=>.ok (.ref A.length) (A++[.lst (((List.range 8).filter λi=>decide (i∈vs)).map λ(i:Nat)=>W.int (i:Int))])|none=>.bad
   |none=>.bad
  |_=>.bad
 |_=>.bad
def WL (m:Ev):Ev:=λρ A=>(m ρ A).bind λw A1=>Vh w A1
end
def Fy (a b:Value):argsOk "sum" ⟨[a,b],[]⟩:=by unfold argsOk;kernel_rfl
def sub_list_str:isSubtype (.type "list") (.type "str")=pure false:=by rw[isSubtype_type];kernel_rfl
def sub_list_bytes:isSubtype (.type "list") (.type "bytes")=pure false:=by rw[isSubtype_type];kernel_rfl
def sub_list_bytearray:isSubtype (.type "list") (.type "bytearray")=pure false:=by rw[isSubtype_type];kernel_rfl
noncomputable abbrev wq (xs:Array Value)(c:Nat):Obj:={ cls:=.type "list",dict:=none,data:=.seq xs c,slots:=#[] }
section
variable {prog:Program}{A:Around}{R:Result->Shared->Prop}{I:Addr}{wr:bZ}{G:Array GenState->Array GenState->Prop}{P:Nat->Value->Prop}{St:Nat->Shared->Prop}
def FQ (W:WalksS prog w A.in1 I fp wr G n P St)(S B:Addr)(C:S∉fp)(hBS:B<=S)(ad:Nat->Addr)(a:Nat->List Value)(r:∀i v,P i v->v=.ref (ad i))(p:∀i,i<n->ad i≠S/\ad i∉wr)(hwS:∀b∈wr,b<S):
  ∀(k i:Nat)(s:Shared)(T:Addr)(c Q:Nat)(acc:bY),n-i=k->i<=n->St i s->s.heap.get? S=some (wq #[.ref T] c)->T≠S->T∉wr->s.heap.get? T=some (wq acc.toArray Q)->
   (∀j,i<=j->j<n->∃cj,s.heap.get? (ad j)=some (wq (a j).toArray cj))->(acc++(((List.range' i k).map a).flatten)).length<=sizeLine->
   (∀s' U c',Moved (S::wr) G s s'->s'.heap.get? U=some (wq (acc++(((List.range' i k).map a).flatten)).toArray c')->((k=0/\U=T)∨B<=U)->R (.ok (.ret (.ref U))) s')->
   codeAny (model prog w) A (.builtin "sum.loop" ⟨[.ref I,.ref S,rawInt 2,rawInt 0],[]⟩) R s:=by
 have hSw:S∉wr:=λh=>C (W.sub _ h);have d:∀b∈wr,b∈S::wr:=λb f=>au _ f;intro k
 induction k with
 |zero=>
  intro i s T c Q acc hk hi t L hTS q hT hl K M;have hin:i=n:=by omega
  subst hin;refine codeAny_builtin PySem.F.entry_sum_loop ?_;rw[Around.under_plainId plain_sum_loop _];show wpAny _ A.in1 (seqItems? (.ref S) >>= _) _ _ s;refine cy (wpAny_seqItems L rfl ?_);show wpAny _ A.in1 (tryCatch (pyNext (.ref I)) _ >>= _) _ _ s;refine cy (wpAny_tryCatch (W.done s _ _ t λs' hm=>?_));refine cz (M s' T Q (hm.mono d) ?_ (.inl ⟨rfl,rfl⟩))
  have:=hm.heap T _ q hT
  simpa using this
 |succ k ih=>
  intro i s T c Q acc hk hi t L hTS q hT hl K M;have H:i<n:=by omega
  refine codeAny_builtin PySem.F.entry_sum_loop ?_;rw[Around.under_plainId plain_sum_loop _];show wpAny _ A.in1 (seqItems? (.ref S) >>= _) _ _ s;refine cy (wpAny_seqItems L rfl ?_);show wpAny _ A.in1 (tryCatch (pyNext (.ref I)) _ >>= _) _ _ s;refine cy (wpAny_tryCatch (W.item i s _ _ H t λv s' hP u hm=>?_));have hv:=r i v hP;subst hv;have J:=hm.heap S _ hSw L;have hT':=hm.heap T _ q hT;obtain⟨ci,hli⟩:=hl i (ar _) H;have y:=hm.heap (ad i) _ (p i H).2 hli;rw[bT,aL,a6,<- aN]at K M;have Z:(acc++a i).length<=sizeLine:=by rw[ay]at K;omega
  show wpAny _ A.in1 ((holding [Value.ref (ad i)] (binaryOp .Add (.ref T) (.ref (ad i)))).attempt >>= _) _ _ _;refine cy (wpAny_attempt (wpAny_holding (PySem.P.add_list hT' y ?_ (by rw[aF,aF,<- ay];exact Z))))
  have ea:acc.toArray++(a i).toArray=(acc++a i).toArray:=by simp
  rw[ea];have l:S<s'.heap.objs.size:=aG J;have E:=af (wq (acc++a i).toArray 0) J;have hN1:(s'.heap.push (wq (acc++a i).toArray 0)).get? s'.heap.objs.size=some (wq (acc++a i).toArray 0):=av _ rfl;show wpAny _ A.in1 (updateSeq S (λ_=>#[.ref s'.heap.objs.size]) >>= _) _ _ _;refine cy (wpAny_updateSeq E rfl ?_);have D:=bb (Obj.mapSeq λ_=>#[Value.ref s'.heap.objs.size]) E rfl;refine cy (wpAny_letGo ?_);have N:s'.heap.objs.size≠S:=bq l;have g:∀b o,b≠S->s'.heap.get? b=some o->(((s'.heap.push (wq (acc++a i).toArray 0)).update S (Obj.mapSeq λ_=>#[Value.ref s'.heap.objs.size])).update S (Obj.mapSeq λ_=>#[Value.ref s'.heap.objs.size])).get? b=some o:=
   λb o f e=>(aQ _ _ (Ne.symm f)).trans ((aQ _ _ (Ne.symm f)).trans (af _ e))
  have Y:s'.heap.objs.size∉wr:=λhm2=>aW _ (lt_trans (hwS _ hm2) l);refine cy (wpAny_updateSeq D rfl (cz ⟨plainId_quiet plain_sum_loop _,ih (i+1) _ s'.heap.objs.size _ 0 (acc++a i) (by omega) H (W.frame _ s' _ _ u (by first|exact ar _|exact le_succ _|omega) λb f o e=>g b o (λh=>C (h ▸ f)) e) (bb _ D rfl) N Y ?_ ?_ K λX T'' c'' x z hor=>?_⟩))
  ·exact(aQ _ _ (Ne.symm N)).trans ((aQ _ _ (Ne.symm N)).trans hN1)
  ·intro j h1 h2
   obtain⟨cj,hj⟩:=hl j (by omega) h2
   exact⟨cj,g _ _ (p j h2).1 (hm.heap _ _ (p j h2).2 hj)⟩
  ·refine M X T'' c'' (Moved.trans W.gtrans ((hm.mono d).then_heap (by first|exact ar _|exact le_succ _|omega) λb o f e=>g b o (λh=>f (by rw[h];exact ax)) e) x) z (.inr ?_)
   rcases hor with ⟨_,rfl⟩|h
   ·exact bA (Nat.lt_of_le_of_lt hBS l)
   ·exact h
def EG {p q:Addr}{P:Nat}{a:bZ}{itss:List (bY)}(hh:A.handled=none)(B:s.heap.IsList p (a.map Value.ref).toArray)(U:s.heap.get? q=some (wq #[] P))
  (hlen:a.length=itss.length)(X:∀i,i<a.length->∃c,s.heap.get? (a.getD i 0)=some (wq (itss.getD i []).toArray c))(D:a≠[])(Z:itss.flatten.length<=sizeLine)
  (h:∀(h':Heap)(tk:Nat)(l:Addr)(c:Nat),s.heap.objs.size<=l->h'.get? l=some (wq itss.flatten.toArray c)->(∀b o,s.heap.get? b=some o->h'.get? b=some o)->Q (.ref l) { s with heap:=h',toks:=tk }):
  wpAny (model prog w) A (call (.builtin "sum") [.ref p,.ref q]) Q E s:=by
 refine call_function_tree PySem.F.kind_sum PySem.F.plain_sum PySem.F.entry_sum (Fy _ _) ?_;unfold Builtin.«sum»;simp only[aV,bF];rw[aj (by decide)]
 refine cy (wpAny_of_eq (show Builtin.Builtins.bindParams "sum" ["start"] 0 ⟨[.ref q],[]⟩=pure [some (.ref q)] from rfl) ?_)
 refine cy (wpAny_pyIter_list B ?_);refine cy (cz ?_);generalize d:({ cls:=.type "list_iterator",data:=.fields #[.ref p,.int 0 0] }:Obj)=io;have r:(s.heap.push io).get? q=some (wq #[] P):=af _ U;have hT:Shared.TypeIs { s with heap:=s.heap.push io } (.ref q) "list":=⟨_,r,rfl⟩
 simp only[forIn_cons,forIn_nil];refine cy (cy (cy (wpAny_isInstance (b:=false) hT sub_list_str ?_)));simp only[a9,if_false];refine cz (cy (cy (wpAny_isInstance (b:=false) hT sub_list_bytes ?_)));simp only[a9,if_false];refine cz (cy (cy (wpAny_isInstance (b:=false) hT sub_list_bytearray ?_)));simp only[a9,if_false];refine cz (cz ?_);refine cy (wpAny_newObj_type ?_);have sz:(s.heap.push io).objs.size=s.heap.objs.size+1:=bf ..;have n:p<s.heap.objs.size:=by obtain⟨o,e,_⟩:=B;exact aG e
 have g:q<s.heap.objs.size:=aG U;have ltI:s.heap.objs.size<(s.heap.push io).objs.size:=by rw[sz];exact bz _
 have L:∀b,b<s.heap.objs.size->b<(s.heap.push io).objs.size:=λb J=>lt_trans J ltI;have W:=(Walks.list (prog:=prog) (w:=w) (A:=A.in1) (by simp[hh]) s.heap.objs.size p (aM n) (a.map Value.ref).toArray).toS
 have N:(a.map Value.ref).toArray.size=a.length:=by simp
 rw[N]at W;have K:(s.heap.push io).objs.size∉[s.heap.objs.size,p]:=λhm=>by
  rcases cA.mp hm with z|hm
  ·exact bq ltI z
  ·exact bq (L p n) (cE.mp hm)
 have t:∀i,i<a.length->a.getD i 0<s.heap.objs.size:=λi f=>by obtain⟨c,e⟩:=X i f;exact aG e
 have M:(s.heap.push io).get? s.heap.objs.size=some io:=av _ (by rw[<- d];rfl)
 have H:((List.range' 0 a.length).map λj=>itss.getD j []).flatten=itss.flatten:=by
  congr 1
  rw[hlen]
  apply bx
  ·simp
  ·intro i h1 h2
   simp[ae,aa h2]
 refine cz ⟨plainId_quiet plain_sum_loop _,FQ W (s.heap.push io).objs.size s.heap.objs.size K (bA ltI) (λi=>a.getD i 0) (λi=>itss.getD i []) (λi v e=>?_) (λi f=>⟨aM (L _ (t i f)),λhm=>?_⟩) (λb J=>?_)
  a.length 0 _ q 0 P [] (by omega) (bK _) ⟨⟨io,af _ M,by rw[<- d],by rw[<- d];rfl⟩,(B.push _).push _⟩ (av _ rfl) (aM (L q g)) (λhm=>?_) (af _ r) (λj _ hj=>?_) ?_ λs' Y c' hm u C=>?_⟩
 ·have f:i<a.length:=by
   have:=(Array.getElem?_eq_some_iff.mp e).1
   simpa using this
  have x:(a.map Value.ref)[i]? =some v:=by simpa using e
  rw[ao,aa f]at x;rw[ae,aa f];exact(aA x).symm
 ·exact aM (t i f) (cE.mp hm)
 ·rw[cE.mp J];exact ltI
 ·exact aM g (cE.mp hm)
 ·obtain⟨c,e⟩:=X j hj
  exact⟨c,af _ (af _ e)⟩
 ·rw[bp,H];exact Z
 ·rw[bp,H]at u
  have hB:s.heap.objs.size<=Y:=by
   rcases C with ⟨h0,_⟩|h0
   ·exact absurd (List.length_eq_zero_iff.mp h0) D
   ·exact h0
  obtain⟨h',g',d',T,y⟩:=s';have e1:g'=s.gens:=hm.gens;have x:d'=s.drawn:=hm.drawn;have e3:y=s.os:=hm.os;subst e1 x e3;refine h h' T Y c' hB u λb o e=>hm.heap b o (λI=>?_) (af _ (af _ e));have S:b<s.heap.objs.size:=aG e;rcases cA.mp I with z|z
  ·exact aM (L b S) z
  ·exact aM S (cE.mp z)
end
section
variable {K:Frag}
def NH (K:Frag):List V->Hp->VK->Prop:=λxs H Q=>∃(p q:Addr) (ls:List (Addr×List V)),xs=[.ref p,.ref q]/\H p=some (.lst (ls.map λl=>V.ref l.1))/\H q=some (.lst [])/\(∀l∈ls,H l.1=some (.lst l.2))/\ls≠[]/\(ls.map (·.2)).flatten.length<=qa/\
 ∀l,H l=none->Q (.ref l) (upd H l (.lst (ls.map (·.2)).flatten))
theorem R5:∀{ls:List (Addr×List V)}{us:bY},Vals (ls.map λl=>V.ref l.1) us->us=(ls.map (·.1)).map Value.ref
 |[],_,h=>by cases h;rfl|l::ls,_,h=>by
  cases h with
  |cons r t=>cases r;rw[R5 t];rfl
def Ey (Z:X.calm=true):j3 X (.builtin "sum") (NH X.K):=by
 intro pins s σ H xs us Q I r h;obtain⟨p,q,ls,rfl,T,S,U,t,A,k⟩:=h;obtain⟨u,v,rfl,C,B⟩:=Vals.two r;cases C;cases B;obtain⟨_,M,np,E,_,ep⟩:=I.lstM T;obtain⟨_,j,nq,D,lq,eq⟩:=I.lstM S;have b:j=[]:=by cases D;rfl
 subst b;have d:=R5 E;subst d;have hex:∀L:List (Addr×List V),(∀l∈L,H l.1=some (.lst l.2))->∃itss:List (bY),itss.length=L.length/\(∀i,i<L.length->∃c,s.heap.get? ((L.map (·.1)).getD i 0)=some (wq (itss.getD i []).toArray c))/\Vals (L.map (·.2)).flatten itss.flatten:=by
  intro L
  induction L with
  |nil=>intro _;exact⟨[],rfl,λi f=>absurd f (not_lt_zero _),.nil⟩|cons l L N=>
   intro hm;obtain⟨itss,z,y,g⟩:=N λx P=>hm x (au _ P);obtain⟨_,it,n,J,_,e1⟩:=I.lstM (hm l (ax ..));refine⟨it::itss,by simp[z],λi f=>?_,?_⟩
   ·cases i with
    |zero=>exact⟨n,e1⟩|succ i=>exact y i (by simpa using f)
   ·rw[aL,a6,a6]
    exact J.append g
 obtain⟨itss,z,y,g⟩:=hex ls U;have w:itss.flatten.length=(ls.map (·.2)).flatten.length:=g.length.symm;refine EG (I.ok.hd Z) (itss:=itss) ⟨_,ep,rfl,np,rfl⟩ eq (by simp[z]) (λi f=>y i (by simpa using f)) (λe=>t (List.map_eq_nil_iff.mp e)) (by rw[w];exact ZI A) λh' tk l c a Y kp=>?_
 exact⟨.ref l,_,I.laid (t':=tk) (o:=.lst (ls.map (·.2)).flatten) kp a ⟨ZI A,itss.flatten,c,g,Y⟩,rfl,k _ (I.hok.fresh a)⟩
noncomputable def gh (A:Hx):List W->Option (List (List W))
 |[]=>some []|.ref k::us=>match A[k]? with
  |some (.lst ws)=>(gh A us).map (ws::·)|_=>none
 |_::_=>none
def ZR:W->W->Hx->R W:=λx y A=>match x,y with
 |.ref n,.ref k=>match A[n]?,A[k]? with
  |some (.lst us),some (.lst [])=>match gh A us with
   |some w=>if us≠[]/\w.flatten.length<=qa then .ok (.ref A.length) (A++[.lst w.flatten]) else .bad|none=>.bad
  |_,_=>.bad
 |_,_=>.bad
def B8:∀x y A,qR (ZR x y A):=λx y A=>by
 unfold ZR
 split
 ·split
  ·split
   ·exact gF jQ qP
   ·exact qP
  ·exact qP
 ·exact qP
theorem zy.app:∀{ws us:List W}{xs ys:List V},zy K φ H ws xs->zy K φ H us ys->zy K φ H (ws++us) (xs++ys)
 |[],_,_,_,h,a=>by cases h;exact a|w::ws,_,_,_,⟨v,r,e,h,t⟩,a=>by subst e;exact⟨v,_,rfl,h,zy.app t a⟩
theorem Rc (S:zI K φ A H):∀{us:List W}{w:List (List W)}{vs:List V},gh A us=some w->zy K φ H us vs->∃ls:List (Addr×List V),vs=ls.map (λl=>V.ref l.1)/\(∀l∈ls,H l.1=some (.lst l.2))/\zy K φ H w.flatten (ls.map (·.2)).flatten/\ls.length=us.length
 |[],_,_,e,h=>by cases e;cases h;exact⟨[],rfl,λl a=>(by cases a),rfl,rfl⟩|u::us,w,_,e,⟨v,r,n,h,t⟩=>by
  subst n;cases u with
  |ref k=>
   unfold gh at e;cases E:A[k]? with
   |none=>rw[E]at e;cases e|some o=>cases o with
    |lst ws=>
     rw[E]at e;dsimp only at e;cases b:gh A us with
     |none=>rw[b]at e;cases e|some c=>
      rw[b]at e;cases e;obtain⟨p,xs,rfl,_,f,d⟩:=S.lst h E;obtain⟨ls,rfl,j,i,g⟩:=Rc S b t;refine⟨(p,xs)::ls,rfl,λl a=>?_,zy.app d i,by simp[g]⟩
      rcases cA.mp a with rfl|a
      ·exact f
      ·exact j l a
    |_=>rw[E]at e;cases e
  |_=>cases e
def Cb:yn K (λx y=>NH K [x,y]) ZR:=λφ A H x y u v Q S g q p=>by
 unfold ZR at p;cases u with
 |ref n=>cases v with
  |ref k=>
   dsimp only at p;cases E:A[n]? with
   |none=>rw[E]at p;exact p.elim|some o=>cases o with
    |lst us=>
     cases a:A[k]? with
     |none=>rw[E,a]at p;exact p.elim|some j=>cases j with
      |lst zs=>cases zs with
       |nil=>
        rw[E,a]at p;dsimp only at p;cases b:gh A us with
        |none=>rw[b]at p;exact p.elim|some w=>
         rw[b]at p;dsimp only at p
         by_cases h:us≠[]/\w.flatten.length<=qa
         ·rw[ag h]at p
          obtain⟨i,xs,rfl,_,t,f⟩:=S.lst g E;obtain⟨P,ys,rfl,_,s,r⟩:=S.lst q a;cases r;obtain⟨ls,rfl,B,d,c⟩:=Rc S b f;refine⟨i,P,ls,rfl,t,s,B,λe=>?_,by rw[<- d.length];exact h.2,λl z=>?_⟩
          ·rw[e]at c
           exact h.1 (List.length_eq_zero_iff.mp c.symm)
          ·obtain⟨a1,a2,C⟩:=Zd S z d
           exact p _ _ _ a1 a2 C
         ·rw[aj h]at p;exact p.elim
       |cons _ _=>rw[E,a]at p;exact p.elim
      |_=>rw[E,a]at p;exact p.elim
    |_=>rw[E]at p;exact p.elim
  |_=>exact p.elim
 |_=>cases v<;>exact p.elim
variable {a b:Expr}{ma mb:Ev}
def fK (t:TA):TE:=λσ H Q=>t σ H λvs H1=>∃i j:Int,vs=[.int i,.int j]/\∀p,H1 p=none->Q (.ref p) (upd H1 p (.rng i j))
def Du {T:TA}(g:Gl X "range")(hm:X.mg "range"=none)(l:PA X [a,b] T)(f:starEach [a,b] X.env=[(false,eval a X.env),(false,eval b X.env)])(c:starEach [b] X.env=[(false,eval b X.env)]):PE X (.Call (.Name "range" p) [a,b] [] pos) (fK T):=by
 intro pins s σ H Q I h;refine Call_ (Zg I g hm boot_range (PyProof.Rows.callWith_type1 (zU (l pos pins s σ H _ I h) λus s1 ⟨vs,H1,d,r,e⟩=>?_) (by rw[f,c]) (by rw[c];rfl)))
 obtain⟨i,j,rfl,q⟩:=e;obtain⟨u,v,rfl,⟨t,rfl⟩,⟨n,rfl⟩⟩:=Vals.two r;refine call_range_2 ⟨.ref _,_,d.laid (o:=.rng i j) (λb o E=>af _ E) (ar _) ?_,rfl,q _ (d.hok.fresh (ar _))⟩;exact⟨_,_,_,av _ rfl⟩
noncomputable def Je (lo:Int)(n:Nat):List V:=(List.range n).map λ(i:Nat)=>V.int (lo+i)
def Hv (A:X.calm=true):j3 X (.type "list") (λxs H Q=>∃(r:Addr) (i j:Int),xs=[.ref r]/\H r=some (.rng i j)/\(-(2 ^ 62)<=i/\i<2 ^ 62)/\(-(2 ^ 62)<=j/\j<2 ^ 62)/\(j-i).toNat<=sizeLine/\∀l,H l=none->Q (.ref l) (upd H l (.lst (Je i (j-i).toNat)))):=by
 intro pins s σ H xs us Q I r h;obtain⟨p,i,j,rfl,x,⟨a1,a2⟩,⟨D,B⟩,z,q⟩:=h;obtain⟨u,rfl,g⟩:=vals1 r;cases g;obtain⟨t1,T,t3,y⟩:=I.hok p _ x;have E:sizeLine=16777216:=sizeLine_eq;refine PySem.call_list_range (n:=(j-i).toNat) (I.ok.hd A) (show IsRange s.heap p i j 1 t1 T t3 from y) (small_one (by omega) (by omega) D B) (by rw[rangeSize_one];split<;>omega) (by omega) λh' tk acc C kk S ⟨hn,d⟩=>?_
 refine⟨.ref s.heap.objs.size,_,I.laid (t':=tk) (o:=.lst (Je i (j-i).toNat)) kk (ar _) ?_,rfl,q _ (I.hok.fresh (ar _))⟩;refine⟨by unfold Je;simpa using z,acc.toList,C,?_,by simpa using S⟩
 have a:∀(l:bY)(k:Nat),(∀(m:Nat) v,l[m]? =some v->∃t,v=.int (i+((k+m:Nat):Int)) t)->Vals ((List.range' k l.length).map λ(m:Nat)=>V.int (i+(m:Int))) l:=by
  intro l
  induction l with
  |nil=>intro k _;exact .nil|cons v l w=>
   intro k e;rw[aV,bT,aL];refine .cons ?_ (w (k+1) λm f a=>?_)
   ·obtain⟨t,rfl⟩:=e 0 v rfl
    exact⟨t,rfl⟩
   ·obtain⟨t,rfl⟩:=e (m+1) f (by simpa using a)
    exact⟨t,by first|rfl|(congr 1<;>omega)|(simp;omega)⟩
 have b:acc.toList.length=(j-i).toNat:=by simpa using hn
 have:=a acc.toList 0 λm v c=>by
  obtain⟨t,rfl⟩:=d m v (by simpa using c)
  exact⟨t,by first|rfl|(congr 1<;>omega)|(simp;omega)⟩
 rw[b]at this;unfold Je;rw[bJ];exact this
def Y8 (ma mb:Ev):Ev:=λρ A=>(ma ρ A).bind λx A1=>(mb ρ A1).bind λy A2=>match x,y with
 |.int i,.int j=>if jI i&&(jI j&&decide ((j-i).toNat<=qa)) then .ok (.ref A2.length) (A2++[.lst ((List.range (j-i).toNat).map λ(k:Nat)=>W.int (i+k))]) else .bad|_,_=>.bad
variable {m:Ev}{lo hi:Option Expr}
abbrev Po:=En->Hx->R (ck)
noncomputable def U3:Po:=λ_ A=>.ok none A
noncomputable def UI (m:Ev):Po:=λρ A=>(m ρ A).bind λw A1=>match w with
 |.int i=>.ok (some i) A1|_=>.bad
noncomputable def UO (ws:List W)(lo h:ck):List W:=(ws.drop (HT.kB ws.length 0 lo)).take (HT.kB ws.length ws.length h-HT.kB ws.length 0 lo)
inductive MP (K:Frag)(xr:XR)(p:Po)(σ:St)(H:Hp)(Q:Option Int->Hp->Prop):Prop
 |mk (φ:bZ) (A:Hx) (ρ:En) (S:zI K φ A H) (re:RE K φ H ρ σ) (h:(p ρ A).post (λo A1=>∀φ1 H1,Le K φ H φ1 H1->zI K φ1 A1 H1->Q o H1) (EB K φ H xr))
noncomputable def tP (K:Frag)(x:XR)(p:Po):TO:=λσ H Q=>MP K x p σ H Q
def SP (X:Cx)(x:XR)(e:Option Expr)(p:Po):Prop:=PO X e (tP X.K x p)
def PO.imp {e:Option Expr}{t t':TO}(h:PO X e t)(i:∀σ H Q,t' σ H Q->t σ H Q):PO X e t':=λpins s σ H Q I hw=>h pins s σ H Q I (i σ H Q hw)
end
section
variable {K:Frag}
def Nz:QF:=λo i v H Q=>∃a kvs k,o=.ref a/\i=kV k/\H a=some (.dK kvs)/\kvs.length<sizeLine/\Q (upd H a (.dK (putK kvs k v)))
def set_dict {k:Nat}(c:jq k X.A):Kw X Nz:=by
 intro pins s σ H o i v f g u Q I ro b r h;obtain⟨a,kvs,key,rfl,rfl,d,l,q⟩:=h;cases ro;exact FN (Ny c) I (GD.k d l) b r λs' e=>⟨_,e,q⟩
noncomputable def wj (kvs:List (Key×W))(k:Key)(v:W):List (Key×W):=
 if (kvs.any λK=>decide (K.1=k))=true then kvs.map (λK=>if K.1=k then(K.1,v) else K) else kvs++[(k,v)]
def Zl:W->W->W->Hx->R Unit:=λd k v A=>match d,QD k with
 |.ref n,some k=>match A[n]? with
  |some (.dct kvs)=>if kvs.length<qa then .ok () (A.set n (.dct (wj kvs k v))) else .bad|_=>.bad
 |_,_=>.bad
def CN:∀o i v A,qR (Zl o i v A):=λo i v A=>by
 unfold Zl
 split
 ·split
  ·exact gF jQ qP
  ·exact qP
 ·exact qP
theorem Od (k:Key):∀{kvs:List (Key×W)}{us:List (Key×V)},us.map (·.1)=kvs.map (·.1)->(us.any λK=>decide (K.1=k))=(kvs.any λK=>decide (K.1=k))
 |[],[],_=>rfl|[],_::_,h=>by simp at h|_::_,[],h=>by simp at h|a::kvs,b::us,h=>by
  simp only[aL,List.cons.injEq]at h;rw[bR,bR,Od k h.2,h.1]
theorem PY (k:Key){w:W}(q:RV K φ H w v):∀{kvs:List (Key×W)}{us:List (Key×V)},us.map (·.1)=kvs.map (·.1)->zy K φ H (kvs.map (·.2)) (us.map (·.2))->
  (us.map (λc=>if c.1=k then(c.1,v) else c)).map (·.1)=(kvs.map (λc=>if c.1=k then(c.1,w) else c)).map (·.1)/\zy K φ H ((kvs.map (λc=>if c.1=k then(c.1,w) else c)).map (·.2)) ((us.map (λc=>if c.1=k then(c.1,v) else c)).map (·.2))
 |[],[],_,r=>⟨rfl,r⟩|[],_::_,h,_=>by simp at h|_::_,[],h,_=>by simp at h|a::kvs,b::us,h,r=>by
  simp only[aL,List.cons.injEq]at h;obtain⟨j,l,e,g,f⟩:=r;simp only[aL,List.cons.injEq]at e;obtain⟨rfl,rfl⟩:=e;obtain⟨I,i⟩:=PY k q h.2 f;simp only[aL];rw[I,h.1]
  by_cases d:a.1=k
  ·rw[ag d,ag d]
   exact⟨rfl,⟨v,_,rfl,q,i⟩⟩
  ·rw[aj d,aj d]
   exact⟨by rw[h.1],⟨b.2,_,rfl,g,i⟩⟩
def Dm:Up K Nz Zl:=λφ A H o i v c w wv Q S j g q p=>by
 unfold Zl at p;cases c with
 |ref n=>cases w with
  |int k=>
   obtain rfl:=g;dsimp only[QD]at p;cases e:A[n]? with
   |none=>rw[e]at p;exact p.elim|some r=>cases r with
    |dct kvs=>
     rw[e]at p;dsimp only at p;obtain⟨l,us,rfl,f1,g1,g2,g3⟩:=S.dct j e;have hlen:us.length=kvs.length:=by have:=congrArg List.length g2;simpa using this
     by_cases b:kvs.length<qa
     ·rw[ag b]at p
      have ln:Le K φ H φ (upd H l (.dK (putK us (.inl k) v))):=Le.upd f1 (λxs z=>by rw[g1]at z;cases z) (λ_ _ z=>by rw[g1]at z;cases z)
      have h:(putK us (.inl k) v).map (·.1)=(wj kvs (.inl k) wv).map (·.1)/\zy K φ (upd H l (.dK (putK us (.inl k) v))) ((wj kvs (.inl k) wv).map (·.2)) ((putK us (.inl k) v).map (·.2)):=by
       generalize upd H l (.dK (putK us (.inl k) v))=H' at ln;unfold putK wj;rw[Od (.inl k) g2]
       by_cases a:(kvs.any λs=>decide (s.1=(.inl k:Key)))=true
       ·rw[ag a,ag a]
        exact PY (.inl k) (q.mono ln) g2 (g3.mono ln)
       ·rw[aj a,aj a]
        refine⟨by simp[g2],?_⟩
        rw[aX,aX];exact(g3.mono ln).append (.one (q.mono ln))
      obtain⟨f,d⟩:=S.write (o:=.dct kvs) (o':=.dct (wj kvs (.inl k) wv)) e rfl rfl f1 (u:=.dK (putK us (.inl k) v)) ⟨_,jD,h.1,h.2⟩;exact⟨l,us,.inl k,rfl,rfl,g1,by rw[hlen,sizeLine_eq];unfold qa at b;omega,p _ _ f d⟩
     ·rw[aj b]at p;exact p.elim
    |_=>rw[e]at p;exact p.elim
  |_=>exact p.elim
 |_=>cases w<;>exact p.elim
end
noncomputable def Gq (_ j:Int):Bool:=decide (0<j)&&decide (j<1152921504606846976)
def NM (i j:Int):Prop:=0<j/\j<1152921504606846976
def D9 (i j:Int)(h:Gq i j=true):NM i j:=by
 unfold Gq at h;rw[aw]at h;exact⟨of_decide_eq_true h.1,of_decide_eq_true h.2⟩
def Dr:qX X (binaryOp .FloorDiv) (rI NM λi j=>.int (i/j)):=Xf λi j _ _ _ _ _ h q=>by
 have a:(0:Int)<j:=h.1;have H:j<1152921504606846976:=h.2;refine floordiv_int (by omega) (by rw[Int.fdiv_eq_ediv_of_nonneg i (by omega)];exact q) (.inl (PyProof.noPylong_of_log2 ?_))
 have h0:j.natAbs≠0:=by omega
 have:j.natAbs.log2<60:=(Nat.log2_lt h0).mpr (by omega)
 omega
def Zo:=Z2 Gq λi j=>.int (i/j)
noncomputable def Qx (RF:Nat->List W->Hx->R W):Fn:=λus A=>match us with
 |[.clo k ws _]=>RF k ws A|_=>.bad
def Pr {RF:Nat->List W->Hx->R W}(PG:jP)(us:List W)(A:Hx):Qx RF us A=.bad∨QI PG RF (us.map (Gp PG)) A=Qx RF us A:=by
 cases us with
 |nil=>exact .inl rfl|cons u us=>
  cases us with
  |cons v us=>cases u<;>exact .inl rfl|nil=>
   cases u with
   |clo k ws P=>
    refine .inr ?_;show QI PG RF [.clo k ws (PG k)] A=RF k ws A;unfold QI;dsimp only;rw[ag rfl]
   |_=>exact .inl rfl
def N0 (e:Expr):Expr:=match e with
 |.Compare l _ _ _=>l|_=>Jg
section
variable {K:Frag}
def OV (K:Frag):R2:=λx y H Q=>∃φ A u v d ds,zI K φ A H/\RV K φ H u x/\RV K φ H v y/\qm A 8 u=some d/\qm A 8 v=some (.list ds)/\Q (.bl (!(ds.any λz=>PyData.eqv z d))) H
def EA (j:X.A.units+64<cLine):qX X (compareOp .NotIn) (OV X.K):=by
 intro pins s σ H x y v u Q I b r h;obtain⟨φ,A,w,a,d,ds,S,f,c,E,e,q⟩:=h;obtain⟨as,i⟩:=Qi I S 8 w x v d f b E;obtain⟨bs,g⟩:=Qi I S 8 a y u _ c r e;obtain⟨g1,g2⟩:=WB 8 w d E;obtain⟨g3,l⟩:=Pm e;exact SeqAt.notIn_list_reads g i g3 g1 (by omega) ⟨.bl _,H,I,rfl,q⟩
def Zc:W->W->Hx->R W:=λx y A=>match qm A 8 x,qm A 8 y with
 |some d,some (.list ds)=>.ok (.bl (!(ds.any λz=>PyData.eqv z d))) A|_,_=>.bad
def FG:∀x y A,qR (Zc x y A):=λx y A=>by
 unfold Zc
 split
 ·exact jQ
 ·exact qP
def HY:yn K (OV K) Zc:=λφ A H x y u v Q S a q p=>by
 unfold Zc at p;cases e:qm A 8 u with
 |none=>rw[e]at p;exact p.elim|some d=>
  cases E:qm A 8 v with
  |none=>rw[e,E]at p;exact p.elim|some D=>
   rw[e,E]at p;cases D with
   |list ds=>exact⟨φ,A,u,v,d,ds,S,a,q,e,E,p φ H _ .refl S rfl⟩|_=>exact p.elim
def D2 {k:Nat}(h:jq k X.A):GN X .NotIn Zc:=⟨_,EA h.units,FG,HY⟩
end
end Mi
namespace PySem.SeqAt
open PySem
end PySem.SeqAt
namespace Mi
open PySem PySem.Spec PyProof.Rows L2
section
variable {m:Ev}
def Uq (m:Ev)(p pu:Po):Ev:=λρ A=>(m ρ A).bind λw A1=>(p ρ A1).bind λl A2=>(pu ρ A2).bind λu a=>match w with
 |.ref n=>match a[n]? with
  |some (.lst ws)=>.ok (.ref a.length) (a++[.lst (UO ws l u)])|_=>.bad
 |_=>.bad
end
open PySem.W (KasT kas_rev kas_asc kas_desc kas_tail3 kas_descPart kas_count kas_place kas_bin kas_sort)
noncomputable def TW (n:Nat)(c:Nat->Nat->Bool):KasT α->(α->Prop)->Prop
 |.ret a,Q=>Q a|.ask i j k,Q=>i<n/\j<n/\TW n c (k (c i j)) Q
theorem TW.bind {β:Type}{c:Nat->Nat->Bool}{f:α->KasT β}{Q:β->Prop}:∀(t:KasT α),TW n c t (λa=>TW n c (f a) Q)->TW n c (t.bind f) Q
 |.ret _,h=>h|.ask i j k,h=>⟨h.1,h.2.1,TW.bind (k (c i j)) h.2.2⟩
theorem TW.wp {c:Nat->Nat->Bool}{cmp:Nat->Nat->(Bool->Shared->Prop)->Shared->Prop}{G:α->Shared->Prop}(H:∀i j C,i<n->j<n->C (c i j) s->cmp i j C s):
  ∀(t:KasT α),TW n c t (λa=>G a s)->t.kasWp cmp G s
 |.ret _,h=>h|.ask i j k,h=>H i j _ h.1 h.2.1 (TW.wp H (k (c i j)) h.2.2)
section
variable {O:KeyOrd}{key:Nat->O.α}
noncomputable def gk (key:Nat->O.α)(p:Array Nat)(i:Nat):O.α:=key (p.getD i 0)
noncomputable abbrev kc (key:Nat->O.α)(i j:Nat):Bool:=O.blt (key i) (key j)
def wm (key:Nat->O.α)(p:Array Nat)(m:Nat):Prop:=∀i j,i<=j->j<m->O.kle (gk key p i) (gk key p j)
def w5 (key:Nat->O.α)(p:Array Nat)(m:Nat):Prop:=∀i j,i<=j->j<m->O.kle (gk key p j) (gk key p i)
structure yj (n:Nat)(p:Array Nat):Prop where
 pm:p.Perm (List.range n).toArray
theorem yj.size {p:Array Nat}(h:yj n p):p.size=n:=by rw[h.pm.size_eq];simp
def yj.lt {p:Array Nat}(h:yj n p)(hn:0<n)(i:Nat):p.getD i 0<n:=by
 by_cases hi:i<p.size
 ·have e:p.getD i 0=p[i]:=by simp[Array.getD,hi]
  have m:p[i]∈p.toList:=Array.mem_toList_iff.mpr (Array.getElem_mem hi)
  have:=(Array.perm_iff_toList_perm.mp h.pm).mem_iff.mp m
  rw[e];simpa using this
 ·have e:p.getD i 0=0:=by simp[Array.getD,hi]
  rw[e];exact hn
def yj.rev {p:Array Nat}(h:yj n p)(i j:Nat):yj n (kas_rev p i j):=⟨(mirror_perm _ _ _ _).trans h.pm⟩
def yj.bub {p:Array Nat}(h:yj n p)(i j:Nat):yj n (bubble p i j):=⟨(bubble_perm _ _ _).trans h.pm⟩
def YU {p q:Array Nat}(h:p[i]? =q[j]?):gk key p i=gk key q j:=by
 unfold gk;rw[Array.getD_eq_getD_getElem?,Array.getD_eq_getD_getElem?,h]
def VQ {p:Array Nat}(h:j<=p.size)(k:Nat):gk key (kas_rev p i j) k=if i<=k/\k<j then gk key p (i+j-1-k) else gk key p k:=by
 have e:=getElem?_mirror_all (xs:=p) (i:=i) h k
 by_cases c:i<=k/\k<j
 ·rw[ag c]at e
  rw[ag c];exact YU e
 ·rw[aj c]at e
  rw[aj c];exact YU e
def XS {p:Array Nat}(H:j<=p.size)(h:∀k,i<=k->k<j->gk key p k=gk key p (j-1))(k:Nat):gk key (kas_rev p i j) k=gk key p k:=by
 rw[VQ H]
 by_cases c:i<=k/\k<j
 ·rw[ag c,h k c.1 c.2]
  exact h _ (by omega) (by omega)
 ·rw[aj c]
def Nw {p:Array Nat}{a d:Nat}(h:a<p.size)(hd:d<=a)(k:Nat):gk key (bubble p a d) k=if k=a-d then gk key p a else if a-d<k/\k<=a then gk key p (k-1) else gk key p k:=by
 have e:=getElem?_bubble h d hd k
 by_cases c:k=a-d
 ·rw[ag c]at e
  rw[ag c];exact YU e
 ·rw[aj c]at e
  rw[aj c]
  by_cases c2:a-d<k/\k<=a
  ·rw[ag c2]at e
   rw[ag c2];exact YU e
  ·rw[aj c2]at e
   rw[aj c2];exact YU e
def wm.one {p:Array Nat}:wm key p 1:=λi j H h=>by
 obtain rfl:i=0:=by omega
 obtain rfl:j=0:=by omega
 exact KeyOrd.kle_refl _
def wm.more {p:Array Nat}{m:Nat}(h:wm key p m)(hm:1<=m)(H:O.kle (gk key p (m-1)) (gk key p m)):wm key p (m+1):=λi j a b=>by
 rcases lt_or_ge j m with c|c
 ·exact h i j a c
 ·obtain rfl:j=m:=by omega
  rcases lt_or_ge i j with C|C
  ·exact KeyOrd.kle_trans (h i (j-1) (by omega) (by omega)) H
  ·obtain rfl:i=j:=by omega
   exact KeyOrd.kle_refl _
def w5.more {p:Array Nat}{m:Nat}(h:w5 key p m)(hm:1<=m)(H:O.kle (gk key p m) (gk key p (m-1))):w5 key p (m+1):=λi j a b=>by
 rcases lt_or_ge j m with c|c
 ·exact h i j a c
 ·obtain rfl:j=m:=by omega
  rcases lt_or_ge i j with C|C
  ·exact KeyOrd.kle_trans H (h i (j-1) (by omega) (by omega))
  ·obtain rfl:i=j:=by omega
   exact KeyOrd.kle_refl _
def w5.same {p q:Array Nat}{m:Nat}(h:w5 key p m)(e:∀k,gk key q k=gk key p k):w5 key q m:=λi j a H=>by
 rw[e,e];exact h i j a H
theorem UE {p:Array Nat}(P:yj n p)(hn:0<n):∀(f a:Nat){Q:Nat->Prop},1<=a->wm key p a->(∀m,a<=m->m<=a+f->wm key p m->m=a+f∨O.klt (gk key p m) (gk key p (m-1))->Q m)->TW n (kc key) (kas_asc p f a) Q
 |0,a,Q,_,H,h=>h a (ar _) (ar _) H (.inl rfl)|f+1,a,Q,h1,H,h=>by
  refine⟨P.lt hn _,P.lt hn _,?_⟩;cases e:kc key (p.getD a 0) (p.getD (a-1) 0) with
  |true=>exact h a (ar _) (by omega) H (.inr e)|false=>exact UE P hn f (a+1) (by omega) (H.more h1 e) λm d c b o=>h m (by omega) (by omega) b (by rcases o with o|o;exact .inl (by omega);exact .inr o)
theorem Gh (hn:0<n):∀(f:Nat)(p:Array Nat)(a q:Nat){Q:Array Nat×Nat×Nat->Prop},yj n p->q+1<=a->a+f<=n->w5 key p a->(∀k,a-(q+1)<=k->k<a->gk key p k=gk key p (a-1))->
  (∀b m d,yj n b->a<=m->m<=a+f->w5 key b m->d+1<=m->(∀k,m-(d+1)<=k->k<m->gk key b k=gk key b (m-1))->Q (b,m,d))->TW n (kc key) (kas_desc f p a q) Q
 |0,p,a,q,Q,P,g,o,H,he,h=>h p a q P (ar _) (ar _) H g he|f+1,p,a,q,Q,P,g,o,H,he,h=>by
  refine⟨P.lt hn _,P.lt hn _,?_⟩;have one:∀r:Array Nat,∀k,a+1-(0+1)<=k->k<a+1->gk key r k=gk key r (a+1-1):=λr k x y=>by
   obtain rfl:k=a:=by omega
   rfl
  have up:∀b m d,yj n b->a+1<=m->m<=a+1+f->w5 key b m->d+1<=m->(∀k,m-(d+1)<=k->k<m->gk key b k=gk key b (m-1))->Q (b,m,d):=λb m d a1 a2 v u t A=>h b m d a1 (by omega) (by omega) u t A
  cases e:kc key (p.getD a 0) (p.getD (a-1) 0) with
  |true=>
   show TW n (kc key) (if q > 0 then _ else _) Q;have lt:O.kle (gk key p a) (gk key p (a-1)):=KeyOrd.kle_of_klt e
   by_cases l:q > 0
   ·rw[ag l]
    have E:=XS (key:=key) (p:=p) (i:=a-(q+1)) (j:=a) (by rw[P.size];omega) he
    exact Gh hn f _ (a+1) 0 (P.rev _ _) (by omega) (by omega) ((H.more (by omega) lt).same E) (one _) up
   ·rw[aj l]
    exact Gh hn f _ (a+1) 0 P (by omega) (by omega) (H.more (by omega) lt) (one _) up
  |false=>
   refine⟨P.lt hn _,P.lt hn _,?_⟩;cases s:kc key (p.getD (a-1) 0) (p.getD a 0) with
   |true=>exact h p a q P (ar _) (by omega) H g he|false=>
    have eq:gk key p a=gk key p (a-1):=KeyOrd.kle_antisymm (show O.kle (gk key p a) (gk key p (a-1)) from s) (show O.kle (gk key p (a-1)) (gk key p a) from e)
    refine Gh hn f p (a+1) (q+1) P (by omega) (by omega) (H.more (by omega) (by rw[eq];exact KeyOrd.kle_refl _)) (λk x y=>?_) up
    show gk key p k=gk key p a;rcases lt_or_ge k a with c|c
    ·rw[eq];exact he k (by omega) c
    ·obtain rfl:k=a:=by omega
     rfl
def Nr {p:Array Nat}{a r:Nat}{Q:Nat×Array Nat->Prop}(hn:0<n)(P:yj n p)(c:1<=a)(e:a<=r)(d:r<=n)(s:w5 key p a)(h:∀m b,yj n b->1<=m->m<=r->wm key b m->Q (m,b)):TW n (kc key) (kas_tail3 a r p) Q:=by
 refine TW.bind _ (UE (P.rev _ _) hn _ _ c (λi j x y=>?_) λm x y H _=>h m _ (P.rev _ _) (by omega) (by omega) H)
 have z:a<=p.size:=by rw[P.size];omega
 rw[VQ z,VQ z,ag (by omega),ag (by omega)]
 exact s _ _ (by omega) (by omega)
def O3 {p:Array Nat}{a r:Nat}{Q:Nat×Array Nat->Prop}(hn:0<n)(P:yj n p)(g:a+1<=r)(e:r<=n)(s:w5 key p (a+1))(h:∀m b,yj n b->1<=m->m<=r->wm key b m->Q (m,b)):TW n (kc key) (kas_descPart a r p) Q:=by
 refine TW.bind _ (Gh hn _ _ _ _ P (by omega) (by omega) s (λk x y=>?_) λb m q d x y H f he=>?_)
 ·obtain rfl:k=a:=by omega
  rfl
 ·show TW n (kc key) (if q > 0 then kas_tail3 m r (kas_rev b (m-(q+1)) m) else kas_tail3 m r b) Q
  by_cases c:q > 0
  ·rw[ag c]
   exact Nr hn (d.rev _ _) (by omega) (by omega) e (H.same (XS (by rw[d.size];omega) he)) h
  ·rw[aj c]
   exact Nr hn d (by omega) (by omega) e H h
def w_count {p:Array Nat}{r:Nat}{Q:Nat×Array Nat->Prop}(hn:0<n)(P:yj n p)(l:1<=r)(f:r<=n)(h:∀m d,yj n d->1<=m->m<=r->wm key d m->Q (m,d)):TW n (kc key) (kas_count r p) Q:=by
 refine TW.bind _ (UE P hn _ _ (ar _) wm.one λm x y H o=>?_)
 by_cases c:m=r
 ·rw[ag (by simp[c])]
  exact h m p P x (by omega) H
 ·rw[aj (by simp[c])]
  have lt:O.klt (gk key p m) (gk key p (m-1)):=o.resolve_left (by omega)
  by_cases c2:m > 1
  ·rw[ag c2]
   refine⟨P.lt hn _,P.lt hn _,?_⟩;cases e:kc key (p.getD 0 0) (p.getD (m-1) 0) with
   |true=>exact h m p P x (by omega) H|false=>
    have all:∀k,0<=k->k<m->gk key p k=gk key p (m-1):=λk _ g=>
     KeyOrd.kle_antisymm (H k (m-1) (by omega) (by omega)) (KeyOrd.kle_trans (show O.kle (gk key p (m-1)) (gk key p 0) from e) (H 0 k (by omega) g))
    have s:w5 key p m:=λi j a b=>by
     rw[all i (by omega) (by omega),all j (by omega) b]
     exact KeyOrd.kle_refl _
    exact O3 hn (P.rev _ _) (by omega) f ((s.more x (KeyOrd.kle_of_klt lt)).same (XS (by rw[P.size];omega) all)) h
  ·rw[aj c2]
   obtain rfl:m=1:=by omega
   have s:w5 key p 1:=λi j a b=>by
    obtain rfl:i=j:=by omega
    exact KeyOrd.kle_refl _
   exact O3 hn P (by omega) f (s.more x (KeyOrd.kle_of_klt lt)) h
theorem Vn {p:Array Nat}{k:Nat}(hn:0<n)(P:yj n p)(H:wm key p k):∀(f l r:Nat){Q:Nat->Prop},l<=r->r<=k->r-l<=f->(∀i,i<l->O.kle (gk key p i) (gk key p k))->(∀i,r<=i->i<k->O.klt (gk key p k) (gk key p i))->
  (∀m,m<=k->(∀i,i<m->O.kle (gk key p i) (gk key p k))->(∀i,m<=i->i<k->O.klt (gk key p k) (gk key p i))->Q m)->TW n (kc key) (kas_place p k f l r) Q
 |0,l,r,Q,o,g,j,lo,d,h=>h l (by omega) lo (λi a b=>d i (by omega) b)|f+1,l,r,Q,o,g,j,lo,d,h=>by
  show TW n (kc key) (if l ≥ r then _ else _) Q
  by_cases c:l ≥ r
  ·rw[ag c]
   exact h l (by omega) lo (λi a b=>d i (by omega) b)
  ·rw[aj c]
   refine⟨P.lt hn _,P.lt hn _,?_⟩;cases e:kc key (p.getD k 0) (p.getD ((l+r)/2) 0) with
   |true=>exact Vn hn P H f l ((l+r)/2) (by omega) (by omega) (by omega) lo (λi a b=>KeyOrd.klt_of_klt_of_kle e (H _ _ a b)) h|false=>exact Vn hn P H f ((l+r)/2+1) r (by omega) g (by omega) (λi a=>KeyOrd.kle_trans (H i ((l+r)/2) (by omega) (by omega)) e) d h
theorem NQ (hn:0<n):∀(f:Nat)(p:Array Nat)(k:Nat){Q:Array Nat->Prop},yj n p->k+f=n->wm key p k->(∀d,yj n d->wm key d n->Q d)->TW n (kc key) (kas_bin f p k) Q
 |0,p,k,Q,P,e,H,h=>h p P (by rw[<- e];exact H)|f+1,p,k,Q,P,e,H,h=>by
  refine TW.bind _ (Vn hn P H k 0 k (by omega) (by omega) (by omega) (λi a=>by omega) (λi a b=>by omega) λm hm lo l=>?_)
  refine NQ hn f _ (k+1) (P.bub _ _) (by omega) (λi j a b=>?_) h
  have z:k<p.size:=by rw[P.size];omega
  rw[Nw z (by omega),Nw z (by omega),show k-(k-m)=m by omega]
  by_cases ci:i=m
  ·rw[ag ci]
   by_cases c:j=m
   ·rw[ag c];exact KeyOrd.kle_refl _
   ·rw[aj c,ag (by omega)]
    exact KeyOrd.kle_of_klt (l _ (by omega) (by omega))
  ·rw[aj ci]
   by_cases c:j=m
   ·rw[ag c,aj (by omega)]
    exact lo i (by omega)
   ·rw[aj c]
    by_cases g:m<i/\i<=k
    ·rw[ag g,ag (by omega)]
     exact H _ _ (by omega) (by omega)
    ·rw[aj g]
     by_cases D:m<j/\j<=k
     ·rw[ag D]
      exact H _ _ (by omega) (by omega)
     ·rw[aj D]
      exact H _ _ a (by omega)
def fL {Q:Array Nat->Prop}(a:2<=n)(h:∀p,yj n p->wm key p n->Q p):TW n (kc key) (kas_sort n) Q:=by
 refine TW.bind _ (w_count (by omega) ⟨Array.Perm.refl _⟩ (by omega) (ar _) λm p P b hm H=>?_)
 show TW n (kc key) (if m<n then _ else _) Q
 by_cases c:m<n
 ·rw[ag c]
  show TW n (kc key) (kas_bin (n-max m 1) p (max m 1)) Q;rw[show max m 1=m by omega]
  exact NQ (by omega) _ _ _ P (by omega) H h
 ·rw[aj c]
  obtain rfl:m=n:=by omega
  exact h p P H
end
open PySem.W (KasT kas_sort kas_ask kat_run kat_snds kat_kind kat_lt kat_cons kat_nil kat_yes kat_no kat_one KatLex KatGo KatTups)
noncomputable def yb  [DecidableEq α] (lt:α->α->Bool):List α->List α->Bool
 |[],[]=>false|[],_::_=>true|_::_,[]=>false|a::x,b::y=>if a=b then yb lt x y else lt a b
section
variable (O:KeyOrd)[DecidableEq O.α]
theorem PM:∀x:List O.α,yb O.blt x x=false
 |[]=>rfl|a::x=>by unfold yb;rw[ag rfl];exact PM x
theorem Of:∀x y z:List O.α,yb O.blt x y=true->yb O.blt y z=true->yb O.blt x z=true
 |[],[],_,h,_=>by cases h|[],_::_,[],_,h=>by cases h|[],_::_,_::_,_,_=>rfl|_::_,[],_,h,_=>by cases h|_::_,_::_,[],_,h=>by cases h|a::x,b::y,c::z,h1,H=>by
  unfold yb at*
  by_cases f:a=b
  ·subst f
   rw[ag rfl]at h1
   by_cases E:a=c
   ·rw[ag E]at H ⊢
    exact Of x y z h1 H
   ·rw[aj E]at H ⊢
    exact H
  ·rw[aj f]at h1
   by_cases E:b=c
   ·subst E
    rw[aj f];exact h1
   ·rw[aj E]at H
    have d:=O.trans a b c h1 H;rw[aj λe=>by rw[e,O.irrefl]at d;cases d]
    exact d
theorem ON:∀x y z:List O.α,yb O.blt x z=true->yb O.blt x y=true∨yb O.blt y z=true
 |[],[],_,h=>.inr h|[],_::_,_,_=>.inl rfl|_::_,_,[],h=>by cases h|_::_,[],_::_,_=>.inr rfl|a::x,b::y,c::z,h=>by
  unfold yb at*
  by_cases E:a=b
  ·subst E
   rw[ag rfl]
   by_cases e:a=c
   ·rw[ag e]at h ⊢
    exact ON x y z h
   ·rw[aj e]at h ⊢
    exact .inr h
  ·rw[aj E]
   by_cases e:a=c
   ·subst e
    rw[aj (Ne.symm E)];cases l:O.blt a b with
    |true=>exact .inl rfl|false=>
     cases m:O.blt b a with
     |true=>exact .inr rfl|false=>exact absurd (O.total a b l m) E
   ·rw[aj e]at h
    by_cases d:b=c
    ·subst d
     exact .inl h
    ·rw[aj d]
     exact O.negTrans a b c h
theorem PK:∀x y:List O.α,yb O.blt x y=false->yb O.blt y x=false->x=y
 |[],[],_,_=>rfl|[],_::_,h,_=>by cases h|_::_,[],_,h=>by cases h|a::x,b::y,h1,H=>by
  unfold yb at*
  by_cases e:a=b
  ·subst e
   rw[ag rfl]at h1 H;rw[PK x y h1 H]
  ·rw[aj e]at h1
   rw[aj (Ne.symm e)]at H;exact absurd (O.total a b h1 H) e
abbrev Mw:KeyOrd:=⟨List O.α,yb O.blt,PM O,Of O,ON O,PK O⟩
end
noncomputable abbrev IO:KeyOrd:=⟨Int,λa b=>decide (a<b),λa=>by simp,λa b c d H=>by simp only[ak]at*;omega,λa b c h=>by simp only[ak]at*;omega,λa b d H=>by simp only[decide_eq_false_iff_not]at*;omega⟩
abbrev Ks:List Int->List Int->Bool:=yb IO.blt
abbrev Z4:KeyOrd:=Mw IO
section
variable {O:KeyOrd}
noncomputable def Yn (x:O.α):List O.α->List O.α
 |[]=>[x]|y::l=>if O.blt y x then y::Yn x l else x::y::l
def j4:List O.α->List O.α
 |[]=>[]|x::l=>Yn x (j4 l)
theorem X4 (x:O.α):∀l,(Yn x l).Perm (x::l)
 |[]=>List.Perm.refl _|y::l=>by
  unfold Yn
  split
  ·exact((X4 x l).cons y).trans (List.Perm.swap x y l)
  ·exact List.Perm.refl _
theorem g8:∀l:List O.α,(j4 l).Perm l
 |[]=>List.Perm.refl _|x::l=>(X4 x (j4 l)).trans ((g8 l).cons x)
theorem Rh (x:O.α):∀{l:List O.α},l.Pairwise O.kle->(Yn x l).Pairwise O.kle
 |[],_=>List.pairwise_singleton _ _|y::l,h=>by
  unfold Yn;cases c:O.blt y x with
  |true=>
   rw[ag rfl];refine List.pairwise_cons.mpr ⟨λz H=>?_,Rh x (List.pairwise_cons.mp h).2⟩;rcases cA.mp ((X4 x l).mem_iff.mp H) with rfl|H
   ·exact KeyOrd.kle_of_klt c
   ·exact(List.pairwise_cons.mp h).1 z H
  |false=>
   rw[aj (by simp)]
   refine List.pairwise_cons.mpr ⟨λz H=>?_,h⟩;rcases cA.mp H with rfl|H
   ·exact c
   ·exact KeyOrd.kle_trans c ((List.pairwise_cons.mp h).1 z H)
theorem Wl:∀l:List O.α,(j4 l).Pairwise O.kle
 |[]=>.nil|x::l=>Rh x (Wl l)
theorem VJ:∀{a b:List O.α},a.Perm b->a.Pairwise O.kle->b.Pairwise O.kle->a=b
 |[],b,p,_,_=>by rw[List.nil_perm.mp p]|x::a,[],p,_,_=>absurd p.length_eq (by simp)|x::a,y::b,p,H,h=>by
  have d:x∈y::b:=p.mem_iff.mp (ax ..);have c:y∈x::a:=p.mem_iff.mpr (ax ..);have e:x=y:=by
   rcases cA.mp d with e|e
   ·exact e
   ·rcases cA.mp c with E|E
    ·exact E.symm
    ·exact O.total _ _ ((List.pairwise_cons.mp h).1 x e) ((List.pairwise_cons.mp H).1 y E)
  subst e;rw[VJ (List.Perm.cons_inv p) (List.pairwise_cons.mp H).2 (List.pairwise_cons.mp h).2]
theorem HX:∀{l:List O.α},l.length<2->l=j4 l
 |[],_=>rfl|[_],_=>rfl|_::_::_,h=>absurd h (by simp)
end
abbrev UG:List (bX)->List (bX):=j4 (O:=Z4)
def GA {d:α}(l:List α):((List.range l.length).map λi=>l.getD i d)=l:=by
 refine bx (by simp) λi a b=>?_
 simp at a;simp[a]
def AV (vs:bY):(vs.toArray.zip vs.toArray).map (·.2)=vs.toArray:=by
 apply Array.toList_inj.mp
 rw[Array.toList_map];simp only[Array.toList_zip,List.toList_toArray];exact List.map_snd_zip (ar _)
section
variable {prog:Program}{A:Around}
def fM {b:Bool}{x y:Int}{t u:Tok}{Q:Bool->Shared->Prop}(h:Q (decide (x<y)) s):wpAny (model prog w) A (oneLt' b (.int x t) (.int y u)) Q E s:=by
 cases b with
 |true=>exact oneLt_int h|false=>exact kat_one _ _ (wpAny_lt_int h)
theorem O6 {Q:Bool->Shared->Prop}{b:Bool}:∀{xs ys:bY}{as bs:bX}{i:Nat},IntsAre xs as->IntsAre ys bs->Q (Ks as bs) s->KatLex prog w A b (decide (xs.length<ys.length)) Q (xs.zip ys) i s
 |_,_,_,_,_,.nil,.nil,h=>h|_,_,_,_,_,.nil,.cons _ _ _,h=>by
  refine kat_nil (s:=s) ?_;simpa[yb] using h
 |_,_,_,_,_,.cons _ _ _,.nil,h=>by
  refine kat_nil (s:=s) ?_;simpa[yb] using h
 |_,_,_,_,i,.cons (vs:=xs) a t d,.cons (vs:=ys) c u r,h=>by
  refine kat_cons (wpAny_eqBool_int ?_);unfold Ks yb at h
  by_cases e:a=c
  ·subst e
   rw[ag rfl]at h;rw[br];refine kat_yes ?_;show KatLex prog w A b (decide (xs.length+1<ys.length+1)) Q (xs.zip ys) (i+1) s;rw[show decide (xs.length+1<ys.length+1)=decide (xs.length<ys.length) by simp]
   exact O6 d r h
  ·rw[aj e]at h
   rw[show(a==c)=false by simp[e]]
   exact kat_no (fM h)
def Jw (h:Heap)(v:Value)(k:bX):Prop:=∃(a:Addr) (o:Obj) (its:bY) (n:Nat),v=.ref a/\h.get? a=some o/\o.cls=.type "tuple" /\ o.data=.seq its.toArray n/\IntsAre its k
def Jw.keep {v:Value}{k:bX}(t:Jw h v k)(kp:∀b o,h.get? b=some o->h'.get? b=some o):Jw h' v k:=by
 obtain⟨a,o,i,n,e,f,d,c,H⟩:=t;exact⟨a,o,i,n,e,kp _ _ f,d,c,H⟩
def fN {x y:Value}{k:bX}{b:Bool}{Q:Bool->Shared->Prop}(f:Jw s.heap x k)(e:Jw s.heap y l)(h:Q (Ks k l) s):wpAny (model prog w) A (keyLt' (tuples' b) x y) Q E s:=by
 obtain⟨a,o,I,n,rfl,p,_,j,g⟩:=f;obtain⟨q,o',its',N,rfl,d,_,c,H⟩:=e;refine kat_lt p j d c ?_
 have:=O6 (prog:=prog) (w:=w) (A:=A) (b:=b) (i:=0) g H h
 simpa using this
inductive wd (h:Heap):List Value->List (bX)->Prop
 |nil:wd h [] []
 |cons {v:Value} {k:bX} {vs:bY} {ks:bV} (t:Jw h v k) (ne:k≠[]) (r:wd h vs ks):wd h (v::vs) (k::ks)
theorem wd.length:∀{vs:bY}{ks:bV},wd h vs ks->vs.length=ks.length
 |_,_,.nil=>rfl|_,_,.cons _ _ r=>by simp[r.length]
theorem wd.keep (kp:∀b o,h.get? b=some o->h'.get? b=some o):∀{vs:bY}{ks:bV},wd h vs ks->wd h' vs ks
 |_,_,.nil=>.nil|_,_,.cons t ne r=>.cons (t.keep kp) ne (r.keep kp)
theorem wd.at:∀{vs:bY}{ks:bV}(i:Nat),wd h vs ks->i<ks.length->Jw h (vs.getD i Value.none) (ks.getD i [])
 |_,_,_,.nil,H=>by simp at H|_,_,0,.cons t _ _,_=>t|_,_,i+1,.cons _ _ r,H=>r.at i (by simpa using H)
theorem wd.firsts:∀{vs:bY}{ks:bV},wd h vs ks->∃fs:bY,KatTups h vs fs/\fs.length=vs.length/\∀v∈fs,∃i t,v=Value.int i t
 |_,_,.nil=>⟨[],trivial,rfl,λv H=>by cases H⟩|_,_,.cons (k:=k) ⟨a,o,its,n,e,h1,d,c,b⟩ ne r=>by
  obtain⟨fs,t,l,hf⟩:=r.firsts;cases b with
  |nil=>exact absurd rfl ne|cons i tk q=>
   refine⟨Value.int i tk::fs,⟨⟨a,o,_,n,e,h1,d,c,rfl⟩,t⟩,by simp[l],λv H=>?_⟩
   rcases cA.mp H with rfl|H
   ·exact⟨i,tk,rfl⟩
   ·exact hf v H
section
variable {O:KeyOrd}{d0:O.α}
structure Gj (prog:Program)(w:World)(A:Around)(κ:SortKind)(vs:bY)(ks:List O.α)(d0:O.α)(s:Shared):Prop where
 kind:2<=vs.length->∀{Q:SortKind->Shared->Prop}{E:cf},Q κ s->wpAny (model prog w) A (keyKind' vs.toArray) Q E s
 lt:∀i j,i<ks.length->j<ks.length->∀{Q:Bool->Shared->Prop}{E:cf},Q (O.blt (ks.getD i d0) (ks.getD j d0)) s->wpAny (model prog w) A (keyLt' κ (vs.getD i Value.none) (vs.getD j Value.none)) Q E s
def HJ {κ:SortKind}{ks:List O.α}{P:PySem.Fin->Shared->Prop}(f:s.heap.get? a=some (seqObj "list" vs.toArray n))(l:vs.length=ks.length)(L:∀h':Heap,(∀b o,b≠a->s.heap.get? b=some o->h'.get? b=some o)->Gj prog w A κ vs ks d0 { s with heap:=h' })(x:vs.length<64)
  (h:∀p:Array Nat,p.Perm (List.range ks.length).toArray->(p.toList.map λi=>ks.getD i d0)=j4 ks->P (.done (.ret .none)) { s with heap:=sortedHeap s.heap a vs (p.toList.map λi=>vs.getD i Value.none).toArray }):
  wpAny (model prog w) A (Builtin.«list.sort» ⟨[.ref a],[]⟩) P E s:=by
 have ha:a<s.heap.objs.size:=aG f;obtain⟨D,d⟩:∃D,(s.heap.update a (Obj.mapSeq λ_=>(#[]:Array Value))).get? a=some (seqObj "list" #[] D):=⟨_,get?_update_seq f λ_=>#[]⟩;have kp:∀b o,b≠a->s.heap.get? b=some o->(((s.heap.update a (Obj.mapSeq λ_=>(#[]:Array Value))).push (seqObj "tuple" vs.toArray 0)).push (seqObj "list" #[] 0)).get? b=some o:=λb o ne e=>
  af _ (af _ ((aQ _ _ (Ne.symm ne)).trans e))
 have T:=L _ kp;have H:=af (seqObj "list" #[] 0) (af (seqObj "tuple" vs.toArray 0) d);have hsz:vs.toArray.size=vs.length:=by simp
 rw[list_sort_plain];refine cy (listItems_at f rfl ?_);refine cy (listUpdate_at f rfl ?_ (by rw[hsz,sizeLine_eq];omega) (bK _))
 refine cy (seqEpoch_at d rfl ?_);refine cy (wpAny_newTuple ?_ (by show vs.length<=_;rw[sizeLine_eq];omega))
 refine cy (wpAny_newList ?_ (bK _));refine wpAny_holding ?_;show wpAny (model prog w) A _ P E { s with heap:=((s.heap.update a (Obj.mapSeq λ_=>(#[]:Array Value))).push (seqObj "tuple" vs.toArray 0)).push (seqObj "list" #[] 0) }
 dsimp only
 by_cases c:vs.toArray.size<2
 ·rw[ag c,ag c]
  refine cy (cz ?_);rw[StateT.run_pure];refine cy (cz ?_);dsimp only;have X:((vs.toArray.zip vs.toArray).map (·.2))=((List.range ks.length).toArray.toList.map λi=>vs.getD i Value.none).toArray:=by
   rw[<- l,List.toList_toArray,GA];exact AV vs
  refine cy (seqEpoch_at H rfl ?_);show wpAny _ _ (Builtin.List.listUpdate (.ref a) (λ_=>(vs.toArray.zip vs.toArray).map (·.2)) >>= _) _ _ _;rw[X];refine cy (listUpdate_at H rfl ?_ (bK _) (by rw[aF,ai];simp;rw[<- l,sizeLine_eq];omega))
  simp only[bne_self_eq_false,a9,if_false];refine cz (h (List.range ks.length).toArray (Array.Perm.refl _) ?_);rw[List.toList_toArray,GA];rw[hsz,l]at c;exact HX c
 ·rw[aj c,aj c]
  have y:2<=vs.length:=by omega
  refine cy (T.kind y ?_);refine cy (wpAny_mono (kat_run (ks:=vs) (G:=λp s'=>s'={ s with heap:=((s.heap.update a (Obj.mapSeq λ_=>(#[]:Array Value))).push (seqObj "tuple" vs.toArray 0)).push (seqObj "list" #[] 0) }/\p.Perm (List.range ks.length).toArray/\(p.toList.map λi=>ks.getD i d0)=j4 ks)
   (Q:=λS s'=>∃p:Array Nat,p.size=vs.length/\arrOf S=p.map (PySem.W.kas_item (vs.toArray.zip vs.toArray))/\failedOf S=none/\s'={ s with heap:=((s.heap.update a (Obj.mapSeq λ_=>(#[]:Array Value))).push (seqObj "tuple" vs.toArray 0)).push (seqObj "list" #[] 0) }/\p.Perm (List.range ks.length).toArray/\(p.toList.map λi=>ks.getD i d0)=j4 ks)
   rfl y x (λp S s' a1 a2 a3 a4=>⟨p,a1,a2,a3,a4⟩) ?_) ?_ λ_ _ e=>e)
  ·rw[l]
   refine TW.wp (n:=ks.length) (c:=kc (O:=O) λi=>ks.getD i d0) (λi j C t q N=>?_) _ (fL (by omega) λp P J=>⟨rfl,P.pm,?_⟩)
   ·exact T.lt i j t q N
   ·refine VJ ?_ ?_ (Wl ks)
    ·have B:(p.toList.map λi=>ks.getD i d0).Perm ((List.range ks.length).map λi=>ks.getD i d0):=(Array.perm_iff_toList_perm.mp P.pm).map _
     rw[GA]at B;exact B.trans (g8 ks).symm
    ·rw[pairwise_map,List.pairwise_iff_getElem]
     intro i j t q M;have z:p.size=ks.length:=P.size;have r:i<p.size:=by simpa using t
     have g:j<p.size:=by simpa using q
     have:=J i j (by omega) (by omega)
     unfold gk at this;have Z:p.getD i 0=p.toList[i]:=by simp[Array.getD,r]
     have Y:p.getD j 0=p.toList[j]:=by simp[Array.getD,g]
     rw[Z,Y]at this;exact this
  ·rintro⟨⟨⟩,S⟩ s' ⟨p,K,v,u,rfl,pm,U⟩
   dsimp only;rw[kat_snds rfl v];have I:(List.toArray (p.toList.map λi=>vs.getD i Value.none)).size=vs.length:=by rw[aF,ai,aS,K]
   refine cy (seqEpoch_at H rfl ?_);refine cy (listUpdate_at H rfl ?_ (bK _) (by rw[I,sizeLine_eq];omega))
   rw[u];simp only[bne_self_eq_false,a9,if_false];exact cz (h p pm U)
def PR {κ:SortKind}{l:Addr}{ks:List O.α}(j:s.heap.IsList l vs.toArray)(hlen:vs.length=ks.length)(T:∀(g:Around)(h':Heap)(tk:Nat),g.units<=A.units+8->(∀b o,s.heap.get? b=some o->h'.get? b=some o)->Gj prog w g κ vs ks d0 { s with heap:=h',toks:=tk })(f:vs.length<64)
  (h:∀(h':Heap)(a:Addr)(p:Array Nat)(c:Nat),s.heap.objs.size<=a->p.Perm (List.range ks.length).toArray->(p.toList.map λi=>ks.getD i d0)=j4 ks->h'.get? a=some { cls:=.type "list",data:=.seq (p.toList.map λi=>vs.getD i Value.none).toArray c }->
   (∀b o,s.heap.get? b=some o->h'.get? b=some o)->Q (.ref a) { s with heap:=h' }):
  wpAny (model prog w) A (call (.builtin "sorted") [.ref l]) Q E s:=by
 refine Calls.call_function_entry kind_sorted plain_sorted entry_sorted (args_sorted1 _) ?_;unfold Builtin.«sorted»;refine cy (m:=checkCount "sorted" 1 1 _) (cz ?_);refine cy (collect_list j ?_ (by rw[sizeLine_eq];omega))
 refine cy (wpAny_newList ?_ (by rw[sizeLine_eq];omega))
 have hsz:((s.heap.push (seqObj "list" #[] 0)).update s.heap.objs.size (Obj.mapSeq (·++vs.toArray))).objs.size=s.heap.objs.size+1:=by rw[Heap.size_update,size_push']
 show wpAny _ _ _ _ _ { s with heap:=((s.heap.push (seqObj "list" #[] 0)).update s.heap.objs.size (Obj.mapSeq (·++vs.toArray))).push (seqObj "list" vs.toArray 0) }
 have d:∀b o,s.heap.get? b=some o->((s.heap.push (seqObj "list" #[] 0)).update s.heap.objs.size (Obj.mapSeq (·++vs.toArray))).get? b=some o:=λb o e=>
  (aQ _ _ (bq (aG e))).trans (af _ e)
 generalize (s.heap.push (seqObj "list" #[] 0)).update s.heap.objs.size (Obj.mapSeq (·++vs.toArray))=h1 at hsz d;have H:(h1.push (seqObj "list" vs.toArray 0)).get? h1.objs.size=some (seqObj "list" vs.toArray 0):=av _ rfl;have K:∀b o,s.heap.get? b=some o->(h1.push (seqObj "list" vs.toArray 0)).get? b=some o:=λb o e=>af _ (d b o e);have nb:∀b o,s.heap.get? b=some o->b≠h1.objs.size:=λb o e z=>by
  subst z
  have:h1.objs.size<s.heap.objs.size:=aG e
  omega
 refine cy (wpAny_holding (wpAny_call_entry slot_list_sort ⟨_,H,rfl⟩ entry_list_sort (HJ (κ:=κ) (ks:=ks) (d0:=d0) H hlen (λh' kp=>T _ h' _ (by first|(show A.units+1<=A.units+8;omega)|(show A.units+1+1<=A.units+8;omega)) λb o e=>kp b o (nb b o e) (K b o e)) f λp pm n=>⟨_,rfl,?_⟩) (args_list_sort _)))
 refine cz ⟨_,rfl,?_⟩;have t:=get?_update_seq H (λ_=>(#[]:Array Value));have r:=af (seqObj "list" #[] 0) (af (seqObj "tuple" vs.toArray 0) t);obtain⟨c,q⟩:∃c,(sortedHeap (h1.push (seqObj "list" vs.toArray 0)) h1.objs.size vs (p.toList.map λi=>vs.getD i Value.none).toArray).get? h1.objs.size=some (seqObj "list" (p.toList.map λi=>vs.getD i Value.none).toArray c):=⟨_,get?_update_seq r (λ_=>(p.toList.map λi=>vs.getD i Value.none).toArray)⟩;refine h _ h1.objs.size p c (by omega) pm n q λb o e=>?_
 unfold sortedHeap;exact(aQ _ _ (Ne.symm (nb b o e))).trans (af _ (af _ ((aQ _ _ (Ne.symm (nb b o e))).trans (K b o e))))
end
def FA {A:Around}(T:wd s.heap vs ks):Gj (O:=Z4) prog w A (tuples' (Value.type "int" != Value.type "tuple")) vs ks [] s where
 kind:=λc Q E h=>by
  obtain⟨fs,t,f,hf⟩:=T.firsts;exact kat_kind (T:=.type "int") t (by omega) (λv H=>by obtain⟨i,tk,rfl⟩:=hf v H;exact PySem.W.Looks.of_pure rfl) rfl h
 lt:=λi j b a Q E h=>fN (T.at i b) (T.at j a) h
def Ip {l:Addr}(d:s.heap.IsList l vs.toArray)(T:wd s.heap vs ks)(H:vs.length<64)
  (h:∀(h':Heap)(a:Addr)(p:Array Nat)(c:Nat),s.heap.objs.size<=a->p.Perm (List.range ks.length).toArray->(p.toList.map λi=>ks.getD i [])=UG ks->h'.get? a=some { cls:=.type "list",data:=.seq (p.toList.map λi=>vs.getD i Value.none).toArray c }->
   (∀b o,s.heap.get? b=some o->h'.get? b=some o)->Q (.ref a) { s with heap:=h' }):
  wpAny (model prog w) A (call (.builtin "sorted") [.ref l]) Q E s:=
 PR (O:=Z4) (d0:=[]) d T.length (λA h' tk _ kp=>FA (s:={ s with heap:=h',toks:=tk }) (T.keep kp)) H h
end
noncomputable def jB (k:bX):W:=.tup (k.map W.int)
def Yd:List W->Option (bV)
 |[]=>some []|.tup xs::ws=>match intsOf xs with
  |some k=>if k=[] then none else(Yd ws).map (k::·)|none=>none
 |_::_=>none
theorem Pw:∀{ws:List W}{ks:bV},Yd ws=some ks->ws=ks.map jB/\∀k∈ks,k≠[]
 |[],_,h=>by cases h;exact⟨rfl,λk a=>by cases a⟩|w::ws,ks,h=>by
  cases w with
  |tup xs=>
   unfold Yd at h;cases E:intsOf xs with
   |none=>rw[E]at h;cases h|some k=>
    rw[E]at h;dsimp only at h
    by_cases c:k=[]
    ·rw[ag c]at h;cases h
    ·rw[aj c]at h
     cases e:Yd ws with
     |none=>rw[e]at h;cases h|some ls=>
      rw[e]at h;cases h;obtain⟨a1,a2⟩:=Pw e;refine⟨by rw[aL,<- a1,YL E];rfl,λx H=>?_⟩
      rcases cA.mp H with rfl|H
      ·exact c
      ·exact a2 x H
  |_=>cases h
theorem Vals.sel (h:Vals ys us):∀(l:b9),(∀i∈l,i<ys.length)->Vals (l.map λi=>ys.getD i .non) (l.map λi=>us.getD i Value.none)
 |[],_=>.nil|i::l,hi=>by
  have a:=h.length;have I:i<ys.length:=hi i (ax ..);obtain⟨u,E,e⟩:=h.get (i:=i) (x:=ys[i]) (aa I);refine .cons ?_ (Vals.sel h l λj H=>hi j (au _ H));show L2.RelV (ys.getD i V.non) (us.getD i Value.none);rw[ae,ae,E,aa I];exact e
theorem zy.sel {K:Frag}{f:List Int->W}:∀{ks:bV}{ys:List V}(i:Nat),zy K φ H (ks.map f) ys->i<ks.length->RV K φ H (f (ks.getD i [])) (ys.getD i .non)
 |[],_,_,_,hi=>by simp at hi|k::ks,_,0,⟨v,r,e,h,t⟩,_=>by subst e;exact h|k::ks,_,i+1,⟨v,r,e,h,t⟩,hi=>by subst e;exact zy.sel i t (by simpa using hi)
theorem zy.sels {K:Frag}{f:List Int->W}(h:zy K φ H (ks.map f) ys):∀(l:b9),(∀i∈l,i<ks.length)->zy K φ H ((l.map λi=>ks.getD i []).map f) (l.map λi=>ys.getD i .non)
 |[],_=>rfl|i::l,hi=>⟨_,_,rfl,zy.sel i h (hi i (ax ..)),zy.sels h l λj a=>hi j (au _ a)⟩
section
variable {m:Ev}
theorem OS {σ:List (Option V)}(I:Inv X pins σ H s):∀{ks:bV}{ys:List V}{i:bY},zy X.K φ H (ks.map jB) ys->(∀k∈ks,k≠[])->Vals ys i->wd s.heap i ks
 |[],_,_,e,_,b=>by
  have E:_=([]:List V):=e;subst E;rw[Vals.zero b];exact .nil
 |k::ks,_,_,⟨v,r,e,h,t⟩,ne,b=>by
  subst e;cases b with
  |cons c b=>
   obtain⟨a,vs,e,hT,d⟩:=h;subst e;have ev:=zy.ints.mp d;subst ev;obtain⟨i,g,⟨o,g1,g2,n,g3⟩,_⟩:=I.tuple hT;cases c;exact .cons ⟨a,o,i,n,rfl,g1,g2,g3,intsAre_of g⟩ (ne k (ax ..)) (OS I t (λk f=>ne k (au _ f)) b)
def Iw:j3 X (.builtin "sorted") (λxs H Q=>∃(p:Addr) (ys:List V) (ks:bV) (φ:bZ),xs=[.ref p]/\qW X.K H p ys/\zy X.K φ H (ks.map jB) ys/\(∀k∈ks,k≠[])/\ks.length<64/\
  ∀l zs,H l=none->zy X.K φ H ((UG ks).map jB) zs->Q (.ref l) (upd H l (.lst zs))):=by
 intro pins s σ H xs us Q I r h;obtain⟨p,ys,ks,φ,rfl,j,d,ne,w,q⟩:=h;obtain⟨u,rfl,f⟩:=vals1 r;cases f;obtain⟨g,v,⟨o,k,B,A,D,x⟩,C⟩:=I.list j;have T:=OS I d ne v;have n:=T.length;have y:ys.length=ks.length:=by rw[v.length];exact n
 refine Ip ⟨o,B,A,k,x⟩ T (by omega) λh' a p c e pm E t kp=>?_
 have lt:∀i∈p.toList,i<ks.length:=λi b=>by
  have:=(Array.perm_iff_toList_perm.mp pm).mem_iff.mp b
  simpa using this
 have P:p.toList.length=ks.length:=by rw[aS,pm.size_eq];simp
 have z:=zy.sels d p.toList lt;rw[E]at z;refine⟨.ref a,_,I.laid (t':=s.toks) (o:=.lst (p.toList.map λi=>ys.getD i .non)) kp e ⟨?_,_,c,Vals.sel v p.toList λi b=>by rw[y];exact lt i b,t⟩,rfl,q _ _ (I.hok.fresh e) z⟩
 rw[ai,P,sizeLine_eq];omega
def Nc:W->Hx->R W:=λw A=>match w with
 |.ref n=>match A[n]? with
  |some (.lst ws)=>match Yd ws with
   |some ks=>if ks.length<64 then .ok (.ref A.length) (A++[.lst ((UG ks).map jB)]) else .bad|none=>.bad
  |_=>.bad
 |_=>.bad
def O5 (m:Ev):Ev:=λρ A=>(m ρ A).bind λw A1=>Nc w A1
end
open PySem.W (kas_kind)
abbrev yd:KeyOrd:=Mw Z4
theorem PZ:∀x y:bX,HT.lexLt x y=Ks x y
 |[],[]=>rfl|[],_::_=>rfl|_::_,[]=>rfl|a::x,b::y=>by
  show(if a=b then HT.lexLt x y else decide (a<b))=(if a=b then Ks x y else decide (a<b));rw[PZ x y]
theorem kP.at:∀{vs:bY}{n:bV}(i:Nat),kP h vs n->(H:i<n.length)->∃p I,vs[i]? =some (.ref p)/\IsTup h p I/\IntsAre I.toList n[i]
 |_,_,_,.nil,H=>by simp at H|_,_,0,.cons t i _,_=>⟨_,_,rfl,t,i⟩|_,_,i+1,.cons _ _ r,H=>by
  obtain⟨p,I,c,b,a⟩:=r.at i (by simpa using H)
  exact⟨p,I,by simpa using c,b,by simpa using a⟩
section
open PySem.SeqAt
open PySem.AutoSeq1 (wpAny_loadPart')
open PySem.MeetsSeq PySem.MeetsSeq2 PySem.MeetsSeq3
def Cz (l b:Addr)(items I:Array Value)(n n2:Nat)(dd D:cw)(Y S:Array (cb))(N M:bV)(k:Nat):
  ∀i:Nat,items.size-i=k->i<=items.size->i<=I.size->Meets (Builtin.«list.__eq__.loop» ⟨[.ref l,.ref b,rawInt i,rawInt 0],[]⟩)
   (λA R s=>s.heap.get? l=some { cls:=.type "list",dict:=dd,data:=.seq items n,slots:=Y }/\s.heap.get? b=some { cls:=.type "list",dict:=D,data:=.seq I n2,slots:=S }/\
    kP s.heap items.toList N/\kP s.heap I.toList M/\A.units+20<cLine/\R (.ok (.ret (.bool (yb Z4.blt (N.drop i) (M.drop i))))) s):=by
 induction k with
 |zero=>
  intro i hk hi B prog w A R s h;obtain⟨r,g,d,tk,os⟩:=s;obtain⟨j,o,t1,T,U,h⟩:=h;have X:items.size=N.length:=by rw[<- t1.length];simp
  have Z:I.size=M.length:=by rw[<- T.length];simp
  wp_walk using wpAny_loadPart' j,wpAny_loadPart' o
  have f:items[((i:Nat):Int).toNat]? =none:=by simp;omega
  rw[f]
  wp_walk using wpAny_loadPart' j,wpAny_loadPart' o
  have y:yb Z4.blt (N.drop i) (M.drop i)=decide (items.size<I.size):=by
   rw[List.drop_of_length_le (by omega)]
   cases e:M.drop i with
   |nil=>
    have:=congrArg List.length e
    simp at this;exact(aC (by omega)).symm
   |cons a q=>
    have:=congrArg List.length e
    simp at this;exact(aB (by omega)).symm
  rw[y]at h;exact h
 |succ k ih=>
  intro i hk hi B prog w A R s h;obtain⟨r,g,d,tk,os⟩:=s;obtain⟨j,o,t1,T,U,h⟩:=h;have X:items.size=N.length:=by rw[<- t1.length];simp
  have Z:I.size=M.length:=by rw[<- T.length];simp
  have t:i<items.size:=by omega
  have hc:((i:Int)+1)=((i+1:Nat):Int):=by push_cast;rfl
  have hu1:A.in1.units+15<cLine:=by
   have:A.in1.units<=A.units+1:=ar _
   omega
  have f:items[((i:Nat):Int).toNat]? =some items[i]:=by simp[t]
  have hd:N.drop i=N[i]::N.drop (i+1):=bg (by omega)
  wp_walk using wpAny_loadPart' j,wpAny_loadPart' o
  rw[f]
  by_cases H:i<I.size
  ·have c:I[((i:Nat):Int).toNat]? =some I[i]:=by simp[H]
   have hd2:M.drop i=M[i]::M.drop (i+1):=bg (by omega)
   rw[c];obtain⟨p,its,x,K,P⟩:=t1.at i (by omega)
   obtain⟨q,L,v,J,C⟩:=T.at i (by omega)
   have x:items[i]=.ref p:=by simpa[t] using x
   have v:I[i]=.ref q:=by simpa[H] using v
   rw[hd,hd2]at h;unfold yb at h;have he:=EJ (A:=A.in1) (s:=⟨r,g,d,tk,os⟩) K J P C (by omega)
   rw[<- x,<- v]at he;refine cy (he prog w _ _ ?_)
   by_cases u:N[i]=M[i]
   ·rw[ag u]at h
    rw[aB u]
    wp_walk
    rw[hc];exact⟨plainId_quiet plain_eq_loop _,codeAny_builtin entry_eq_loop (by
     rw[Around.under_plainId plain_eq_loop _];exact ih (i+1) (by omega) t H prog w A R _ ⟨j,o,t1,T,U,h⟩)⟩
   ·rw[aj u]at h
    rw[aC u]
    wp_walk using wpAny_loadPart' j,wpAny_loadPart' o
    rw[f,c,x,v];have z:∀(E:cf)(Q:cf),Q (.bool (HT.lexLt N[i] M[i])) ⟨r,g,d,tk,os⟩->wpAny (model prog w) A.in1 (richCompare .Lt (.ref p) (.ref q)) Q E ⟨r,g,d,tk,os⟩:=λE Q hQ=>
     (HT.HF (s:=⟨r,g,d,tk,os⟩) K J P C (by omega) hQ:wpAny (model prog w) A.in1 (compareOp .Lt (.ref p) (.ref q)) Q E ⟨r,g,d,tk,os⟩)
    wp_walk using z
    rw[PZ];exact h
  ·have c:I[((i:Nat):Int).toNat]? =none:=by simp;omega
   rw[c]
   wp_walk using wpAny_loadPart' j,wpAny_loadPart' o
   have y:yb Z4.blt (N.drop i) (M.drop i)=decide (items.size<I.size):=by
    rw[hd,List.drop_of_length_le (l:=M) (by omega)]
    exact(aC (by omega)).symm
   rw[y]at h;exact h
def Dc (l b:Addr)(items i:Array Value)(n c:Nat)(dd D:cw)(a S:Array (cb))(N M:bV):
  Meets (Builtin.«list.__lt__» ⟨[.ref l,.ref b],[]⟩)
   (λA R s=>s.heap.get? l=some { cls:=.type "list",dict:=dd,data:=.seq items n,slots:=a }/\s.heap.get? b=some { cls:=.type "list",dict:=D,data:=.seq i c,slots:=S }/\
    kP s.heap items.toList N/\kP s.heap i.toList M/\A.units+20<cLine/\R (.ok (.ret (.bool (yb Z4.blt N M)))) s):=by
 intro prog w A R s h;obtain⟨p,g,d,tk,os⟩:=s;obtain⟨H,e,t1,t,u,h⟩:=h;have f:=AutoSeq1.sub_list_list
 wp_walk using wpAny_loadPart' H,wpAny_loadPart' e
 exact⟨plainId_quiet plain_eq_loop _,codeAny_builtin entry_eq_loop (by
  rw[Around.under_plainId plain_eq_loop _];exact Cz l b items i n c dd D a S N M _ 0 rfl (bK _) (bK _) prog w A R _ ⟨H,e,t1,t,u,h⟩)⟩
end
def Jl (h:Heap)(v:Value)(ks:bV):Prop:=∃(l:Addr) (items:Array Value) (n:Nat),v=.ref l/\h.get? l=some (wq items n)/\kP h items.toList ks
theorem Jl.keep {v:Value}(t:Jl h v ks)(kp:∀b o,h.get? b=some o->h'.get? b=some o):Jl h' v ks:=by
 obtain⟨l,items,n,e,a,H⟩:=t;exact⟨l,items,n,e,kp _ _ a,H.keep λp i ⟨o,e,r⟩=>⟨o,kp _ _ e,r⟩⟩
section
variable {prog:Program}{A:Around}
def AS {x y:Value}{k l:bV}{Q:Bool->Shared->Prop}(d:Jl s.heap x k)(c:Jl s.heap y l)(u:A.units+30<cLine)(h:Q (yb Z4.blt k l) s):wpAny (model prog w) A (keyLt' oneType' x y) Q E s:=by
 obtain⟨a,items,n,rfl,H,t1⟩:=d;obtain⟨b,i,N,rfl,e,t⟩:=c;rw[keyLt'_oneType,oneLt'_eq];simp only[if_true];refine cy (wpAny_cRoomFor (by omega) ?_)
 refine cy (wpAny_callSpecialIfBound?_slot (T := "list") ⟨_,H,rfl⟩ (show Slot "list" "__lt__" "list.__lt__" from F.slot_list_lt) (call_meets F.slot_list_lt ⟨_,H,rfl⟩ F.entry_list_lt (F.args_list_lt_2 _ _) (Dc a b items i n N none none #[] #[] k l) ⟨H,e,t1,t,(by first|(show A.units+20<cLine;omega)|(show A.units+1+20<cLine;omega)|(show A.units+1+1+20<cLine;omega)),?_⟩))
 exact wpAny_truthy_bool h
def F2 {ks:List (bV)}(g:vs.length=ks.length)(a:∀i,i<ks.length->Jl s.heap (vs.getD i Value.none) (ks.getD i []))(u:A.units+30<cLine):Gj (O:=yd) prog w A oneType' vs ks [] s where
 kind:=λd Q E h=>kas_kind (T:=.type "list") d (λv H=>by
  obtain⟨i,b,rfl⟩:=bo H;obtain⟨l,items,n,e,f,_⟩:=a i (by omega)
  have e:vs[i]=.ref l:=by simpa[b] using e
  rw[e];exact(show PySem.W.Looks (model prog w) s.heap (typeOf (.ref l)) (wq items n).cls from (PySem.W.Looks.ld f).andThen .now)) (by decide) (by decide) h
 lt:=λi j b c Q E h=>AS (a i b) (a j c) u h
end
section
variable {K:Frag}
theorem Pz {σ:List (Option V)}(I:Inv X pins σ H s):∀{ks:bV}{ys:List V}{i:bY},zy X.K φ H (ks.map jB) ys->Vals ys i->kP s.heap i ks
 |[],_,_,e,b=>by
  have E:_=([]:List V):=e;subst E;rw[Vals.zero b];exact .nil
 |k::ks,_,_,⟨v,r,e,h,t⟩,b=>by
  subst e;cases b with
  |cons c b=>
   obtain⟨a,vs,e,hT,d⟩:=h;subst e;have ev:=zy.ints.mp d;subst ev;obtain⟨i,g,f,_⟩:=I.tuple hT;cases c;exact .cons f (by simpa using intsAre_of g) (Pz I t b)
def Jr:List W->Option (bV)
 |[]=>some []|.tup xs::ws=>match intsOf xs,Jr ws with
  |some k,some r=>some (k::r)|_,_=>none
 |_::_=>none
theorem Vt:∀{ws:List W}{ks:bV},Jr ws=some ks->ws=ks.map jB
 |[],_,h=>by cases h;rfl|w::ws,ks,h=>by
  unfold Jr at h
  split at h
  ·cases ‹_::_=[]›
  ·rename_i xs a e
   cases e
   split at h
   ·rename_i k r b E
    cases h;rw[aL,<- Vt E,YL b]
    rfl
   ·cases h
  ·cases h
def Zs (A:Hx):List W->Option (List (bV))
 |[]=>some []|.ref k::us=>match A[k]? with
  |some (.lst ws)=>match Jr ws,Zs A us with
   |some ks,some r=>some (ks::r)|_,_=>none
  |_=>none
 |_::_=>none
def QJ (K:Frag)(φ:bZ)(H:Hp):List V->List (bV)->Prop
 |[],[]=>True|.ref a::ys,ks::r=>(∃vs,H a=some (.lst vs)/\zy K φ H (ks.map jB) vs)/\QJ K φ H ys r|_,_=>False
theorem RY (S:zI K φ A H):∀{us:List W}{s:List (bV)}{ys:List V},Zs A us=some s->zy K φ H us ys->QJ K φ H ys s/\ys.length=us.length
 |[],_,_,e,h=>by cases e;cases h;exact⟨True.intro,rfl⟩|u::us,s,_,e,⟨v,r,f,h,t⟩=>by
  subst f;cases u with
  |ref k=>
   unfold Zs at e;cases E:A[k]? with
   |none=>rw[E]at e;cases e|some o=>cases o with
    |lst ws=>
     rw[E]at e;dsimp only at e
     split at e
     ·rename_i ks g d c
      cases e;obtain⟨p,xs,rfl,_,b,a⟩:=S.lst h E;rw[Vt d]at a;obtain⟨a1,a2⟩:=RY S c t;exact⟨⟨⟨xs,b,a⟩,a1⟩,by rw[aV,a2];rfl⟩
     ·cases e
    |_=>rw[E]at e;cases e
  |_=>cases e
theorem QJ.length:∀{ys:List V}{s:List (bV)},QJ K φ H ys s->ys.length=s.length
 |[],[],_=>rfl|[],_::_,h=>h.elim|y::ys,[],h=>by cases y<;>exact h.elim|.ref a::ys,ks::r,h=>by rw[aV,h.2.length];rfl|.non::_,_::_,h=>h.elim|.bl _::_,_::_,h=>h.elim|.int _::_,_::_,h=>h.elim|.str _::_,_::_,h=>h.elim
theorem QJ.at {σ:List (Option V)}(I:Inv X pins σ H s):∀{ys:List V}{b:List (bV)}{c:bY}(i:Nat),QJ X.K φ H ys b->Vals ys c->i<b.length->Jl s.heap (c.getD i Value.none) (b.getD i [])
 |[],[],_,_,_,_,hi=>by simp at hi|[],_::_,_,_,h,_,_=>h.elim|y::ys,[],_,_,_,_,hi=>by simp at hi|.ref a::ys,ks::r,_,0,h,.cons v d,_=>by
  cases v;obtain⟨vs,g,f⟩:=h.1;obtain⟨_,it,n,e,_,E⟩:=I.lstM g;exact⟨a,it.toArray,n,rfl,E,by simpa using Pz I f e⟩
 |.ref a::ys,ks::r,_,i+1,h,.cons v d,hi=>h.2.at I i d (by simpa using hi)|.non::_,_::_,_,_,h,_,_=>h.elim|.bl _::_,_::_,_,_,h,_,_=>h.elim|.int _::_,_::_,_,_,h,_,_=>h.elim|.str _::_,_::_,_,_,h,_,_=>h.elim
def Ic (D:X.A.units+64<cLine):j3 X (.builtin "sorted") (λxs H Q=>∃(p:Addr) (ys:List V) (b:List (bV)) (φ:bZ),xs=[.ref p]/\qW X.K H p ys/\QJ X.K φ H ys b/\b.length<64/\
  ∀l (pm:b9),H l=none->pm.Perm (List.range b.length)->(pm.map λi=>b.getD i [])=j4 (O:=yd) b->Q (.ref l) (upd H l (.lst (pm.map λi=>ys.getD i .non)))):=by
 intro pins s σ H xs us Q I r h;obtain⟨p,ys,b,φ,rfl,n,L,w,q⟩:=h;obtain⟨u,rfl,j⟩:=vals1 r;cases j;obtain⟨e,v,⟨o,k,B,z,M,x⟩,C⟩:=I.list n;have y:=L.length;have f:e.length=b.length:=by rw[<- v.length,y]
 refine PR (O:=yd) (d0:=[]) ⟨o,B,z,k,x⟩ f (λN h' tk J kp=>F2 (s:={ s with heap:=h',toks:=tk }) f (λi d=>(L.at I i v d).keep kp) (by omega)) (by omega) λh' a p c g pm E t kp=>?_
 have lt:∀i∈p.toList,i<b.length:=λi d=>by
  have:=(Array.perm_iff_toList_perm.mp pm).mem_iff.mp d
  simpa using this
 have P:p.toList.length=b.length:=by rw[aS,pm.size_eq];simp
 refine⟨.ref a,_,I.laid (t':=s.toks) (o:=.lst (p.toList.map λi=>ys.getD i .non)) kp g ⟨?_,_,c,Vals.sel v p.toList λi d=>by rw[y];exact lt i d,t⟩,rfl,q _ p.toList (I.hok.fresh g) (by simpa using Array.perm_iff_toList_perm.mp pm) E⟩
 rw[ai,P,sizeLine_eq];omega
def Za:W->Hx->R W:=λw A=>match w with
 |.ref n=>match A[n]? with
  |some (.lst us)=>match Zs A us with
   |some K=>if K.length<64/\K.Nodup then .ok (.ref A.length) (A++[.lst ((j4 (O:=yd) K).map λk=>us.getD (K.idxOf k) .non)]) else .bad|none=>.bad
  |_=>.bad
 |_=>.bad
def EU:∀x A,qR (Za x A):=λx A=>by
 unfold Za
 split
 ·split
  ·split
   ·exact gF jQ qP
   ·exact qP
  ·exact qP
 ·exact qP
theorem zy.pick:∀{us:List W}{ys:List V}(i:Nat),zy K φ H us ys->i<us.length->RV K φ H (us.getD i .non) (ys.getD i .non)
 |[],_,_,_,hi=>by simp at hi|u::us,_,0,⟨v,r,e,h,t⟩,_=>by subst e;exact h|u::us,_,i+1,⟨v,r,e,h,t⟩,hi=>by subst e;exact zy.pick i t (by simpa using hi)
theorem zy.picks {us:List W}(h:zy K φ H us ys):∀(l:b9),(∀i∈l,i<us.length)->zy K φ H (l.map λi=>us.getD i .non) (l.map λi=>ys.getD i .non)
 |[],_=>rfl|i::l,hi=>⟨_,_,rfl,zy.pick i h (hi i (ax ..)),zy.picks h l λj a=>hi j (au _ a)⟩
def Fj:KN K (λv H Q=>∃(p:Addr) (ys:List V) (s:List (bV)) (φ:bZ),[v]=[.ref p]/\qW K H p ys/\QJ K φ H ys s/\s.length<64/\
  ∀l (pm:b9),H l=none->pm.Perm (List.range s.length)->(pm.map λi=>s.getD i [])=j4 (O:=yd) s->Q (.ref l) (upd H l (.lst (pm.map λi=>ys.getD i .non)))) Za:=λφ A H x u Q S q p=>by
 unfold Za at p;cases u with
 |ref n=>
  dsimp only at p;cases e:A[n]? with
  |none=>rw[e]at p;exact p.elim|some o=>cases o with
   |lst us=>
    rw[e]at p;dsimp only at p;cases E:Zs A us with
    |none=>rw[E]at p;exact p.elim|some s=>
     rw[E]at p;dsimp only at p
     by_cases c:s.length<64/\s.Nodup
     ·rw[ag c]at p
      obtain⟨P,ys,rfl,_,f,r⟩:=S.lst q e;obtain⟨L,g⟩:=RY S E r;have a:us.length=s.length:=by rw[<- g,L.length]
      refine⟨P,ys,s,φ,rfl,qW.of f,L,c.1,λl pm b pp j=>?_⟩;have lt:∀i∈pm,i<s.length:=λi h=>by simpa using pp.mem_iff.mp h
      have t:(pm.map λi=>us.getD i .non)=(j4 (O:=yd) s).map λk=>us.getD (s.idxOf k) .non:=by
       rw[<- j,aO];refine ba λi h=>?_;have d:=lt i h;show us.getD i .non=us.getD (s.idxOf (s.getD i [])) .non;rw[ae (l:=s),aa d];show us.getD i .non=us.getD (s.idxOf s[i]) .non;rw[c.2.idxOf_getElem]
      obtain⟨a1,a2,w⟩:=Zd S b (r.picks pm λi h=>by rw[a];exact lt i h)
      rw[t]at a2;exact p _ _ _ a1 a2 w
     ·rw[aj c]at p;exact p.elim
   |_=>rw[e]at p;exact p.elim
 |_=>exact p.elim
end
def Ly (a b:Value):checkTypeCall "enumerate" ⟨[a],[("start",b)]⟩=pure ():=by kernel_rfl
def L5 (a b:Value):checkBuiltinCall "enumerate.__new__" ⟨[.type "enumerate",a],[("start",b)]⟩=pure ():=by kernel_rfl
def HB (o a b:Value):argsOk "object.__init__" ⟨[o,a],[("start",b)]⟩:=by unfold argsOk;kernel_rfl
abbrev Js (h:Heap)(a:Addr):Heap:=(gm h true a).push { cls:=.type "enumerate",data:=.fields #[.none,.bool false,.ref h.objs.size,rawInt 1,.none,.none] }
def Ho (a:Addr)(items:Array Value)(t:Tok):
  Meets (Builtin.«enumerate.__new__» ⟨[.type "enumerate",.ref a],[("start",.int 1 t)]⟩) (λ_ R s=>s.heap.IsList a items/\R (.ok (.ret (.ref (gm s.heap true a).objs.size))) { s with heap:=Js s.heap a }):=
 .of_wp λprog w A R s h=>by
  obtain⟨p,g,d,tk,os⟩:=s;obtain⟨hT,h⟩:=h;have e:=sub_enumerate;obtain⟨⟨c,dd,D,S⟩,H,b,n,hd⟩:=id hT
  replace b:c=.type "list":=b
  replace hd:D=.seq items n:=hd
  subst b hd
  wp_walk using wpAny_loadPart' H
  refine wpAny_stack_any λst=>cz ?_;split
  ·rename_i c _ _ _ _ _
   cases (c==Value.type "enumerate")<;>(wp_walk using wpAny_loadPart' H,wpAny_pyIter_list hT;exact⟨_,rfl,h⟩)
  ·wp_walk using wpAny_loadPart' H,wpAny_pyIter_list hT
   exact⟨_,rfl,h⟩
section
variable {prog:Program}{A:Around}
def Fw {t:Tok}(v:s.heap.IsList a items)
  (h:∀h',IsEnum h' (s.heap.objs.size+1) s.heap.objs.size 1 .none->jE true h' s.heap.objs.size a 0->(∀b o,s.heap.get? b=some o->h'.get? b=some o)->Q (.ref (s.heap.objs.size+1)) { s with heap:=h' }):
  wpAny (model prog w) A (call (.type "enumerate") [.ref a] [("start",.int 1 t)]) Q E s:=by
 have d:=F.called_enumerate;obtain⟨c,T,q⟩:=d.mro;have l:=d.made;have p:=d.sub;have J:=d.notType;have I:=d.canCreate;have y:=Ly (.ref a) (.int 1 t);refine wpAny_call (codeAny_of_tree ?_);show wpAny _ _ (callAny (.type "enumerate") _) _ _ _;refine cz ⟨Code.quiet_builtin _ (by decide +kernel),codeAny_builtin F.entry_type_call ?_⟩
 rw[Around.under_plain (weight_type_call_type "enumerate" [.ref a] [("start",.int 1 t)]) (units_type_call_type "enumerate" [.ref a] [("start",.int 1 t)])]
 repeat (any_goals (first|assumption|wp_step))
 have z:(gm s.heap true a).objs.size=s.heap.objs.size+1:=bf ..;have he:IsEnum (Js s.heap a) (gm s.heap true a).objs.size s.heap.objs.size 1 .none:=av _ rfl;refine codeAny_mono (codeAny_call_builtin d.plain F.entry_enumerate_new (wpAny_of_eq (L5 _ _) (Ho a items t prog w A.in1 (wants (λobj s1=>obj=.ref (gm s.heap true a).objs.size/\s1={ s with heap:=Js s.heap a }) E) s ⟨v,rfl,rfl⟩))) λr n j=>?_
 cases r with
 |error e=>exact j|ok D=>
  cases D with
  |ret obj=>
   obtain⟨rfl,rfl⟩:=j;have hT:Shared.TypeIs { s with heap:=Js s.heap a } (.ref (gm s.heap true a).objs.size) "enumerate":=⟨_,he,rfl⟩
   have u:=d.init.lookup;have B:=d.init.bind (.ref (gm s.heap true a).objs.size)
   repeat (any_goals (first|assumption|wp_step))
   refine codeAny_mono (codeAny_call_builtin d.init.plain F.entry_object_init (d.init.check _ _ _ _ _ _ _ _ hT (HB _ _ _) (?_:wpAny (model prog w) A.in1.in1 (Builtin.«object.__init__» ⟨[.ref (gm s.heap true a).objs.size,.ref a],[("start",.int 1 t)]⟩) (λfin s'=>match fin with|.done f=>wants (λr S=>r=.none/\S={ s with heap:=Js s.heap a }) E (.ok f) s' | .again C=>C.quiet=true/\codeAny (model prog w) A.in1 C (wants (λr S=>r=.none/\S={ s with heap:=Js s.heap a }) E) s') (λe s'=>wants (λr S=>r=.none/\S={ s with heap:=Js s.heap a }) E (.error e) s') _))) λi S H=>?_
   ·repeat (any_goals (first|assumption|wp_step))
    exact⟨rfl,rfl⟩
   ·cases i with
    |error e=>exact H|ok g=>
     cases g with
     |ret r=>
      obtain⟨rfl,rfl⟩:=H
      repeat (any_goals (first|assumption|wp_step))
      rw[z]at he ⊢;exact h _ he (.mk ⟨_,af _ (av _ rfl),rfl,rfl⟩) λb o x=>af _ (af _ x)
     |_=>exact H.elim
  |_=>exact j.elim
end
def Draws.on {prog:Program}{A:Around}{P:Nat->Value->Prop}{St:Nat->Heap->Prop}(D:Draws prog w A it fp n P St):Draws prog w A it fp (n+1) (λi=>P (i-1)) (λi h=>1<=i/\St (i-1) h) where
 live:=λi h st=>D.live _ h st.2
 frame:=λi h h' st k=>⟨st.1,D.frame _ h h' st.2 k⟩
 item:=λi s Q E b st H=>D.item (i-1) s Q E (by have:=st.1;omega) st.2 λx h' tk p q=>H x h' tk p ⟨by omega,by have:=st.1;rw[show i+1-1=i-1+1 by omega];exact q⟩
 done:=λs Q E st a=>D.done s Q E st.2 a
def N1 (K:Frag)(a:Addr):It:=
 ⟨λi H=>∃xs x,yP true K H a xs/\xs[i]? =some x,λi H x h=>∃p y,(∀xs,yP true K H a xs->xs[i]? =some y)/\H p=none/\x=.ref p/\h=upd H p (.tup [.int ((i+1:Nat):Int),y]),λi H=>∃xs,yP true K H a xs/\xs.length=i⟩
def Fb {K:Frag}(a n it:Addr):Turn P w K (.Tuple elts kk tpos) (N1 K a) [n,it] n (λi h=>(∃old,IsEnum h n it ((i+1:Nat):Int) old)/\jE true h it a i/\n≠it) where
 mem:=by simp
 obj:=λi h st b f=>by
  obtain⟨⟨old,he⟩,g,_⟩:=st;rcases cA.mp f with rfl|f
  ·exact⟨_,he,λv z=>nomatch z⟩
  ·rw[cE.mp f]
   obtain⟨o,S,_,hd⟩:=g.ob;exact⟨o,S,λv z=>by rw[hd]at z;cases z⟩
 keep:=λi h h' ⟨⟨old,he⟩,g,ne⟩ kp=>⟨⟨old,kp n (by simp) _ he⟩,g.to λo r=>kp it (by simp) o r,ne⟩
 item:=by
  intro X hP hw hK hc i pins s σ H E I hf st T;subst hP hw hK;obtain⟨⟨old,he⟩,g,ne⟩:=st;obtain⟨xs,x,D,C⟩:=T;obtain⟨d,J,t,hz⟩:=I.sq D;obtain⟨u,hu,ru⟩:=J.get C;have hlt:i<d.toArray.size:=by simpa using (cB.mp hu).1
  obtain⟨oa,j,Z,na,e⟩:=t.ob;have A:a≠it:=λz=>by
   obtain⟨oi,c,Y,p⟩:=g.ob;rw[<- z,j]at c;cases c;rw[p]at e;cases e
  have ane:n≠a:=λz=>by
   have B:s.heap.get? a=_:=z ▸ he;rw[j]at B;cases B;cases e
  refine wpAny_pyNext_enum_itemD (Draws.on (WC (k:=true) (items:=d.toArray) (I.ok.hd hc) A)) (i:=i+1) he ⟨by omega,g,t⟩ (by omega) ne (by simp[ne,ane]) λy h1 tk M S Q hT hsz hk=>?_
  have ey:y=u:=by
   have:d[i]? =some y:=by simpa using M
   rw[hu]at this;exact(aA this).symm
  subst ey;refine⟨_,rfl,wpAny_letOwnedTupleGo_enum S λh2 U l=>?_⟩;have L:n<s.heap.objs.size:=aG he;have hT2:h2.get? s.heap.objs.size=some { cls:=.type "tuple",data:=.seq #[.int ((i+1:Nat):Int) tk,y] }:=l.extBut _ _ (bq L) hT;refine⟨.ref s.heap.objs.size,upd H s.heap.objs.size (.tup [.int ((i+1:Nat):Int),x]),?_,rfl,⟨s.heap.objs.size,x,λys M=>by rw[I.sq_inj M D];exact C,I.hok.fresh (ar _),rfl,rfl⟩,⟨⟨_,by simpa using U⟩,?_,ne⟩,λb f=>?_⟩
  ·refine I.spun (fp:=[n,it]) (t':=tk+1) (λb o f r=>?_) hf (ar _) ?_
   ·exact l.extBut _ _ (λz=>f (by simp[z])) (hk b o (λz=>f (by simp[z])) (λz=>f (by simp[z])) r)
   ·exact⟨by show 2<=sizeLine;decide,[.int ((i+1:Nat):Int) tk,y],.cons ⟨tk,rfl⟩ (.cons ru .nil),_,hT2,⟨rfl,rfl⟩,0,rfl⟩
  ·exact Q.2.1.to λo r=>l.extBut _ _ (λz=>ne z.symm) r
  ·have bn:b≠s.heap.objs.size:=λz=>by
    rcases cA.mp f with q|q
    ·exact absurd L (by rw[<- q,z];exact aW _)
    ·obtain⟨oi,c,_⟩:=g.ob
     exact absurd (aG c) (by rw[<- cE.mp q,z];exact aW _)
   show upd H s.heap.objs.size _ b=none;rw[qh bn];exact(hf b f).1
 done:=by
  intro X hP hw hK hc i pins s σ H E I hf st T;subst hP hw hK;obtain⟨⟨old,he⟩,g,ne⟩:=st;obtain⟨xs,D,C⟩:=T;obtain⟨d,J,t,hz⟩:=I.sq D;have en':d.toArray.size=i:=by rw[aF,<- J.length];exact C
  obtain⟨oa,j,Z,na,e⟩:=t.ob;have A:a≠it:=λz=>by
   obtain⟨oi,c,Y,p⟩:=g.ob;rw[<- z,j]at c;cases c;rw[p]at e;cases e
  refine wpAny_pyNext_enum_endD (WC (k:=true) (items:=d.toArray) (I.ok.hd hc) A) he ⟨by rw[en'];exact g,t⟩ λh1 N=>⟨rfl,?_⟩
  exact I.spun0 (fp:=[n,it]) (t':=s.toks) (λb o f r=>N b o (λz=>f (by simp[z])) r) hf
 self:=λ_ _ _ _ _ ⟨⟨_,he⟩,_⟩ h=>wpAny_pyIter_enum he h
def IL {A:Around}{T:String}{kws:cu}
  (h:wpAny M A (spliced (backTo pos (starEach [e] env))) (λvs S=>wpAny M A (evalAll ((backToKw pos (keywordEach kws env)).map (·.2)))
   (λkvs b=>wpAny M A (call (.type T) vs (((backToKw pos (keywordEach kws env)).filterMap (·.1)).zip kvs)) Q E b) E S) E s)
  (he:backTo pos (starEach [e] env)=(false,eval e env)::backTo pos (starEach [] env))(H:(backTo pos (starEach [e] env)).any (·.1)=false)
  (l:(backToKw pos (keywordEach kws env)).all (·.1.isSome)=true)(w:(backToKw pos (keywordEach kws env)).any (·.1.isNone)=false):
  wpAny M A (callWith pos (.type T) [] (backTo pos (starEach [e] env)) (backToKw pos (keywordEach kws env))) Q E s:=by
 unfold callWith;have f:wpAny M A (evalArgs (.type T) true (backTo pos (starEach [e] env)) (backToKw pos (keywordEach kws env))) (λa S=>wpAny M A (call (.type T) ([]++a.pos) a.kw) Q E S) E s:=by
  rw[he]at h ⊢;exact evalArgs_kwB l h
 refine cy (wpAny_holding (wpAny_mono f (λa S c=>cy (wpAny_standAt ?_)) λ_ _ x=>x));simp only[H,w,Bool.or_false];refine cy (cz ?_);exact cy (wpAny_mono c (λr b d=>cy (wpAny_holding (wpAny_point (cz d)))) λ_ _ x=>x)
section
variable {a b:Expr}{m:Ev}
def EO {w:W}{k:Key}{K:Frag}(q:RV K φ H w v)(e:QD w=some k):v=kV k:=by
 cases w with
 |int i=>cases e;exact q|_=>cases e
def fO (K:Frag)(t:TA):TI:=λσ H R=>t σ H λvs H1=>∃p xs,vs=[.ref p]/\yP true K H1 p xs/\R (N1 K p) H1
def DK {C kp:Pos}{t:TA}(n:Gl X "enumerate")(hm:X.mg "enumerate"=none)(v:PA X [a] t)(d:starEach [a] X.env=(false,eval a X.env)::starEach [] X.env):
  PI X (.Tuple elts kk tpos) (.Call (.Name "enumerate" p) [a] [⟨some "start",.Constant (.int 1) j C,kp⟩] pos) (fO X.K t):=by
 intro pins s σ H R I h;refine wpAny_Call_Name_kw (Zg I n hm boot_enumerate ?_ (by decide) (by decide))
 refine IL (zU (v pos pins s σ H _ I h) λus s1 ⟨vs,H1,i,f,Q⟩=>kwAll_cons (wpAny_Constant_int (kwAll_nil ?_))) (by rw[d];rfl) (by rw[d];rfl) rfl rfl
 obtain⟨p,xs,rfl,l,q⟩:=Q;obtain⟨u,rfl,r⟩:=f.one;cases r;have i:=i.tok (s1.toks+1);obtain⟨g,x,sq,y⟩:=i.sq l;refine Fw (show Heap.IsList _ _ _ from sq) λh' e w E=>wpAny_pyIter_enum e ?_
 refine⟨s1.heap.objs.size+1,[s1.heap.objs.size+1,s1.heap.objs.size],_,_,H1,rfl,i.kept (t':=s1.toks+1) E,Fb p _ _,⟨⟨_,by simpa using e⟩,w,Nat.succ_ne_self _⟩,λb o=>?_,q⟩
 have c:s1.heap.objs.size<=b:=by
  rcases cA.mp o with z|z
  ·rw[z];exact le_succ _
  ·rw[cE.mp z];exact ar _
 exact i.fpOk c (i.hok.fresh c)
def Jc (w:W)(n:Nat):jH:=⟨λA i=>match zP w A with
 |some ws=>atEnd ws i λx=>.tup [.int ((i+1:Nat):Int),x]|none=>none,n⟩
def Gi (m:Ev):Ei:=λρ A=>(m ρ A).bind λw A1=>match w,zP w A1 with
 |.ref n,some ws=>.ok (Jc w ws.length) A1|_,_=>.bad
def G7 (mk M:Ev):Ev:=λρ A=>(mk ρ (A++[.dct []])).bind λx A1=>(M ρ A1).bind λy A2=>match QD x,A2[A.length]? with
 |some k,some (.dct [])=>.ok (.ref A.length) (A2.set A.length (.dct [(k,y)]))|_,_=>.bad
end
def Zm (A:Hx):List W->Option (List (Nat×List W))
 |[]=>some []|.ref k::us=>match A[k]? with
  |some (.lst ws)=>if qS ws then(Zm A us).map ((k,ws)::·) else none|_=>none
 |_::_=>none
noncomputable def yH (n m:Nat):O:=.lst ((List.range m).map λi=>W.ref (n+i))
def we (f:Fn):Fn:=λus A=>if qS us then(match f us [] with
 |.ok (.ref n) A1=>(match A1[n]? with
  |some (.lst rs)=>(match Zm A1 rs with
   |some ps=>if (ps.map (·.1)).Nodup then .ok (.ref (A.length+ps.length)) (A++ps.map (λp=>O.lst p.2)++[yH A.length ps.length]) else .bad|none=>.bad)
  |_=>.bad)
 |_=>.bad) else .bad
section
variable {K:Frag}{φ1:bZ}{H1:Hp}
theorem PC:∀{us:List W}{ps:List (Nat×List W)},Zm A us=some ps->us=ps.map (λp=>W.ref p.1)/\∀p∈ps,A[p.1]? =some (.lst p.2)/\qS p.2=true
 |[],_,h=>by cases h;exact⟨rfl,λp H=>by cases H⟩|u::us,ps,h=>by
  cases u with
  |ref k=>
   unfold Zm at h;cases e:A[k]? with
   |none=>rw[e]at h;cases h|some o=>cases o with
    |lst ws=>
     rw[e]at h;dsimp only at h
     by_cases hn:qS ws=true
     ·rw[ag hn]at h
      cases E:Zm A us with
      |none=>rw[E]at h;cases h|some r=>
       rw[E]at h;cases h;obtain⟨a1,a2⟩:=PC E;refine⟨by rw[a1];rfl,λp H=>?_⟩
       rcases cA.mp H with rfl|H
       ·exact⟨e,hn⟩
       ·exact a2 p H
     ·rw[aj hn]at h;cases h
    |_=>rw[e]at h;cases h
  |_=>cases h
theorem zI.more (s:zI K φ1 A1 H1):∀(ps:List (Nat×List W)){φ:bZ}{A:Hx},(∀p∈ps,A1[p.1]? =some (.lst p.2)/\qS p.2=true)->(ps.map (·.1)).Nodup->zI K φ A H1->
  (∀p∈ps,∀a,φ1[p.1]? =some a->∀(j:Nat)(q:O),φ[j]? =some a->A[j]? =some q->q.mut=false)->
  ∃as:bZ,as.length=ps.length/\(∀i,i<ps.length->φ1[(ps.getD i (0,[])).1]? =as[i]?)/\zI K (φ++as) (A++ps.map λp=>O.lst p.2) H1
 |[],φ,A,_,_,S,_=>⟨[],rfl,λi d=>absurd d (not_lt_zero _),by simpa using S⟩|p::ps,φ,A,c,nd,S,fr=>by
  obtain⟨n,w⟩:=c p (ax ..);obtain⟨a,f,r⟩:=s.ob _ _ n;obtain⟨u,v,_⟩:=r.there rfl;rw[aL,List.nodup_cons]at nd;have y:=S.trackN v (λk q e E=>fr p (ax ..) a f k q e E) (o:=.lst p.2) (r.nrL w);obtain⟨as,l,d,x⟩:=zI.more s ps (λq H=>c q (au _ H)) nd.2 y (λq H b t j o e E=>by
   by_cases g:j < φ.length
   ·rw[ah g]at e
    rw[ah (by rw[<- S.len];exact g)]at E
    exact fr q (au _ H) b t j o e E
   ·have lt:=(cB.mp e).1
    rw[ay,aU]at lt;obtain rfl:j=φ.length:=by omega
    rw[aq (ar _)]at e;simp at e;subst e
    have:=s.inj _ _ _ _ _ f t n (c q (au _ H)).1 rfl rfl
    exact absurd (cD.mpr ⟨q,H,this.symm⟩) nd.1)
  refine⟨a::as,by simp[l],λi h=>?_,by simpa using x⟩
  cases i with
  |zero=>exact f|succ i=>simpa using d i (by simpa using h)
def Le.news {as:bZ}(l:Le K [] H φ1 H1)(h:∀a∈as,H a=none):Le K φ H (φ++as) H1 where
 ex:=λn a e=>by
  have:=(cB.mp e).1
  rw[ah this];exact e
 tp:=l.tp
 fr:=λa o e _=>l.fr a o e λn e=>by simp at e
 nw:=λn a e=>by
  by_cases hn:n < φ.length
  ·rw[ah hn]at e;exact .inl e
  ·rw[aq (by omega)]at e
   exact .inr (h a (bB e))
 st:=l.st
 fz:=l.fz
theorem Oe {m:Nat}:∀{ps:List (Nat×List W)}{as:bZ}{vs:List V}{ψ:bZ},as.length=ps.length->(∀i,i<ps.length->φ1[(ps.getD i (0,[])).1]? =as[i]?)->zy K φ1 H1 (ps.map λp=>W.ref p.1) vs->(∀i,i<as.length->ψ[m+i]? =as[i]?)->zy K ψ H1 ((List.range' m as.length).map λi=>W.ref i) vs
 |[],[],_,_,_,_,h,_=>h|[],_::_,_,_,l,_,_,_=>by cases l|_::_,[],_,_,l,_,_,_=>by cases l|p::ps,a::as,_,ψ,l,hi,⟨v,r,e,⟨b,c,E⟩,t⟩,H=>by
  subst e c;have h0:φ1[p.1]? =some a:=hi 0 (zero_lt_succ _);rw[h0]at E;cases E;refine⟨.ref a,r,rfl,⟨a,rfl,H 0 (zero_lt_succ _)⟩,?_⟩;exact Oe (m:=m+1) (by simpa using l) (λi h=>by simpa using hi (i+1) (by simpa using h)) t λi h=>by
   have:=H (i+1) (by simpa using h)
   rw[show m+(i+1)=m+1+i by omega]at this
   simpa using this
theorem zN.we {k:Nat}{f:Fn}(F:zN P w K mg base k x n f):zN P w K mg base k x n (we f):=by
 obtain⟨fa,fd,ps,F,a,b,c⟩:=F;refine⟨fa,fd,ps,F.imp λvs H Q E ⟨hl,φ,A,ws,S,r,q⟩=>?_,a,b,c⟩;unfold Mi.we at q
 by_cases hn:qS ws=true
 ·rw[ag hn]at q
  refine⟨hl,[],[],ws,zI.none,r.nrm (λ_ _ t=>t) (λ_ _ _ t=>t) hn,?_⟩;cases hf:f ws [] with
  |ok w A1=>
   rw[hf]at q;intro C H1 v U Z q1;cases w with
   |ref m=>
    dsimp only at q;cases hm:A1[m]? with
    |none=>rw[hm]at q;exact q.elim|some o=>cases o with
     |lst rs=>
      rw[hm]at q;dsimp only at q;cases hi:Zm A1 rs with
      |none=>rw[hi]at q;exact q.elim|some qs=>
       rw[hi]at q;dsimp only at q
       by_cases nd:(qs.map (·.1)).Nodup
       ·rw[ag nd]at q
        obtain⟨er,M⟩:=PC hi;obtain⟨la,kk⟩:=U.apart (φ:=φ);have new:∀(j:Nat) b,C[j]? =some b->H b=none:=λj b e=>by
         rcases U.nw j b e with e|e
         ·simp at e
         ·exact e
        have old:∀b,H b=none->∀(j:Nat)(o:O),φ[j]? =some b->A[j]? =some o->o.mut=false:=λb h0 j o g u=>by
         cases hm:o.mut with
         |false=>rfl|true=>
          obtain⟨b',d,r⟩:=S.ob j o u;rw[g]at d;cases d;obtain⟨z,hz,_⟩:=r.there hm;rw[h0]at hz;cases hz
        obtain⟨as,s,J,S2⟩:=zI.more Z qs M nd (S.frame kk la) (λp D b eb j o g u=>old b (new _ b eb) j o g u);obtain⟨B,N,T,hv,rv⟩:=Z.ob m _ hm;obtain⟨a2,rfl,L⟩:=q1;rw[N]at L;cases L;rw[er]at rv;have I:∀b∈as,∃p∈qs,C[p.1]? =some b:=λb l=>by
         obtain⟨i,h1,rfl⟩:=bo l;have X:i<qs.length:=by omega
         have:=J i X
         rw[aa h1,ae,aa X]at this;exact⟨qs[i],aP X,this⟩
        have ho:OR K (φ++as++[B]) H1 B (yH A.length qs.length):=by
         refine⟨T,hv,?_⟩
         have:=Oe (K:=K) (H1:=H1) (m:=A.length) (ψ:=φ++as++[B]) s J rv λi h=>by
          rw[aN,aq (by rw[S.len];omega),S.len,ah (by omega)]
          congr 1
          omega
         rw[s]at this;rw[List.range'_eq_map_range,aO]at this;exact this
        have S3:=S2.trackN hv (λj o g u=>by
         by_cases hj:j < φ.length
         ·rw[ah hj]at g
          rw[ah (by rw[<- S.len];exact hj)]at u
          exact old _ (new _ _ N) j o g u
         ·rw[aq (by omega)]at g
          obtain⟨p,D,Y⟩:=I B (bB g);have hh:=Z.inj _ _ _ _ _ Y N (M p D).1 hm rfl rfl;have d:=(M p D).1;rw[hh,hm]at d;injection d with d
          injection d with d
          have nn:=(M p D).2;rw[<- d,er]at nn;cases qs with
          |nil=>cases D|cons _ _=>cases nn) ho
        refine q (φ++as++[B]) H1 _ ?_ S3 ⟨B,rfl,?_⟩
        ·rw[aN]
         refine U.news λb l=>?_;rcases cG.mp l with l|l
         ·obtain⟨p,_,Y⟩:=I b l
          exact new _ b Y
         ·rw[cE.mp l];exact new _ _ N
        ·rw[<- s,<- S.len,<- ay];simp
       ·rw[aj nd]at q;exact q.elim
     |_=>rw[hm]at q;exact q.elim
   |_=>exact q.elim
  |exc y A1=>rw[hf]at q;exact q.elim|bad=>rw[hf]at q;exact q.elim
 ·rw[aj hn]at q;exact q.elim
end
@[irreducible] noncomputable def G5 (X:Cx)(x:XR)(e:cg)(ms:List Ev):Prop:=Mi.SJ X x e ms
def O1:@G5=@Mi.SJ:=by
 funext X xr es ms
 unfold G5
 rfl
section
def yf:@zA=@Mi.SE/\@wM=@Mi.SA/\@yI=@Mi.ST/\@gv=@Mi.SW/\@ki=@Mi.SS/\@kJ=@Mi.KZ/\@kL=@Mi.SI/\@wI=@Mi.SG/\@Z3=@Mi.SF/\@gA=@Mi.SQ/\@gI=@Mi.KR/\@gz=@Mi.SM/\@G5=@Mi.SJ:=⟨Ge,Uc,VX,VM,Ub,VI,V9,V2,VZ,V4,VG,VR,O1⟩
def X7 {g:Heap}{E:cg}{k:Nat}{f:Fn}(o:gK X g xr)(F:kS X.prog X.w X.K X.mg X.base k x n f)(i:jq k X.A)(B:wM X xr (e::E) mr)(j:Zq mr n:=by repeat' (first|exact zF|refine zp ?_))(t:Gl X x:=by rfl)
  (c:(x==("__debug__":Str))=false:=by decide)(he:starEach (e::E) X.env=(false,eval e X.env)::starEach E X.env:=by rfl)(l:(backTo pos (starEach E X.env)).any (·.1)=false:=by rfl):
  zA X xr (.Call (.Name x p) (e::E) [] pos) (zH f mr):=by
 try simp only[yf]at*
 obtain⟨N,fd,ps,F,hm,s,u⟩:=F;refine PE.imp (OT F i t hm s u .nil o.passes B c he l) λσ H Q ⟨φ,A,ρ,S,re,h⟩=>?_;have h':=zZ.mp h;refine⟨φ,A,ρ,S,re,?_⟩;cases r:mr ρ A with
 |ok ws A1=>
  rw[r]at h';intro b H1 vs L I q;have v:vs.length=n:=by rw[<- q.length];exact j ρ A ws A1 r
  rw[bH];refine⟨v,b,A1,ws,I,q,qp h' (λ_ _ z=>z.mono L) λy A2 z a J d D M C=>?_⟩;exact⟨y,M,rfl,C,z a J (L.trans d) D⟩
 |exc y A1=>rw[r]at h';exact h'|bad=>rw[r]at h';exact h'
def BF {m:Ev}(h:zA X.nox yQ e m):zA X xr e λρ A=>(m ρ A).nox:=by
 try simp only[yf]at*
 refine PE.imp (PE.nox h) λσ H Q ⟨φ,A,ρ,S,re,q⟩=>⟨φ,A,ρ,S,re,?_⟩;cases E:m ρ A with
 |ok w A1=>(try dsimp only at q);rw[E]at q;exact q|exc y A1=>(try dsimp only at q);rw[E]at q;exact q.elim|bad=>(try dsimp only at q);rw[E]at q;exact q.elim
def Ov {m:Ev}(h:yI X.nox yQ e m):yI X xr e λρ A=>(m ρ A).nox:=by
 try simp only[yf]at*
 refine PT.imp (PT.nox h) λσ H Q ⟨φ,A,ρ,S,re,q⟩=>⟨φ,A,ρ,S,re,?_⟩;cases E:m ρ A with
 |ok w A1=>(try dsimp only at q);rw[E]at q;exact q|exc y A1=>(try dsimp only at q);rw[E]at q;exact q.elim|bad=>(try dsimp only at q);rw[E]at q;exact q.elim
def DU {m1:Ex}{s:cx}(h:kJ X.nox yQ s m1):kJ X xr s λρ A=>(m1 ρ A).nox:=by
 try simp only[yf]at*
 refine yT.imp (yT.nox h) λD σ H ⟨φ,A,ρ,S,re,q⟩=>⟨φ,A,ρ,S,re,?_⟩;cases e:m1 ρ A with
 |ok w A1=>(try dsimp only at q);rw[e]at q;exact q|exc y A1=>(try dsimp only at q);rw[e]at q;exact q.elim|bad=>(try dsimp only at q);rw[e]at q;exact q.elim
def Rl {g:Heap}{E:cg}{top:Str}{np:Pos}(o:gK X g xr)(c:Va X.K top x)(d:wM X xr (e::E) mr)(l:Zq mr n:=by repeat' (first|exact zF|refine zp ?_))(hn:n<=sizeLine:=by decide)(a:Gl X x:=by rfl)(h:X.calm=true:=by rfl)
  (b:(x==("__debug__":Str))=false:=by decide)(he:starEach (e::E) X.env=(false,eval e X.env)::starEach E X.env:=by rfl)(H:(backTo cpos (starEach E X.env)).any (·.1)=false:=by rfl):
  ki X xr (.Raise (some (.Call (.Name x np) (e::E) [] cpos)) none pos) (Gb x mr):=by
 try simp only[yf]at*
 exact Dq o c.at_ c.exc PySem.F.excBase_ValueError d l hn a h b he H
def Mc {K:Frag}{st:Stmt}{k:Nat}{m:Ex}(F:wL K x x st f fd)(hm:mg x=some (.ref f))(S:jc N ps (qo st))
  (j:∀(kV doc pm:Value)(an:cw)(c ct:Value)(us:bY),us.length=ps.length->bindArgs (fnOf x x (Qm st) (wz st) (qo st) .none kV doc pm an c ct) ⟨us,[]⟩=pure (ps.zip us))
  (a:∀(c:Value)(A:Around)(outer:cn)(s:Shared)(H:Hp)(E:XK),jq k (A.deeper (envOfC x (qo st) s.heap.objs.size f c))->
   gK (wX (gx P w) P w K mg base N x (qo st) f c A outer s H E) s.heap (gW K E)->kJ (wX (gx P w) P w K mg base N x (qo st) f c A outer s H E) (gW K E) (wz st) m):
  kS P w K mg base (k+1) x ps.length (ZT N.length m):=by
 try simp only[yf]at*
 refine⟨f,fd,ps,?_,hm,F.kp,F.binds j⟩;obtain⟨v,u,kV,doc,pm,an,c,ct,o,rfl,lk,d⟩:=F.ex;refine UB lk d S (λvs H Q E h=>h.len) λA outer s H vs Q E i ⟨z,φ,A1,ws,p,r,h⟩=>⟨_,a c A outer s H E i fg,?_⟩;refine⟨φ,A1,ws.map some++List.replicate (N.length-ws.length) none,p,RE.start r,?_⟩;have h':=zZ.mp h;show R.post _ (FB K φ H _) _;cases e:m (ws.map some++List.replicate (N.length-ws.length) none) A1 with
 |ok n A2=>
  rw[e]at h';cases n with
  |rt w=>exact h'|nx ρ=>exactλb t g l q _=>h' b t .non l q rfl|bk ρ=>exact h'.elim|ct ρ=>exact h'.elim
 |exc y A2=>rw[e]at h';exact h'|bad=>rw[e]at h';exact h'.elim
def C6 {L:Addr}{l:Nat}{n:Str}{y:Str}{Z:Str}{cs:cc}{PG:Nat->Obj->Addr->Obj->List V->Prop}{lam:Nat->Fn}{U:bY}{newD:String}{np:Pos}{cp:Pos}{ep:Pos}{dp:Pos}{yp:Pos}{J:Pos}{ap:Pos}{hp:Pos}(hL:∀k,Jj X.prog X.w X.K X.mg X.base kk (PG k) (lam k))(hr:jq kk X.A)(hst:X.stack=X.env::X.outer)(hFr:X.env.frame=some L)(hD:kf X.K Z (.ref D))(exD:Mi.gM X.K D U newD=true)(hbD:U.contains (.type "BaseException")=true)
  (hcs:∀c,cs.contains c=true->∀C,kf X.K c (.ref C)->∃B f,Mi.gM X.K C B f=true/\Jm X.K C D=true)
  (hN:X.N.Nodup)(hi:X.N[i]? =some x)(hx:X.env.scope.names.lookup x=some .local)(hl:X.N[l]? =some n)(hn:X.env.scope.names.lookup n=some .local)(hj:X.N[j]? =some y)(hy:X.env.scope.names.lookup y=some .local)
  (hg:Gl X Z)(hs1:swapsWith (.Call (.Name x np) [] [] cp) none ep.line X.env=pure false:=by rfl)(hs2:swapsWith (.Name n J) (some (.Name y yp)) ap.line X.env=pure false:=by rfl)
  (hdx:(x==("__debug__":Str))=false:=by decide)(hdn:(n==("__debug__":Str))=false:=by decide)(hdD:(Z==("__debug__":Str))=false:=by decide):
  ki X xr (.Try [.Expr (.Call (.Name x np) [] [] cp) ep] [.ExceptHandler (some (.Name Z dp)) (some n) [.Assign [.Name y yp] (.Name n J) ap] hp] [] [] pos) (KC i j l cs PG lam):=by
 try simp only[yf]at*
 intro pins s σ H D0 I ⟨φ,A,ρ,S,re,h⟩;unfold KC GL at h;cases ei:ρ[i]? with
 |none=>rw[ei]at h;exact h.elim|some ow=>
  cases ow with
  |none=>rw[ei]at h;exact h.elim|some w=>
   rw[ei]at h;cases w with
   |clo k ws P=>
    dsimp only at h
    by_cases hP:P=PG k
    ·rw[ag hP]at h
     subst hP;obtain⟨v,hv,a,ob,u,c,oc,uc,vs,rfl,h1,h2,hp',rvs⟩:=re.get i _ ei;obtain⟨⟨fd0,hfd⟩,fd,F,hb⟩:=hL k a ob u c oc uc vs hp';have ho:s.heap.get? a=some ob:=(show jd X.prog X.w H s.heap a (.frz ob u) from I.hok a _ h1).1
     refine AO (i:=l) (L:=L) (k:=zc9 X.K φ H ρ j l D0)
      I hst hFr hD exD hbD hN hl (.inl hn) ?body ?t hg hdD (.inr hn)
     case body=>
      refine wpAny_execs_cons (wpAny_Expr_any ?_ I.quiet hs1);obtain⟨m,hns,Q⟩:=I.loc;obtain⟨u',r',lk⟩:=Q i x (.ref a) hi hv (.inl hx);obtain rfl:u'=Value.ref a:=r';have hm:m x=some (.ref a):=by
       rcases lk with ⟨_,e⟩|⟨q|q,_⟩
       ·exact e
       ·rw[show X.env.kindOf x=some .local from hx]at q;cases q
       ·rw[show X.env.kindOf x=some .local from hx]at q;cases q
      refine wpAny_Call_Name_kw (wpAny_Name (wpAny_loadName_local I.ok.kind hx hns hm ?_) hdx);have hK:Frag.In [(a,ob)] s.heap:=λb o e=>by
       rw[lookup_cons]at e
       by_cases hb:b=a
       ·subst hb;simp at e;subst e;exact ho
       ·have:(b==a)=false:=by simpa using hb
        rw[this]at e;cases e
      have hkp:keepIn [(a,ob)] (.ref a)=true:=by
       unfold keepIn;obtain⟨o1,o2,o3,o4⟩:=ob;cases (show o3=_ from hfd)
       simp[lookup_cons]
      refine PySem.W.callWith_K0 (K:=[(a,ob)]) (first:=[]) hK hkp ?_;refine wpAny_call (codeAny_mono (F.run X.A X.stack s H ⟨[],[]⟩ [] [] (λ_ H1=>D0.nx σ H1)
       (zcP X.K φ H ρ j l D0 cs)
       hr I.env0 (hb s) .nil ⟨rfl,h1,h2,φ,A,ws,S,rvs,?_⟩) λr s' p=>?_)
      ·cases er:lam k ws A with
       |ok w1 A1=>
        rw[er]at h;exactλd H' v' z Y _=>h d H' σ z Y (re.mono z)
       |exc E A1=>
        rw[er]at h;dsimp only at h
        by_cases T:cs.contains E=true
        ·rw[ag T]at h
         exactλd H' z Y Ca g=>⟨E,Ca,rfl,g,T,d,A1,z,Y,h⟩
        ·rw[aj T]at h;exact h.elim
       |bad=>rw[er]at h;exact h.elim
      ·cases r with
       |error e=>
        unfold CR at p;dsimp only at p;have un:∀b o,s.heap.get? b=some o->∃o',s'.heap.get? b=some o':=by
         obtain⟨_,_,_,_,_,_,un,_⟩:=p;exactλb o e=>un.there b o e (by simp)
        obtain⟨ea,C,H',rfl,I',ly,tr,E,Ca,ec,g,T,φ1,A1,l1,S1,hn1⟩:=Pa I p s.heap λb o e=>⟨o,e⟩;cases ec;obtain⟨B,f,exC,up⟩:=hcs E T C g;exact⟨ea,C,H',B,f,rfl,I',ly,tr,un,exC,up,λoe hoe M=>⟨E,φ1,A1,l1.trans (Le.new M),S1.lay M,⟨ea,oe,.own 0,C,rfl,jD,hoe,g⟩,hn1⟩⟩
       |ok fl=>
        cases fl with
        |ret u1=>
         obtain⟨v1,H1,I1,_,q1⟩:=I.after p;exact wpAny_execs_nil ⟨rfl,σ,H1,I1,q1⟩
        |next=>exact False.elim p|brk=>exact False.elim p|cont=>exact False.elim p
     case t=>
      rintro ea C H2 s2 I2 ⟨E,d,A',z,Y,rx,hn'⟩ E'
      refine Ff (i:=l) (j:=j) I2 hN hl hj hn (.inl hy) (λs' I'=>?_) hs2 (.inr hy) hdn;exact⟨_,H2,I',hn' d H2 _ z Y ((((re.mono z).set rx).set rx).unset)⟩
    ·rw[aj hP]at h;exact h.elim
   |_=>exact h.elim
def k8 {m:Ev}{P:Pos}{f:Str->Option Bool}{C:Addr}(c:Km X.K f (.ref C))(i:kf X.K x (.ref C))(hm:X.mg "isinstance"=none)(j:zA X xr e m)(g:Gl X "isinstance":=by rfl)(a:Gl X x:=by rfl)(hd:(x==("__debug__":Str))=false:=by decide)
  (b:starEach [e,.Name x P] X.env=(false,eval e X.env)::starEach [.Name x P] X.env:=by rfl)(l:(backTo pos (starEach [.Name x P] X.env)).any (·.1)=false:=by rfl):
  zA X xr (.Call (.Name "isinstance" p) [e,.Name x P] [] pos) (jf f m):=by
 try simp only[yf]at*
 have d:PE X (.Name x P) (tC (.ref C)):=λpins s σ H Q I h=>Y2 I a (a8 I.mod.kin I.mod.glob i) ⟨.ref C,H,I,rfl,h⟩ hd;exact PE.imp (ZK (PX (cv:=.ref C) c λu r=>r) g hm (by rfl) (jk j (jk d jZ) b) (by decide) (by decide) b l) (jf.read λσ H Q h=>h)
def Df {m:Ev}{P:Pos}{f:Str->Option Bool}{T:String}(d:Km X.K f (.type T))(hm:X.mg "isinstance"=none)(a:X.mg x=none)(i:bootBuiltins x=some (.type T))(j:zA X xr e m)(g:Gl X "isinstance":=by rfl)(b:Gl X x:=by rfl)(hn:x ≠ "__name__":=by decide)(hd:(x==("__debug__":Str))=false:=by decide)
  (c:starEach [e,.Name x P] X.env=(false,eval e X.env)::starEach [.Name x P] X.env:=by rfl)(l:(backTo pos (starEach [.Name x P] X.env)).any (·.1)=false:=by rfl):
  zA X xr (.Call (.Name "isinstance" p) [e,.Name x P] [] pos) (jf f m):=by
 try simp only[yf]at*
 exact PE.imp (ZK (PX (cv:=.ty T) d λu r=>r) g hm (by rfl) (jk j (jk (W3 b a i (v:=.ty T) rfl hn hd) jZ) c) (by decide) (by decide) c l) (jf.read λσ H Q h=>h)
def P1 {k:Nat}{q:Str}{t:Lm}(d:ls[k]? =some t)(L:Gv X.N X.env.scope t=true)(B:BMain X.mg X.base)(a:X.env.code=.ref c)(C:CodeHd X.base c Pt)(g:X.env.qual ++ "<lambda>"=q)(f:defaultsOf t.params X.env=([],[])):
  zA X xr (.Lambda t.params t.body t.scope pos) (gJ n q Pt k (w8 X.env q ls k)):=by
 try simp only[yf]at*
 intro pins s σ H Q I h;rw[ft d]at h;exact fm B a C (RA λy b e=>I.ok.has _ ((Ot L).free y b e)) g f pins s σ H Q I h
def fP {K:Frag}{q:Str}{st:Stmt}{k:Nat}{m:jP->Ex}(F:wL K x x st f fd)(hn:nsIn K mainGlobals x=some (some (.ref f)))(t:tabIn K x=some (c,Pt))(S:jc N ps (qo st))
  (a:∀(A:Around)(outer:cn)(s:Shared)(H:Hp)(E:XK),jq k (A.deeper (envOfC x (qo st) s.heap.objs.size f (.ref c)))->
   kJ (wX gr P w K mg base N x (qo st) f (.ref c) A outer s H E).nox yQ (wz st) (m (w8 (envOfC x (qo st) s.heap.objs.size f (.ref c)) q ls))):
  yY P w K mg base gr (k+1) f fd ps (spT K ps.length λPF=>qU N.length (m PF)):=by
 try simp only[yf]at*
 obtain⟨B,z,kV,doc,pm,an,C,ct,o,rfl,lk,d⟩:=F.ex;have v:C=.ref c:=DD hn lk t;subst v;refine UB lk d S (λvs H Q E h=>h.len) λA outer s H vs Q E i ⟨D,φ,A1,ws,n,r,h⟩=>⟨_,yT.nox (a A outer s H E i),?_⟩;refine⟨φ,A1,ws.map some++List.replicate (N.length-ws.length) none,n,RE.start r,?_⟩;have h':=zZ.mp (h (w8 (envOfC x (qo st) s.heap.objs.size f (.ref c)) q ls));show R.post _ (FB K φ H _) _;cases e:m (w8 (envOfC x (qo st) s.heap.objs.size f (.ref c)) q ls) (ws.map some++List.replicate (N.length-ws.length) none) A1 with
 |ok j A2=>
  rw[e]at h';cases j with
  |rt w=>exact h'|nx ρ=>exactλb u g l p _=>h' b u .non l p rfl|bk ρ=>exact h'.elim|ct ρ=>exact h'.elim
 |exc y A2=>rw[e]at h';exact h'.elim|bad=>rw[e]at h';exact h'.elim
def Ba {m:Ev}{b:Pos}{P:Pos}{pt:Pos}{x1:Str}{x2:Str}{kt:Nat}(t T:Ty)(hm:X.mg "isinstance"=none)(o:X.mg x1=none)(n:X.mg x2=none)(g:bootBuiltins x1=some (.type t.nm))(f:bootBuiltins x2=some (.type T.nm))(B:zA X xr e m)(z:Gl X "isinstance":=by rfl)(r:Gl X x1:=by rfl)(q:Gl X x2:=by rfl)
  (j:x1 ≠ "__name__":=by decide)(s:(x1==("__debug__":Str))=false:=by decide)(i:x2 ≠ "__name__":=by decide)(hd2:(x2==("__debug__":Str))=false:=by decide)
  (h0:starEach [.Name x1 b,.Name x2 P] X.env=(false,eval (.Name x1 b) X.env)::starEach [.Name x2 P] X.env:=by rfl)(u:starEach [.Name x2 P] X.env=(false,eval (.Name x2 P) X.env)::starEach [] X.env:=by rfl)
  (a:starEach [e,.Tuple [.Name x1 b,.Name x2 P] kt pt] X.env=(false,eval e X.env)::starEach [.Tuple [.Name x1 b,.Name x2 P] kt pt] X.env:=by rfl)(C:(backTo pos (starEach [.Tuple [.Name x1 b,.Name x2 P] kt pt] X.env)).any (·.1)=false:=by rfl):
  zA X xr (.Call (.Name "isinstance" p) [e,.Tuple [.Name x1 b,.Name x2 P] kt pt] [] pos) (GI t T m):=by
 try simp only[yf]at*
 exact PE.imp (ZK Dn z hm (by rfl) (jk B (jk (Nk (jk (W3 r o g (v:=.ty t.nm) rfl j s) (jk (W3 q n f (v:=.ty T.nm) rfl i hd2) jZ u) h0)) jZ) a) (by decide) (by decide) a C) λσ H Q ⟨φ,A,ρ,S,re,h⟩=>by
   refine tM.go S re (zZ.mp h) λw A1 d H1 v a L x y=>?_;cases E:yk w A1 with
   |none=>rw[E]at a;exact a.elim|some t'=>
    rw[E]at a;refine⟨by show 2<=sizeLine;decide,λl c=>⟨v,t',l,rfl,qM.of jD,?_,a d _ _ (L.trans (Le.new c)) (x.lay c) rfl⟩⟩
    exact PN (x.lay c) (y.mono (Le.new c)) E
def Oj {m:Ev}(he:zA X xr e m)(g:wI X tg tw)(f:swapsWithSole [tg] e pos.line X.env=pure false:=by rfl)(hw:swappedStores [tg] e X.env=pure none:=by rfl)(a:(assignEach [tg] X.env).map (·.2)=[assign tg X.env]:=by rfl):ki X xr (.Assign [tg] e pos) (QG m tw):=by
 try simp only[yf]at*
 exact PS.imp (Nh he g f hw a) λD σ H ⟨φ,A,ρ,S,re,h⟩=>by
   refine tM.go S re (zZ.mp h) λw A1 b H1 v a l s q=>?_;cases E:tw w ρ with
   |none=>rw[E]at a;exact a.elim|some d=>
    rw[E]at a;exact⟨b,A1,ρ,w,d,s,re.mono l,q,E,λc r=>a b H1 c l s r⟩
end
section
def RM {q:Str}{E:cg}{f0:Fn}{N:jP->Fn}(g:∀x,X.fn x=true)(hl:∀t∈ls,Jp X.prog X.w X.K X.mg j q t)(f:∀t∈ls,Yi X t)
  (hR:∀base PG,(∀k,Jj X.prog X.w X.K X.mg base (j+1) (PG k) (kx ls k))->zN X.prog X.w X.K X.mg base kk x n (N PG))(hF:∀PG us A,f0 us A=.bad∨N PG (us.map (Gp PG)) A=f0 us A)(hr:jq kk X.A)
  (ha:wM X yQ (e::E) mr)(hn:Zq mr n:=by repeat' (first|exact zF|refine zp ?_))(hg:Gl X x:=by rfl)(L:(x==("__debug__":Str))=false:=by decide)
  (he:starEach (e::E) X.env=(false,eval e X.env)::starEach E X.env:=by rfl)(C:(backTo pos (starEach E X.env)).any (·.1)=false:=by rfl):
  zA X yQ (.Call (.Name x p) (e::E) [] pos) (Qs ls (w8 X.env q ls) f0 mr):=by
 try simp only[yf]at*
 intro pins s σ H Q I ⟨φ,A,ρ,S,re,h⟩;obtain⟨fa,fd,ps,F,hm,hk,hb⟩:=hR _ _ (Ob I g hl f).2;refine wpAny_Call_Name_kw (Y2 I hg hm ?_ L);have h':=zZ.mp h;refine callWith_K (h₀:=X.base) I.ok.mod.kin hk (zU (ha pos pins s σ H (λvs H1=>∃a A1 ws us,Le X.K φ H a H1/\zI X.K a A1 H1/\zy X.K a H1 ws vs/\ws.length=n/\Zj ls (w8 X.env q ls) ρ ws=some us/\(f0 us A1).post (PB X.K a H1 Q) (EB X.K a H1 yQ)) I ⟨φ,A,ρ,S,re,?_⟩) λus s1 ⟨vs,H1,o,Z,a,A1,ws,u,l,U,Y,B,hc,D⟩=>⟨o.kIn,?_⟩) he C
 ·cases i:mr ρ A with
  |ok ws A1=>
   rw[i]at h';intro a H1 vs l U q1;have h':(match Zj ls (w8 X.env q ls) ρ ws with|some us=>f0 us A1|none=>.bad).post (PB X.K φ H Q) (EB X.K φ H yQ):=h'
   cases T:Zj ls (w8 X.env q ls) ρ ws with
   |none=>rw[T]at h';exact h'.elim|some us=>
    rw[T]at h';refine⟨a,A1,ws,us,l,U,q1,hn ρ A ws A1 i,T,qp h' (λ_ _ z=>z.mono l) λy A2 z=>z.mono l⟩
  |exc y A1=>rw[i]at h';exact h'|bad=>rw[i]at h';exact h'
 ·obtain⟨e0,hL⟩:=Ob (q:=q) o g hl f
  obtain⟨fa',fd',P,F',d,hk',M⟩:=hR _ _ hL;rw[hm]at d;cases d;have b:KO X.K n (N (Yw X.env q ls σ)) vs H1 Q E0:=by
   refine⟨by rw[<- Y.length];exact B,a,A1,u.map (Gp (Yw X.env q ls σ)),U,Rv (re.mono l) hc Y,?_⟩
   rcases hF (Yw X.env q ls σ) u A1 with z|z
   ·rw[z]at D;exact D.elim
   ·rw[z]
    exact qp D (λ_ _ z=>z) λy A2 z v H2 l2 S2=>(z v H2 l2 S2).elim
  have J:=F'.len _ _ _ _ b;have hu:us.length=P.length:=by rw[<- Z.length];exact J
  refine wpAny_call (codeAny_mono (F'.run X.A X.stack s1 H1 ⟨[]++us,[]⟩ us vs Q E0 hr e0 ?_ Z b) λr s2 c=>?_)
  ·have:=M s1 us o.kIn (by rw[bH];exact hu)
   rw[bH]at this;exact this
  ·cases r with
   |error e=>exact False.elim c|ok fl=>
    cases fl with
    |ret u1=>exact o.after c|next=>exact False.elim c|brk=>exact False.elim c|cont=>exact False.elim c
end
def Er {a:Expr}{b:Expr}{ma:Ev}{mb:Ev}{k:Nat}{apos:Pos}(r:jq k X.A)(o:zA X xr a ma)(he:zA X xr b mb)(s:starEach [b] X.env=(false,eval b X.env)::starEach [] X.env:=by rfl)
  (e:attributeBase a "index" X.env (eval a X.env)=eval a X.env:=by rfl)
  (w:((backTo cpos (starEach [b] X.env)).all (λx=>!x.1)&&(backToKw cpos (keywordEach [] X.env)).all (λx=>x.1.isSome)
   && decide ([b].length+([]:cu).length+(if ([]:cu).isEmpty then 0 else 1)<30))=true:=by rfl)(h:(apos.endLine==cpos.line)=true:=by rfl):
  zA X xr (.Call (.Attribute a "index" apos) [b] [] cpos) (j9 Zf ma mb):=by
 try simp only[yf]at*
 exact UA PySem.F.slot_list_index PySem.F.type_list_index (Eo r.units) DP (λφ A H x y u v Q S i q p=>by
   unfold Zf at p;cases E:qm A 8 u with
   |none=>rw[E]at p;exact p.elim|some D=>
    cases g:qm A 8 v with
    |none=>
     rw[E,g]at p;cases D<;>exact p.elim
    |some d=>
     rw[E,g]at p;cases D with
     |list ds=>
      dsimp only at p;cases f:Zk (λz=>PyData.eqv z d) ds with
      |none=>rw[f]at p;exact p.elim|some j=>
       rw[f]at p;dsimp only at p
       by_cases c:j<1000000
       ·rw[ag c]at p
        exact⟨φ,A,u,v,y,d,ds,j,rfl,S,i,q,E,g,f,c,p φ H _ .refl S rfl⟩
       ·rw[aj c]at p;exact p.elim
     |_=>exact p.elim) o he s e w h
def Hj {m:Ev}{P pos':Pos}(B:X.calm=true)(hm:X.mg "sorted"=none)(d:X.mg "set"=none)(T:zA X xr e m)(N:Gl X "sorted":=by rfl)(g:Gl X "set":=by rfl)(y:starEach [e] X.env=(false,eval e X.env)::starEach [] X.env:=by rfl)
  (c:starEach [.Call (.Name "set" P) [e] [] pos'] X.env=(false,eval (.Call (.Name "set" P) [e] [] pos') X.env)::starEach [] X.env:=by rfl):
  zA X xr (.Call (.Name "sorted" p) [.Call (.Name "set" P) [e] [] pos'] [] pos) (WL m):=by
 try simp only[yf]at*
 exact PE.imp (ZK (IE B) N hm (by rfl) (jk (JL (Ew B) g d (by rfl) (jk T jZ y) (by decide) (by decide) y (by rfl)) jZ c) (by decide) (by decide) c (by rfl)) λσ H Q ⟨φ,A,ρ,S,re,h⟩=>by
   refine tM.go S re (zZ.mp h) λw A1 b H1 v a J t D=>?_;cases w with
   |ref n=>
    unfold Vh at a;dsimp only at a;cases E:A1[n]? with
    |none=>rw[E]at a;exact a.elim|some u=>cases u with
     |lst ws=>
      rw[E]at a;dsimp only at a;obtain⟨x,ys,rfl,Y,eH,C⟩:=t.lst D E;cases j:intsOf ws with
      |none=>rw[j]at a;exact a.elim|some is=>
       rw[j]at a;dsimp only at a;have Z:=YL j;subst Z;have ev:=zy.ints.mp C;subst ev;cases s:Qw is with
       |none=>rw[s]at a;exact a.elim|some vs=>
        rw[s]at a;dsimp only at a;obtain⟨e3,U⟩:=RW s;have q:H1 x=some (.lst (vs.map λ(v:Nat)=>V.int (v:Int))):=by rw[eH,e3,aO];rfl
        refine⟨x,vs,rfl,qW.of q,U,λl z=>⟨l,vs.foldl yM 0,rfl,jD,λI f=>?_⟩⟩;have ln:Le X.K b H1 b (upd H1 l (.ext λh=>yO h l (jO X.w) (vs.foldl yM 0))):=Le.new z;have S2:=t.lay (u:=.ext λh=>yO h l (jO X.w) (vs.foldl yM 0)) z;have r:∀(ψ:bZ)(G:Hp),zy X.K ψ G (((List.range 8).filter λi=>decide (i∈vs)).map λ(i:Nat)=>W.int (i:Int)) ((qe (vs.foldl yM 0)).map λ(v:Nat)=>V.int (v:Int)):=λψ G=>by
         rw[Eu];have e4:∀l:b9,zy X.K ψ G (l.map λ(i:Nat)=>W.int (i:Int)) (l.map λ(v:Nat)=>V.int (v:Int)):=λl=>by
          induction l with
          |nil=>rfl|cons i l M=>exact⟨_,_,rfl,rfl,M⟩
         exact e4 _
        obtain⟨L,S3⟩:=S2.alloc (o:=.lst (((List.range 8).filter λi=>decide (i∈vs)).map λ(i:Nat)=>W.int (i:Int))) f (u:=.lst ((qe (vs.foldl yM 0)).map λ(v:Nat)=>V.int (v:Int))) ⟨_,jD,r _ _⟩;exact a _ _ _ (J.trans (ln.trans L)) S3 ⟨I,rfl,by rw[<- t.len];simp⟩
     |_=>rw[E]at a;exact a.elim
   |_=>exact a.elim
def E8 {a:Expr}{b:Expr}{ma:Ev}{mb:Ev}(c:X.calm=true)(hm:X.mg "sum"=none)(e:zA X xr a ma)(d:zA X xr b mb)(H:Gl X "sum":=by rfl)(g:starEach [a,b] X.env=(false,eval a X.env)::starEach [b] X.env:=by rfl)
  (f:starEach [b] X.env=(false,eval b X.env)::starEach [] X.env:=by rfl)(h:(backTo pos (starEach [b] X.env)).any (·.1)=false:=by rfl):
  zA X xr (.Call (.Name "sum" p) [a,b] [] pos) (zi ZR ma mb):=by
 try simp only[yf]at*
 exact UC (Ey c) B8 Cb hm (by rfl) e d H (by decide) (by decide) g f h
def Fg {a:Expr}{b:Expr}{ma:Ev}{mb:Ev}{P pos':Pos}(I:X.calm=true)(hm:X.mg "list"=none)(o:X.mg "range"=none)(M:zA X xr a ma)(J:zA X xr b mb)(E:Gl X "list":=by rfl)(q:Gl X "range":=by rfl)(s:starEach [a,b] X.env=[(false,eval a X.env),(false,eval b X.env)]:=by rfl)(d:starEach [b] X.env=[(false,eval b X.env)]:=by rfl)
  (g:starEach [.Call (.Name "range" P) [a,b] [] pos'] X.env=(false,eval (.Call (.Name "range" P) [a,b] [] pos') X.env)::starEach [] X.env:=by rfl):
  zA X xr (.Call (.Name "list" p) [.Call (.Name "range" P) [a,b] [] pos'] [] pos) (Y8 ma mb):=by
 try simp only[yf]at*
 exact PE.imp (JL (Hv I) E hm (by rfl) (jk (Du q o (jk M (jk J jZ (by rw[d];rfl)) (by rw[s,d])) s d) jZ g) (by decide) (by decide) g (by rfl)) λσ H Q ⟨φ,A,ρ,S,re,h⟩=>by
   refine tM.go S re (zZ.mp h) λw A1 t H1 v N L S1 B=>?_;refine tM.go S1 (re.mono L) (qp (zZ.mp N) (λ_ _ z=>z) λ_ _ z=>z.mono L) λu A2 c n v2 e C Z y=>?_;cases w with
   |int i=>
    obtain rfl:=B;cases u with
    |int j=>
     obtain rfl:=y;dsimp only at e
     by_cases f:(jI i&&(jI j&&decide ((j-i).toNat<=qa)))=true
     ·rw[ag f]at e
      rw[aw,aw,ak]at f;refine⟨i,j,rfl,λp r=>⟨p,i,j,rfl,jD,Qh f.1,Qh f.2.1,ZI f.2.2,λl D=>?_⟩⟩;have ln:Le X.K c n c (upd n p (.rng i j)):=Le.new r;have x:zy X.K c (upd n p (.rng i j)) ((List.range (j-i).toNat).map λ(k:Nat)=>W.int (i+k)) (Je i (j-i).toNat):=by
       have:=(zy.ints (K:=X.K) (φ:=c) (H:=upd n p (.rng i j)) (ns:=(List.range (j-i).toNat).map λ(k:Nat)=>(i+(k:Int))) (vs:=Je i (j-i).toNat)).mpr (by unfold Je;simp)
       rw[aO]at this;exact this
      obtain⟨Y,U,T⟩:=Zd (Z.lay r) D x;exact e _ _ _ (((L.trans C).trans ln).trans Y) U T
     ·rw[aj f]at e;exact e.elim
    |_=>exact e.elim
   |_=>exact e.elim
@[irreducible] noncomputable def Jx (X:Cx)(x:XR)(e:Option Expr)(p:Po):Prop:=Mi.SP X x e p
def fQ:@Jx=@Mi.SP:=by
 funext X xr e p
 unfold Jx
 rfl
def VN:@zA=@Mi.SE/\@wM=@Mi.SA/\@yI=@Mi.ST/\@gv=@Mi.SW/\@ki=@Mi.SS/\@kJ=@Mi.KZ/\@kL=@Mi.SI/\@wI=@Mi.SG/\@Z3=@Mi.SF/\@gA=@Mi.SQ/\@gI=@Mi.KR/\@gz=@Mi.SM/\@G5=@Mi.SJ/\@Jx=@Mi.SP:=⟨Ge,Uc,VX,VM,Ub,VI,V9,V2,VZ,V4,VG,VR,O1,fQ⟩
def Nm:Jx X xr none U3:=by
 try simp only[VN]at*
 exact PO.imp Bt λσ H Q ⟨φ,A,ρ,S,re,h⟩=>h φ H .refl S
def OO {m:Ev}(c:zA X xr e m):Jx X xr (some e) (UI m):=by
 try simp only[VN]at*
 exact PO.imp (CV c) λσ H Q ⟨φ,A,ρ,S,re,h⟩=>by
  refine tM.go S re (zZ.mp h) λw A1 a H1 v b l s q=>?_;cases w with
  |int i=>obtain rfl:=q;exact⟨i,rfl,b a H1 l s⟩|_=>exact b.elim
def Ce {m:Ev}{k:Nat}{o i:Expr}{mo mi:Ev}(H:jq k X.A)(he:zA X xr e m)(a:zA X xr o mo)(b:zA X xr i mi)
  (h:swapsWithSole [.Subscript o i tpos] e pos.line X.env=pure false:=by rfl)(hw:swappedStores [.Subscript o i tpos] e X.env=pure none:=by rfl)
  (d:(assignEach [.Subscript o i tpos] X.env).map (·.2)=[assign (.Subscript o i tpos) X.env]:=by rfl)
  (c:∀v,assign (.Subscript o i tpos) X.env v=(do
   let ov <- holding [v] (eval o X.env)
   let iv <- holding [v,ov] (eval i X.env)
   standAt tpos
   holding [v,ov,iv] (setItem ov iv v)
   release [v,ov,iv] []):=by intro _;rfl):ki X xr (.Assign [.Subscript o i tpos] e pos) (yC Zl m mo mi):=by
 try simp only[yf]at*
 exact P0 (set_dict H) CN Dm he a b h hw d c
def JR {a b:Expr}{ma mb:Ev}(H:zA X xr a ma)(h:zA X xr b mb):zA X xr (.BinOp a .FloorDiv b pos) (zi Zo ma mb):=by
 try simp only[yf]at*
 exact Q4 Dr Uz (VP D9 λ_ _ _ _=>rfl) H h
def Oa {m:Ev}{lo q:Option Expr}{P pu:Po}{y:Pos}(he:zA X xr e m)(D:Jx X xr lo P)(B:Jx X xr q pu):zA X xr (.Subscript e (.Slice lo q none y) pos) (Uq m P pu):=by
 try simp only[VN]at*
 exact PE.imp (EZ BO he D B) λσ H Q ⟨φ,A,ρ,S,re,h⟩=>by
   refine tM.go S re (zZ.mp h) λw A1 g H1 v J L Y x=>?_;refine⟨g,A1,ρ,Y,re.mono L,qp (zZ.mp J) (λl A2 I f H2 c U=>?_) λ_ _ z=>z.mono L⟩;refine⟨f,A2,ρ,U,(re.mono L).mono c,qp (zZ.mp I) (λu A3 b d Z j s=>?_) λ_ _ z=>z.mono (L.trans c)⟩;have i:=(L.trans c).trans j;cases w with
   |ref n=>
    dsimp only at b;cases E:A3[n]? with
    |none=>rw[E]at b;exact b.elim|some o=>cases o with
     |lst ws=>
      rw[E]at b;dsimp only at b;obtain⟨a,vs,rfl,M,N,r⟩:=s.lst ((x.mono c).mono j) E;have hlen:ws.length=vs.length:=r.length;refine⟨a,vs,rfl,qW.of N,λp C=>?_⟩;have t:zy X.K d Z (UO ws l u) (Yh vs l u):=by
       unfold UO Yh;rw[hlen];exact zy.take _ (zy.drop _ r)
      obtain⟨a1,a2,T⟩:=Zd s C t;exact b _ _ _ (i.trans a1) a2 T
     |_=>rw[E]at b;exact b.elim
   |_=>exact b.elim
def F4 {m:Ev}(B:X.calm=true)(hm:X.mg "sorted"=none)(o:zA X xr e m)(j:Gl X "sorted":=by rfl)(s:starEach [e] X.env=(false,eval e X.env)::starEach [] X.env:=by rfl):zA X xr (.Call (.Name "sorted" p) [e] [] pos) (O5 m):=by
 try simp only[yf]at*
 exact PE.imp (ZK Iw j hm (by rfl) (jk o jZ s) (by decide) (by decide) s (by rfl)) λσ H Q ⟨φ,A,ρ,S,re,h⟩=>by
   refine tM.go S re (zZ.mp h) λw A1 c H1 v a L d q=>?_;cases w with
   |ref n=>
    unfold Nc at a;dsimp only at a;cases E:A1[n]? with
    |none=>rw[E]at a;exact a.elim|some u=>cases u with
     |lst ws=>
      rw[E]at a;dsimp only at a;obtain⟨P,ys,rfl,t,y,f⟩:=d.lst q E;cases i:Yd ws with
      |none=>rw[i]at a;exact a.elim|some ks=>
       rw[i]at a;dsimp only at a;obtain⟨x,ne⟩:=Pw i;subst x
       by_cases b:ks.length<64
       ·rw[ag b]at a
        refine⟨P,ys,ks,c,rfl,qW.of y,f,ne,b,λl zs g r=>?_⟩;obtain⟨a1,a2,z⟩:=Zd d g r;exact a _ _ _ (L.trans a1) a2 z
       ·rw[aj b]at a;exact a.elim
     |_=>rw[E]at a;exact a.elim
   |_=>exact a.elim
section
variable {a b:Expr}{m ma mb:Ev}
def Rn {k:Nat}(r:jq k X.A)(hm:X.mg "sorted"=none)(a:zA X xr e m)(H:Gl X "sorted":=by rfl)(he:starEach [e] X.env=(false,eval e X.env)::starEach [] X.env:=by rfl)(h:(backTo pos (starEach [] X.env)).any (·.1)=false:=by rfl):
  zA X xr (.Call (.Name "sorted" p) [e] [] pos) (jR Za m):=by
 try simp only[yf]at*
 exact NO (Ic r.units) EU Fj hm (by rfl) a H (by decide) (by decide) he h
def Fx {K kp:Pos}(C:Gl X "enumerate")(hm:X.mg "enumerate"=none)(D:zA X xr a ma)(s:starEach [a] X.env=(false,eval a X.env)::starEach [] X.env:=by rfl):kL X xr (.Tuple elts kk tpos) (.Call (.Name "enumerate" p) [a] [⟨some "start",.Constant (.int 1) j K,kp⟩] pos) (Gi ma):=by
 try simp only[yf]at*
 exact PI.imp (DK C hm (jk D jZ s) s) λσ H T ⟨φ,A,ρ,S,re,h⟩=>by
   refine tM.go S re (zZ.mp h) λw A1 c H1 v b L f q=>?_;cases w with
   |ref n=>
    cases es:zP (.ref n) A1 with
    |none=>rw[es]at b;exact b.elim|some ws=>
     rw[es]at b;obtain⟨p,ys,rfl,Z,P⟩:=YZ f q es;refine⟨p,ys,rfl,Z,b c H1 _ L f λi o U N lw g=>?_⟩;unfold Jc;dsimp only;cases es:zP (.ref n) N with
     |none=>exact⟨λ_ z=>(by cases z),λz=>(by cases z)⟩|some ws=>
      dsimp only;obtain⟨ys,b,d⟩:=Wx q lw g es;unfold atEnd;cases E:ws[i]? with
      |none=>
       dsimp only
       by_cases l:ws.length=i
       ·rw[ag l]
        exact⟨λ_ z=>(by cases z),λ_=>⟨ys,b,by rw[<- d.length];exact l⟩⟩
       ·rw[aj l]
        exact⟨λ_ z=>(by cases z),λz=>(by cases z)⟩
      |some x=>
       dsimp only;refine⟨λu z=>?_,λz=>(by cases z)⟩
       cases z;obtain⟨y,e,J⟩:=d.get E;refine⟨⟨ys,y,b,e⟩,λQ H1 ⟨t,Y,r,B,ex,I⟩=>?_⟩;subst ex I
       have:=r ys b
       rw[e]at this;cases this;obtain⟨a1,a2,M⟩:=Q8 g B (.cons (w:=.int ((i+1:Nat):Int)) (v:=.int ((i+1:Nat):Int)) rfl (.one J));exact⟨a1,a2,M⟩
   |_=>exact b.elim
def fR (C:zA X xr a ma)(B:zA X xr b mb):zA X xr (.Dict [some a] [b] pos) (G7 ma mb):=by
 try simp only[yf]at*
 exact PE.imp (BB (DH C B BG) rfl rfl (by simp) (by simp)) λσ H Q ⟨φ,A,ρ,S,re,h⟩ p y=>by
   obtain⟨l,M⟩:=S.alloc (o:=.dct []) y (u:=.dK []) ⟨[],jD,rfl,.nil⟩;refine tM.go M (re.mono l) (qp (zZ.mp h) (λ_ _ z=>z) λ_ _ z=>z.mono l) λw A1 j H1 v D g J x=>?_;have L:=l.trans g;refine tM.go J (re.mono L) (qp (zZ.mp D) (λ_ _ z=>z) λ_ _ z=>z.mono L) λq A2 c i v2 f d s t=>?_;have e:=L.trans d
   split at f
   ·rename_i k I E
    have ev:=EO (x.mono d) I;have f0:c[A.length]? =some p:=d.ex _ _ (g.ex _ _ (by rw[<- S.len];simp))
    obtain⟨P,f1,us,g1,g2,g3⟩:=s.ob _ _ E;rw[f0]at f1;cases f1;obtain rfl:us=[]:=by simpa using g2
    refine⟨g1,[(k,v2)],by rw[ev];rfl,by simp,?_⟩
    have ln:Le X.K c i c (upd i p (.dK [(k,v2)])):=Le.upd f0 (λxs z=>by rw[g1]at z;cases z) (λ_ _ z=>by rw[g1]at z;cases z)
    obtain⟨r,n⟩:=s.write (o:=.dct []) (o':=.dct [(k,q)]) E rfl rfl f0 (u:=.dK [(k,v2)]) ⟨_,jD,rfl,.one (t.mono ln)⟩;exact f _ _ _ (e.trans r) n ⟨p,rfl,f0⟩
   ·exact f.elim
end
def zN.up {K:Frag}{k:Nat}{f:Fn}(F:zN P w K mg base j x n f)(h:j<=k:=by decide):zN P w K mg base k x n f:=F.mono h
def kS.up {K:Frag}{k:Nat}{f:Fn}(F:kS P w K mg base j x n f)(h:j<=k:=by decide):kS P w K mg base k x n f:=F.mono h
section
variable {C:List Value->Prop}
theorem yR (h:∀a,C [a]):∀us:bY,us.length=1->C us
 |[a],_=>h a
theorem Zv (h:∀a b,C [a,b]):∀us:bY,us.length=2->C us
 |[a,b],_=>h a b
theorem UZ (h:∀a b c,C [a,b,c]):∀us:bY,us.length=3->C us
 |[a,b,c],_=>h a b c
end
def qD {l:cc}(h:decide l.Nodup=true):l.Nodup:=of_decide_eq_true h
noncomputable def Mv (N P:cc)(sc:Scope):Bool:=decide (sc.kind=.function)&&(!sc.isCoroutine&&(!sc.isGenerator&&(decide N.Nodup&&(decide (N.take P.length=P)&&(P.all (λx=>decide (sc.names.lookup x=some .local) || decide (sc.names.lookup x=some .cell))&&sc.names.all λy=>!decide (y.2=.free))))))
def jC {P:cc}(h:Mv N P sc=true):jc N P sc:=by
 unfold Mv at h;simp only[aw,ak,Bool.not_eq_true',all_eq_true,bO,decide_eq_false_iff_not]at h;obtain⟨g,f,e,d,c,b,a⟩:=h;exact⟨g,f,e,d,c,b,λy H=>a y H⟩
section
def Mf (h:(ls.all λt=>Gv X.N X.env.scope t)=true):∀t∈ls,Yi X t:=λt H=>Ot (cF.mp h t H)
def qQ {iter:Expr}{M:Ev}{em:Em}(nl:Nat)(cap:b9)(hw:kL X xr tg iter mi)
  (n:∀s H fp,wI (jX X N sc s H fp yZ) tg tw/\gI (jX X N sc s H fp yZ) ifs M/\gz (jX X N sc s H fp yZ) elt (⟨tg,iter,ifs,0⟩::gs) sc pos 0 em)
  (c:X.calm=true:=by rfl)(S:Zb X sc:=by exact cps (by kernel_rfl))(p:QB X.N N sc nl cap=true:=by kernel_rfl)
  (b:∀g',gs[0]? =some g'->g'.is_async=0:=by intro _ h;cases h<;>rfl)
  (a:∀x,foldedSetIterable iter X.env x=pure x:=by intro _;rfl):Z3 X xr (.ListComp elt (⟨tg,iter,ifs,0⟩::gs) sc pos) (zM nl cap mi tw M em):=DO nl cap c S p hw n b a
def qG {d:Nat}(he:zA X yQ elt me)(h:∀e s,X.xe e s->False:=by exactλ_ _ z=>z)(H:gens[d+1]? =none:=by rfl):gz X elt gens sc pos d (zK me):=Bp h he H
end
open PySem L2
abbrev zm:Ev:=qi 0
abbrev zw:Ev:=qi 1
abbrev zW:Ev:=qi 2
abbrev zQ:Ev:=qi 3
abbrev qx:Ev:=qi 4
abbrev jn:Ev:=qi 5
abbrev kN:Ev:=qi 6
abbrev gR:Ev:=qi 7
abbrev G8:Ev:=qi 8
abbrev zL:Ev:=qc (.int 0)
abbrev zV:Ev:=qc (.int 1)
abbrev qy:Ev:=qc (.int 2)
abbrev ju:Ev:=qc (.int 3)
abbrev wJ:Ev:=qc (.int 4)
abbrev G9:Ev:=qc (.int 5)
abbrev G6:Ev:=qc (.int 6)
abbrev Yv:Ev:=qc (.int 7)
abbrev yS:Ev:=qc (.int 8)
abbrev UL:Ev:=qc (.int 10)
abbrev zS:Ev:=qc (.bl true)
abbrev KY:Ev:=qc (.bl false)
abbrev Z9:Ev:=qc .non
abbrev Zy:Ex:=zo (qv KY) zB
end Mi
namespace G
open PySem L2 Mi
noncomputable def top (i:Nat):Stmt:=PySem.Challenge.pw_nearkinds_k71_partings_that_keep_steady.main.body.getD i (.Pass ⟨0,0,0,0⟩)
structure Bu (mg:cm):Prop where
 Ik:mg "ValueError"=none
 Uk:mg "abs"=none
 Kq:mg "all"=none
 Ua:mg "bool"=none
 Qd:mg "enumerate"=none
 Ya:mg "int"=none
 jS:mg "isinstance"=none
 km:mg "len"=none
 Qu:mg "list"=none
 ZS:mg "max"=none
 Gn:mg "min"=none
 jj:mg "range"=none
 zce:mg "set"=none
 WO:mg "sorted"=none
 zbN:mg "sum"=none
 yy:mg "tuple"=none
 NC:mg "zip"=none
 MW:∃t,mg "MOST_PARTED_KINDS"=some (.int 6 t)
 Ia:∃t,mg "MOST_PLACES"=some (.int 8 t)
noncomputable abbrev qV:cc:=["NoTable","TooMany"]
noncomputable abbrev WD:cc:=["NoTable","NotSteady","NoPlace","NoKind","NoMix","NoNumber","NoLot","NoKinds","NoPaper","NoParting","NoClosed","TooMany","NoText","NoLine","NoDeed"]
def jM {K:Frag}(R:WD.all (Qv K qV)=true)(h:WD.contains x=true:=by decide +kernel):Qv K qV x=true:=cF.mp R x (List.contains_iff_mem.mp h)
def Pb {l:List (Str×NameKind)}(h:(l.all λy=>!(y.2==.cell))=true):∀y∈l,y.2≠.cell:=λy H e=>by
 have q:=cF.mp h y H;rw[e]at q;cases q
def yE {m:Ev}(h:zA X xr e m):SE X xr e m:=by rw[Ge]at h;exact h
abbrev Rw:Stmt:=top 1
def IX:jc ["thing"] ["thing"] (qo Rw):=jC (by kernel_rfl)
def Fp:Ex:=zo (qv (ku (kM .int zm) (wG (kM .bl zm)))) zB
abbrev Ra:Stmt:=top 2
def IG:jc ["thing","many"] ["thing","many"] (qo Ra):=jC (by kernel_rfl)
def XI (H:Fn):Ex:=zo (qv (ku (kM .tup zm) (ku (zi jA (mQ qE (qg zm)) zw) (mQ Jk (zM 1 [] (qd zm) (zC 0) zS (zK (zH H (zc zm zj)))))))) zB
abbrev TB:Stmt:=top 3
def MZ:jc ["thing","many","limit"] ["thing","many","limit"] (qo TB):=jC (by kernel_rfl)
def Xi (H:Fn):Ex:=zo (qv (ku (zH H (zc zm (zc zw zj))) (mQ Jk (zM 1 [2] (qd zm) (zC 0) zS (zK (wa Z6 Jz zL zm zw)))))) zB
abbrev Ru:Stmt:=top 23
def Rk:jc ["thing","many"] ["thing"] (qo Ru):=jC (by kernel_rfl)
def Wy (f:Fn)(a:Fn)(M:Fn):Ex:=zo (ja (ZA (wG (kM .tup zm)) (wG (wa Z6 Z6 zV (mQ qE (qg zm)) yS))) Zy zB) (zo (zX 1 (mQ qE (qg zm))) (zo (ja (wG (mQ Jk (zM 1 [1] (qd zm) (zC 0) zS (zK (zH a (zc zm (zc zw (zc zw zj)))))))) Zy zB) (zo (qv (ku (zH f (zc zm zj)) (zH M (zc zm zj)))) zB)))
abbrev R7:Stmt:=top 24
def XY:jc ["rows","a","row","b","kind"] ["rows"] (qo R7):=jC (by kernel_rfl)
def Pe:Ex:=zo (qY (kH zm) (jo 1 2) (zo (qY (kH zW) (jo 3 4) (zo (ja (ZA (zi jz (zi jA qx zL) (zi jA zw zQ)) (zi jz (zi zD (zi zD zm zQ) zw) qx)) Zy zB) zB)) zB)) (zo (qv zS) zB)
abbrev Tt:Stmt:=top 25
def Tq:jc ["rows","standing"] ["rows"] (qo Tt):=jC (by kernel_rfl)
def Ts:Ex:=zo (zX 1 (qt (zM 2 [] (qd zm) (zC 0) zS (Yb (qd zm) (zC 1) zS (zK zw))))) (zo (qv (mQ Jk (zM 1 [1] (qJ (mQ yh (qg zw))) (zC 0) zS (zK (zi G4 zm zw))))) zB)
abbrev TQ:Stmt:=top 26
def M8:jc ["table"] ["table"] (qo TQ):=jC (by kernel_rfl)
def Xn (f:Fn):Ex:=zo (ja ((λρ A=>((wG (zH f (zc zm zj))) ρ A).nox)) (zo (Gb "NoTable" (zc (qc (.str "this is no table")) zj)) zB) zB) zB
abbrev Sd:Stmt:=top 27
def LB:jc ["table"] ["table"] (qo Sd):=jC (by kernel_rfl)
def Sv:Ex:=zo (qv (zi qB (mQ yh (zM 1 [] (qd zm) (zC 0) zS (zK (mQ yh (qg zm))))) zV)) zB
abbrev Rg:Stmt:=top 28
def IC:jc ["rows","names"] ["rows","names"] (qo Rg):=jC (by kernel_rfl)
def Rj:Ex:=zo (qv (mQ jm (zM 1 [1] (qd zm) (zC 0) zS (zK (mQ jm (zM 1 [1] (qd zm) (zC 0) zS (zK (zi Kr zw zm)))))))) zB
abbrev T9:Stmt:=top 29
def K5:jc ["table","one","other","many","counts","i","j"] ["table","one","other"] (qo T9):=jC (by kernel_rfl)
def T5 (X:Fn):Ex:=zo (zX 3 (zH X (zc zm zj))) (zo (zX 4 (qt (zM 1 [3] (qJ zQ) (zC 0) zS (zK (zi je (qb (zc zL zj)) zw))))) (zo (qY (Ju (zi zD zm zw) (zi zD zm zW)) (jo 5 6) (zo (Jb (zi zD qx jn) kN zV) zB)) (zo (qv (mQ jm (zM 1 [] (qd qx) (zC 0) zS (zK (mQ jm (qg zm)))))) zB)))
abbrev Sb:Stmt:=top 30
def K9:jc ["table","firsts","a","row","b","kind"] ["table"] (qo Sb):=jC (by kernel_rfl)
def Sg:Ex:=zo (zX 1 Kv) (zo (qY (kH zm) (jo 2 3) (zo (qY (kH zQ) (jo 4 5) (zo (yw (J4 ZL zw jn (zE (zc zW (zc qx zj))))) zB)) zB)) (zo (qv zw) zB))
abbrev TX:Stmt:=top 31
def Yz:jc ["table","kind","a","b","shares","c","row","e","by"] ["table"] (qo TX):=jC (by kernel_rfl)
def Xu (T:Fn)(L:Fn):Ex:=zo (qY (Kd (zH L (zc zm zj))) (J6 1 2 3) (zo (zX 4 (zH T (zc zm (zc zW (zc zQ zj))))) (zo (qY (kH zm) (jo 5 6) (zo (qY (kH kN) (jo 7 8) (zo (ja (ku (zi jA G8 zw) (zi jz (zH T (zc zm (zc jn (zc gR zj)))) qx)) (zo (qv (zE (zc zW (zc zQ (zc jn (zc gR zj)))))) zB) zB) zB)) zB)) zB))) (zo (qv Z9) zB)
abbrev Ou:Stmt:=top 34
def WT:jc ["table","parting","names","name","part","kind"] ["table","parting"] (qo Ou):=jC (by kernel_rfl)
def OK (H:Fn):Ex:=zo (zX 2 (G7 zL zL)) (zo (qY (Gi zw) (jo 3 4) (zo (qY (qd qx) (zC 5) (zo (yC Zl zQ zW jn) zB)) zB)) (zo (qv (zH H (zc zm (zc zW zj)))) zB))
abbrev TU:Stmt:=top 35
def QP:jc ["many","partings","kind","longer","parting","at","part"] ["many"] (qo TU):=jC (by kernel_rfl)
def Lf:Ex:=zo (zX 1 (qb (zc (qb zj) zj))) (zo (qY (Ut zV zm) (zC 2) (zo (zX 3 (qt (zM 1 [2] (qd zw) (zC 0) zS (zK (zi qB zm (qb (zc (zE (zc zw zj)) zj))))))) (zo (qY (qd zw) (zC 4) (zo (qY (kH qx) (jo 5 6) (zo (yw (j9 yA zQ (zi qB (zi qB (Uq qx U3 (UI jn)) (qb (zc (zi qB kN (zE (zc zW zj))) zj))) (Uq qx (UI (zi qB jn zV)) U3)))) zB)) zB)) (zo (zX 1 zQ) zB)))) (zo (qv zw) zB))
abbrev TC:Stmt:=top 36
def Tz:jc ["table","many"] ["table"] (qo TC):=jC (by kernel_rfl)
def K2 (X:Fn)(L:Fn)(B:Fn)(K:Fn)(l:Fn):Ex:=zo (yw (zH l (zc zm zj))) (zo (zX 1 (λρ A=>((zH X (zc zm zj)) ρ A).nox)) (zo (ja ((λρ A=>((zi KU zw G6) ρ A).nox)) (zo (Gb "TooMany" (zc (qc (.str "partings are told of at most six kinds")) zj)) zB) zB) ((λρ A=>((zo (qv (jR Za (qt (zM 1 [0] (qd (zH L (zc zw zj))) (zC 0) (zi (Yu false) (zH K (zc (zH B (zc zw (zc zm zj))) zj)) Z9) (zK zm))))) zB) ρ A).nox))))
abbrev T4:Stmt:=top 38
def Lj:jc ["_law_script","_law_k"] ["_law_script","_law_k"] (qo T4):=jC (by kernel_rfl)
def Xt:Ex:=zo (ja (zi Jz zw (mQ qE (qg zm))) (zo (qv (zi zD zm zw)) zB) zB) (zo (qv zL) zB)
abbrev Sz:Stmt:=top 39
def So:jc ["_law_script","_law_k","_law_cell"] ["_law_script","_law_k"] (qo Sz):=jC (by kernel_rfl)
def XB (L:Fn):Ex:=zo (zX 2 (zH L (zc zm (zc zw zj)))) (zo (ja (zi U6 zW (zi GC UL (qc (.int 18)))) (zo (qv (qb (zc (zi kq zW (zi GC UL (qc (.int 18)))) (zc zS zj)))) zB) zB) (zo (qv (qb (zc (zi wc zW (qc (.int 2147483647))) (zc KY zj)))) zB))
abbrev S8:Stmt:=top 40
def Wj:jc ["_law_state_here","_law_many","_law_found","_law_stirred"] ["_law_state_here","_law_many"] (qo S8):=jC (by kernel_rfl)
def XN:Ex:=zo (ja (zi zD zm zV) (zo (zX 2 (zi wc (zi zD zm zL) zw)) (zo (yC yu (zi Zo (zi zD zm zL) zw) zm zL) (zo (qv zW) zB))) zB) (zo (yC yu (zi wc (zi qB (zi je (zi zD zm zL) (qc (.int 48271))) (qc (.int 29))) (qc (.int 2147483647))) zm zL) (zo (zX 3 (zi wc (zi qB (zi qB (zi je (zi zD zm zL) (zi zD zm zL)) (zi je (qc (.int 39373)) (zi zD zm zL))) Yv) (qc (.int 2147483629)))) (zo (zX 3 (zi wc (zi qB (zi je zQ zQ) (zi je (qc (.int 16807)) zQ)) (qc (.int 2147483587)))) (zo (qv (zi wc (zi Zo zQ yS) zw)) zB))))
abbrev TN:Stmt:=top 41
def Xh:jc ["_law_state_here","_law_things","_law_left","_law_found"] ["_law_state_here","_law_things"] (qo TN):=jC (by kernel_rfl)
def TF (K:Fn):Ex:=zo (zX 2 (qt (qg zw))) (zo (zX 3 (qb zj)) (zo (V5 1000 (zi jz zW (qb zj)) (zo (yw (j9 yA zQ (j9 Ze zW (zH K (zc zm (zc (mQ qE (qg zW)) zj)))))) zB)) (zo (qv zQ) zB)))
abbrev SD:Stmt:=top 42
def Sj:jc ["_law_rows","_law_some"] ["_law_rows"] (qo SD):=jC (by kernel_rfl)
def Sx:Ex:=zo (zX 1 (WL (zi ZR (qt (zM 1 [] (qd zm) (zC 0) zS (zK (qt (qg zm))))) (qb zj)))) (zo (qv (mQ jm (zM 1 [1] (qd zm) (zC 0) zS (zK (mQ jm (zM 1 [1] (qd zm) (zC 0) zS (zK (j9 Zf zw zm)))))))) zB)
abbrev SV:Stmt:=top 43
def wt:jc ["_law_state_here","_law_way","_law_many","_law_wide","_law_high","_law_some","_law_ring","_law_rows","_law_a","_law_near","_law_far"] ["_law_state_here"] (qo SV):=jC (by kernel_rfl)
def Xz (K:Fn):Ex:=zo (zX 1 (zH K (zc zm (zc yS zj)))) (zo (zX 2 (zi zD (qb (zc yS (zc Yv (zc G6 (zc G9 (zc wJ (zc ju (zc qy (zc zV zj))))))))) (zH K (zc zm (zc yS zj))))) (zo (ja (zi jA zw zL) (zo (qv (qt (zM 1 [2] (qJ zW) (zC 0) zS (zK (qt (zM 1 [0,1] (qJ zw) (zC 0) zS (zK (zi ZQ (jR KD (zi kq zw zm)) (zi kq zW (jR KD (zi kq zw zm))))))))))) zB) zB) (zo (ja (zi jA zw zV) (zo (zX 2 (zi zD (qb (zc yS (zc wJ (zc qy zj)))) (zH K (zc zm (zc ju zj))))) (zo (qv (qt (zM 1 [2] (qJ zW) (zC 0) zS (zK (qt (zM 1 [0] (qJ zw) (zC 0) zS (zK (zi zD (qb (zc zL (zc zV (zc zV (zc qy (zc zV (zc qy (zc qy (zc ju zj))))))))) (zi ZY zw zm))))))))) zB)) zB) (zo (ja (zi jA zw qy) (zo (qv (qt (zM 1 [2] (qJ zW) (zC 0) zS (zK (qt (zM 1 [0] (qJ zw) (zC 0) zS (zK (jR Jv (zi jz zw zm))))))))) zB) zB) (zo (ja (zi jA zw ju) (zo (QG (zi zD (qb (zc (zE (zc qy (zc wJ zj))) (zc (zE (zc wJ (zc qy zj))) (zc (zE (zc qy (zc ju zj))) (zc (zE (zc ju (zc qy zj))) (zc (zE (zc qy (zc qy zj))) zj)))))) (zH K (zc zm (zc G9 zj)))) (jo 3 4)) (zo (zX 2 (zi je zQ qx)) (zo (qv (qt (zM 1 [2,3] (qJ zW) (zC 0) zS (zK (qt (zM 1 [0,2] (qJ zw) (zC 0) zS (zK (zi qB (jR Jv (zi jz zw zm)) (jR Jv (zi jz (zi Zo zw zW) (zi Zo zm zW))))))))))) zB))) zB) (zo (ja (zi jA zw wJ) (zo (zX 5 (qb (zc (zE (zc zL (zc zV zj))) (zc (zE (zc zL (zc qy zj))) (zc (zE (zc zL (zc ju zj))) (zc (zE (zc zV (zc qy zj))) (zc (zE (zc zV (zc ju zj))) (zc (zE (zc qy (zc ju zj))) zj)))))))) (zo (qv (qt (zM 1 [5] (qd jn) (zC 0) zS (zK (qt (zM 1 [0] (qd zw) (zC 0) zS (zK (zi kq qy (mQ qE (zM 1 [0] (qd zw) (zC 0) (zi G4 zm zw) (zK zm))))))))))) zB)) zB) (zo (ja (zi jA zw G9) (zo (zX 2 (zi zD (qb (zc wJ (zc yS (zc qy zj)))) (zH K (zc zm (zc ju zj))))) (zo (qv (qt (zM 1 [2] (qJ zW) (zC 0) zS (zK (qt (zM 1 [0] (qJ zw) (zC 0) zS (zK (zi ZY zw zm)))))))) zB)) zB) (zo (zX 3 (zi zD (qb (zc wJ (zc ju (zc qy zj)))) (zH K (zc zm (zc ju zj))))) (zo (zX 6 (qb (zc zL (zc zV (zc (zi zD (qb (zc qy (zc zV zj))) (jR Jv (zi jA zQ ju))) (zc zV zj)))))) (zo (zX 7 (qb zj)) (zo (qY (qJ (zi je qy zQ)) (zC 8) (zo (zX 9 (qt (zM 1 [3,6,8] (qJ (zi je qy zQ)) (zC 0) zS (zK (zi zD zW (zi wc (jR KD (zi kq zQ zm)) zw)))))) (zo (zX 10 (qt (zM 1 [3,8] (qJ (zi je qy zQ)) (zC 0) zS (zK (jR Jv (zi jz (zi Zo zW zw) (zi Zo zm zw))))))) (zo (ja (zi jA zw G6) (zo (yw (j9 yA gR (qt (zM 1 [9,10] (qJ (zi je qy zQ)) (zC 0) zS (zK (zi qB (zi je ju (zi zD zW zm)) (zi zD zw zm))))))) zB) (zo (yw (j9 yA gR (qt (zM 1 [9,10] (qJ (zi je qy zQ)) (zC 0) zS (zK (U4 (zi jA (zi zD zW zm) zV) ju (zi zD zw zm))))))) zB)) zB)))) (zo (qv gR) zB))))))))))))
abbrev S6:Stmt:=top 44
def Wc:jc ["_law_state_here","_law_rows","_law_order","_law_kinds_here"] ["_law_state_here"] (qo S6):=jC (by kernel_rfl)
def SY (T:Fn)(w:Fn)(I:Fn):Ex:=zo (zX 1 (zH w (zc (zH I (zc zm zj)) zj))) (zo (zX 2 (zH T (zc zm (zc (Y9 (mQ qE (qg zw))) zj)))) (zo (zX 3 (zi qB (qb (zc zL zj)) (zH T (zc zm (zc (Y8 zV (zi qB zV (mQ yh (zM 1 [] (qd zw) (zC 0) zS (zK (mQ yh (qg zm))))))) zj))))) (zo (qv (mQ jm (zM 1 [1,2,3] (qd zW) (zC 0) zS (zK (mQ jm (zM 1 [0,1,3] (qd zW) (zC 0) zS (zK (zi zD zQ (zi zD (zi zD zW zw) zm))))))))) zB)))
abbrev Sw:Stmt:=top 45
def ZE:jc ["_law_state_here","_law_way","_law_rows","_law_many","_law_a","_law_b","_law_far"] ["_law_state_here"] (qo Sw):=jC (by kernel_rfl)
def SU (S:Fn)(w:Fn)(K:Fn):Ex:=zo (zX 1 (zH K (zc zm (zc ju zj)))) (zo (ja (zi jA zw zL) (zo (qv (zH S (zc zm zj))) zB) zB) (zo (zX 2 (qt (zM 1 [] (qd (zH S (zc zm zj))) (zC 0) zS (zK (qt (qg zm)))))) (zo (zX 3 (mQ qE (qg zW))) (zo (ja (ku (zi jA zw zV) (zi KU zQ zV)) (zo (zX 4 (zH K (zc zm (zc zQ zj)))) (zo (zX 5 (zi wc (zi qB (zi qB qx zV) (zH K (zc zm (zc (zi kq zQ zV) zj)))) zQ)) (zo (yC yu (zi qB zV (zH K (zc zm (zc (zi kq zQ zV) zj)))) (zi zD zW qx) jn) (zo (yC yu (zi zD (zi zD zW qx) jn) (zi zD zW jn) qx) (zo (qv (zH w (zc zW zj))) zB))))) zB) (zo (zX 6 (zi zD (qb (zc qy (zc ju (zc zV zj)))) (zH K (zc zm (zc ju zj))))) (zo (qY (qJ zQ) (zC 4) (zo (qY (qJ qx) (zC 5) (zo (yC yu (zi qB zV (zH K (zc zm (zc (zi ZQ kN (zi kq zQ zV)) zj)))) (zi zD zW qx) jn) (zo (yC yu (zi zD (zi zD zW qx) jn) (zi zD zW jn) qx) zB))) zB)) (zo (qv (zH w (zc zW zj))) zB)))))))
abbrev SK:Stmt:=top 46
def LY:jc ["_law_table_here"] ["_law_table_here"] (qo SK):=jC (by kernel_rfl)
def S7:Ex:=zo (qv (zi qB zV (mQ yh (zM 1 [] (qd zm) (zC 0) zS (zK (mQ yh (qg zm))))))) zB
abbrev Sn:Stmt:=top 47
def K7:jc ["_law_table_here","_law_a","_law_b","_law_many","_law_found","_law_c"] ["_law_table_here","_law_a","_law_b"] (qo Sn):=jC (by kernel_rfl)
def Sf (g:Fn):Ex:=zo (zX 3 (zH g (zc zm zj))) (zo (zX 4 (qt (zM 1 [3] (qJ zQ) (zC 0) zS (zK (zi je (qb (zc zL zj)) zw))))) (zo (qY (qJ (mQ qE (qg zm))) (zC 5) (zo (Jb (zi zD qx (zi zD (zi zD zm zw) jn)) (zi zD (zi zD zm zW) jn) zV) zB)) (zo (qv (mQ jm (zM 1 [] (qd qx) (zC 0) zS (zK (mQ jm (qg zm)))))) zB)))
abbrev TV:Stmt:=top 48
def YA:jc ["_law_table_here","_law_found","_law_a","_law_b","_law_shares_here"] ["_law_table_here"] (qo TV):=jC (by kernel_rfl)
def T3 (g:Fn)(L:Fn):Ex:=zo (zX 1 (qt (zM 1 [] (qJ (zH g (zc zm zj))) (zC 0) zS (zK (qb zj))))) (zo (qY (qJ (mQ qE (qg zm))) (zC 2) (zo (qY (qJ (mQ qE (qg zm))) (zC 3) (zo (zX 4 (zH L (zc zm (zc zW (zc zQ zj))))) (zo (ja (zi Zc qx (zi zD zw (zi zD (zi zD zm zW) zQ))) (zo (yw (j9 yA (zi zD zw (zi zD (zi zD zm zW) zQ)) qx)) zB) zB) zB))) zB)) (zo (qv zw) zB))
abbrev Su:Stmt:=top 49
def LR:jc ["_law_table_here"] ["_law_table_here"] (qo Su):=jC (by kernel_rfl)
def Sr (L:Fn):Ex:=zo (qv (zi jA (mQ yh (zM 1 [] (qd (zH L (zc zm zj))) (zC 0) zS (zK (mQ qE (qg zm))))) zV)) zB
abbrev TR:Stmt:=top 50
def QN:jc ["_law_kinds_here","_law_found","_law_kind","_law_longer","_law_some","_law_at"] ["_law_kinds_here"] (qo TR):=jC (by kernel_rfl)
def Ln:Ex:=zo (zX 1 (qb (zc (qb zj) zj))) (zo (qY (Ut zV zm) (zC 2) (zo (zX 3 (qb zj)) (zo (qY (qd zw) (zC 4) (zo (yw (j9 yA zQ (zi qB qx (qb (zc (qb (zc zW zj)) zj))))) (zo (qY (qJ (mQ qE (qg qx))) (zC 5) (zo (yw (j9 yA zQ (qt (zM 1 [2,4,5] (qJ (mQ qE (qg qx))) (zC 0) zS (zK (U4 (zi jA zm zQ) (zi qB (zi zD zW zm) (qb (zc zw zj))) (zi zD zW zm))))))) zB)) zB))) (zo (zX 1 zQ) zB)))) (zo (qv (jR Za (qt (zM 1 [] (qd zw) (zC 0) zS (zK (O5 (qt (zM 1 [] (qd zm) (zC 0) zS (zK (mQ jm (qg zm))))))))))) zB))
abbrev S9:Stmt:=top 51
def We:jc ["_law_table_here","_law_parting","_law_names","_law_at","_law_kind"] ["_law_table_here","_law_parting"] (qo S9):=jC (by kernel_rfl)
def Rb (g:Fn):Ex:=zo (zX 2 (zi je (qb (zc zL zj)) (zH g (zc zm zj)))) (zo (qY (qJ (mQ qE (qg zw))) (zC 3) (zo (qY (qd (zi zD zw zQ)) (zC 4) (zo (yC yu (zi qB zQ zV) zW qx) zB)) zB)) (zo (qv (mQ jm (zM 1 [2] (qd zm) (zC 0) zS (zK (mQ jm (zM 1 [1] (qd zm) (zC 0) zS (zK (zi zD zw zm)))))))) zB))
abbrev TH:Stmt:=top 52
def Yx:jc ["_law_state_here","_law_some"] ["_law_state_here"] (qo TH):=jC (by kernel_rfl)
def TK (K:Fn):Ex:=zo (zX 1 (qb (zc Z9 (zc zL (zc (zE zj) (zc (zE (zc (zE zj) zj)) (zc (zE (zc (zE (zc zV zj)) zj)) (zc (qb (zc (qb (zc zL zj)) zj)) (zc (zE (zc (qb (zc zL zj)) zj)) (zc (zE (zc (zE (zc zL zj)) (zc (zE (zc zL zj)) zj))) (zc (zE (zc (zE (zc zL (zc zV zj))) (zc (zE (zc qy (zc zL zj))) zj))) (zc (zE (zc (zE (zc zL (zc qy zj))) (zc (zE (zc qy (zc zL zj))) zj))) (zc Kv zj))))))))))))) (zo (zX 1 (zi qB zw (qb (zc (zE (zc (zE (zc zL (zc zV zj))) (zc (zE (zc zV (zc zV zj))) zj))) (zc (zE (zc (zE (zc zS zj)) zj)) (zc (zE (zc (zE (zc zL (zc zS zj))) (zc (zE (zc zS (zc zL zj))) zj))) (zc (zE (zc (zE (zc zL (zc (jR Yg zV) zj))) (zc (zE (zc (jR Yg zV) (zc zL zj))) zj))) (zc (zE (zc (zE (zc zL (zc zV zj))) (zc (zE (zc zV (zc zL zj))) (zc (zE (zc zV (zc zV zj))) zj)))) zj)))))))) (zo (zX 1 (zi qB zw (qb (zc (zE (zc (zE (zc zL (zc zV (zc qy zj)))) (zc (zE (zc zV (zc zL (zc qy zj)))) (zc (zE (zc qy (zc qy (zc zV zj)))) zj)))) (zc (qc (.str "0")) (zc (zE (zc (zE (zc zL (zc ju (zc ju zj)))) (zc (zE (zc ju (zc zL (zc zV zj)))) (zc (zE (zc ju (zc zV (zc zL zj)))) zj)))) (zc (zE (zc (zE (zc zL zj)) (zc (zE zj) zj))) (zc (zE (zc zL zj)) zj)))))))) (zo (zX 1 (zi qB zw (qb (zc (zE (zc (zE (zc Z9 zj)) zj)) (zc (zE (zc (zE (zc zL (zc zL zj))) (zc (zE (zc zL (zc zL zj))) zj))) zj))))) (zo (qv (zi zD zw (zH K (zc zm (zc (qc (.int 23)) zj))))) zB))))
abbrev XJ:Stmt:=top 53
def Io:jc ["_law_found","_law_due"] ["_law_found","_law_due"] (qo XJ):=jC (by kernel_rfl)
def ZG (Z:Fn):Ex:=zo (ja (GI .tup .lst zw) (zo (ja (ZA (zi jz (kM .tup zm) (kM .tup zw)) (zi jz (kM .lst zm) (kM .lst zw))) Zy zB) (zo (ja (zi jz (mQ qE (qg zm)) (mQ qE (qg zw))) Zy zB) (zo (qv (mQ Jk (zM 2 [] (Ju zm zw) (jo 0 1) zS (zK (zH Z (zc zm (zc zw zj))))))) zB))) zB) (zo (qv (ku (zi jA zm zw) (zi jA (kM .bl zm) (kM .bl zw)))) zB)
def Wt {K:Frag}{k:Nat}(T:Bu mg)(F:wL K "_law_same" "_law_same" XJ f fd)(hm:mg "_law_same"=some (.ref f)){Z:Fn}(Qf:zN P w K mg base k "_law_same" 2 Z):zN P w K mg base (k+1) "_law_same" 2 (qU 2 (ZG Z)):=
 jK F hm Io (λ_ _ _ _ _ _=>Zv λ_ _=>rfl) λc A outer s H E h=>zr (jU (ZN (Ba .tup .lst T.jS T.yy T.Qu (by rfl) (by rfl) (zh 1))) (zr (jU (YY (VW (jV (wU h) (Zh .tup T.jS T.yy (by rfl) (zh 0)) (Zh .tup T.jS T.yy (by rfl) (zh 1))) (Vr (jV (wU h) (Zh .lst T.jS T.Qu (by rfl) (zh 0)) (Zh .lst T.jS T.Qu (by rfl) (zh 1)))))) (zr (qw k9) zG) zG) (zr (jU (jV (wU h) (kj T.km (jW (zh 0))) (kj T.km (jW (zh 1)))) (zr (qw k9) zG) zG) (zr (qw (Y3 rfl T.Kq (yg (qQ (N:=["_law_one","_law_other"]) 2 [] (Og rfl T.NC (zh 0) (zh 1)) (λ_ _ _=>⟨gf 0 1 rfl (qD (by kernel_rfl)),qN,qG (qz Qf h (zl (zh 0) (zl (zh 1) zx)))⟩))))) zG))) zG) (zr (qw (JW (gH (ka h) (zh 0) (zh 1)) (Y1 (gH (ka h) (Zh .bl T.jS T.Ua (by rfl) (zh 0)) (Zh .bl T.jS T.Ua (by rfl) (zh 1)))))) zG)
abbrev Xr:Stmt:=top 54
def Qc:jc ["_law_call","_law_error","e","_law_marks"] ["_law_call"] (qo Xr):=jC (by kernel_rfl)
def Xl:Ex:=zo (zX 3 (qb (zc (jf (jv qV "NoTable") zw) (zc (jf (jv qV "NotSteady") zw) (zc (jf (jv qV "NoPlace") zw) zj))))) (zo (zX 3 (zi qB zQ (qb (zc (jf (jv qV "NoKind") zw) (zc (jf (jv qV "NoMix") zw) (zc (jf (jv qV "NoNumber") zw) zj)))))) (zo (zX 3 (zi qB zQ (qb (zc (jf (jv qV "NoLot") zw) (zc (jf (jv qV "NoKinds") zw) (zc (jf (jv qV "NoPaper") zw) zj)))))) (zo (zX 3 (zi qB zQ (qb (zc (jf (jv qV "NoParting") zw) (zc (jf (jv qV "NoClosed") zw) (zc (jf (jv qV "TooMany") zw) zj)))))) (zo (zX 3 (zi qB zQ (qb (zc (jf (jv qV "NoText") zw) (zc (jf (jv qV "NoLine") zw) (zc (jf (jv qV "NoDeed") zw) zj)))))) (zo (ja (wG (jf (Tj qV) zw)) (zo (qv Z9) zB) zB) (zo (qv (qt (zM 1 [3] (qJ (qc (.int 15))) (zC 0) (zi zD zw zm) (zK zm)))) zB))))))
def YD (PG:jP)(lam:Nat->Fn):Ex:=zo (zX 1 Z9) (zo (KC 0 1 2 qV PG lam) Xl)
def LQ {K:Frag}{k:Nat}(T:Bu mg)(C:wN K qV "NearError")(R:WD.all (Qv K qV)=true)(F:wL K "_law_refused" "_law_refused" Xr f fd)(hm:mg "_law_refused"=some (.ref f)){PG:jP}{lam:Nat->Fn}(h:kk<=k)(L:∀k,Jj P w K mg base kk (PG k) (lam k)):zN P w K mg base (k+1) "_law_refused" 1 (qU 4 (YD PG lam)):=
 jK F hm Qc (λ_ _ _ _ _ _=>yR λ_=>rfl) λc A outer s H E r=>zr (qA 1 Qc.nd JZ) (zr (C6 L (r.mono h) rfl rfl C.top_at C.top_exc (by decide +kernel) C.under Qc.nd rfl rfl rfl rfl rfl rfl rfl) (zr (qA 3 Qc.nd (qT (zl (k8 (C.isx (jM R)) (wb (jM R)) T.jS (zh 1)) (zl (k8 (C.isx (jM R)) (wb (jM R)) T.jS (zh 1)) (zl (k8 (C.isx (jM R)) (wb (jM R)) T.jS (zh 1)) zx))) (zp (zp (zp zF))))) (zr (qA 3 Qc.nd (jN (zh 3) (qT (zl (k8 (C.isx (jM R)) (wb (jM R)) T.jS (zh 1)) (zl (k8 (C.isx (jM R)) (wb (jM R)) T.jS (zh 1)) (zl (k8 (C.isx (jM R)) (wb (jM R)) T.jS (zh 1)) zx))) (zp (zp (zp zF)))))) (zr (qA 3 Qc.nd (jN (zh 3) (qT (zl (k8 (C.isx (jM R)) (wb (jM R)) T.jS (zh 1)) (zl (k8 (C.isx (jM R)) (wb (jM R)) T.jS (zh 1)) (zl (k8 (C.isx (jM R)) (wb (jM R)) T.jS (zh 1)) zx))) (zp (zp (zp zF)))))) (zr (qA 3 Qc.nd (jN (zh 3) (qT (zl (k8 (C.isx (jM R)) (wb (jM R)) T.jS (zh 1)) (zl (k8 (C.isx (jM R)) (wb (jM R)) T.jS (zh 1)) (zl (k8 (C.isx (jM R)) (wb (jM R)) T.jS (zh 1)) zx))) (zp (zp (zp zF)))))) (zr (qA 3 Qc.nd (jN (zh 3) (qT (zl (k8 (C.isx (jM R)) (wb (jM R)) T.jS (zh 1)) (zl (k8 (C.isx (jM R)) (wb (jM R)) T.jS (zh 1)) (zl (k8 (C.isx (jM R)) (wb (jM R)) T.jS (zh 1)) zx))) (zp (zp (zp zF)))))) (zr (jU (JU (ZN (Df C.isv T.jS T.Ik (by rfl) (zh 1)))) (zr (qw JZ) zG) zG) (zr (qw (yo (qQ (N:=["_law_k","_law_marks"]) 1 [3] (jF rfl T.jj zt) (λ_ _ _=>⟨qf 0 (qD (by kernel_rfl)),WS (ZN (qC (zh 1) (zh 0))),qG (zh 0)⟩)))) zG))))))))
abbrev Ry:Stmt:=top 55
def Rf:jc ["_law_state_here","_law_table_here"] ["_law_state_here"] (qo Ry):=jC (by kernel_rfl)
def XU (g:Fn)(I:Fn):Ex:=zo (zX 1 (zH I (zc zm zj))) (zo (ja (zi Jz (zH g (zc zw zj)) Yv) (zo (qv zw) zB) zB) (zo (qv (mQ jm (zM 1 [] (qd zw) (zC 0) zS (zK (mQ jm (zM 1 [] (qd zm) (zC 0) zS (zK (zi ZQ zm qy)))))))) zB))
abbrev J9:Stmt:=top 56
def ZP:jc ["_law_script","_law_k","_law_state_here","_law_table_here","_law_due","_law_turn","_law_found","_law_some","_law_wide","_law_bad"] ["_law_script"] (qo J9):=jC (by kernel_rfl)
noncomputable abbrev j0:Str:=(("law":Str)++(".<locals>.":Str))++("<lambda>":Str)
def JY (j:Fn):Lm:=GQ (N5 (N0 (NZ (NR ((wz J9).getD 0 J5) 5))) 0) ["_law_wide"] [8] (zH j (zc zm zj))
def JX (j:Fn):Lm:=GQ (N5 (N0 (NZ (NR ((wz J9).getD 0 J5) 6))) 0) ["_law_bad"] [9] (zH j (zc zm zj))
def gG (j:Fn):List Lm:=[JY j,JX j]
section
variable {K:Frag}{k:Nat}(T:Bu mg){j7:Fn}(JD:∀base,kS P w K mg base k "steady_partings" 1 j7)
include T JD
theorem DR:Jp P w K mg k j0 (JY j7):=
 ⟨⟨rfl,rfl,rfl,Pb (by kernel_rfl)⟩,λ_ _ _ _=>rfl,λbase cl a c A outer s H E h x=>yE (X7 x (JD base) h (zl (zh 0) zx))⟩
theorem E5:Jp P w K mg k j0 (JX j7):=
 ⟨⟨rfl,rfl,rfl,Pb (by kernel_rfl)⟩,λ_ _ _ _=>rfl,λbase cl a c A outer s H E h x=>yE (X7 x (JD base) h (zl (zh 0) zx))⟩
end
def fS {K:Frag}{k:Nat}(T:Bu mg){j:Fn}(J:∀base,kS P w K mg base k "steady_partings" 1 j):∀t∈gG j,Jp P w K mg k j0 t:=
 all_cons (DR T J) (all_cons (E5 T J) all_nil)
def Ug (c:Fn)(w:Fn)(g:Fn)(a:Fn)(K:Fn)(Z:Fn)(f:Fn)(b:Fn)(d:Fn)(j:Fn)(RF:Nat->List W->Hx->R W)(P:Addr)(PF:jP):Ex:=zo (qY (qJ (zi Uh zV (zi ZQ (mQ qE (qg zm)) qy))) (zC 1) (zo (zX 2 (zH f (zc zm (zc zw zj)))) (zo (zX 3 (zH w (zc zW zj))) (zo (zX 4 (qt (zM 1 [3] (qd (zH K (zc (zH g (zc zQ zj)) zj))) (zC 0) (zH b (zc (zH a (zc zw (zc zm zj))) zj)) (zK zm)))) (zo (qY (qJ qy) (zC 5) (zo (zX 6 (zH d (zc zQ zj))) (zo (ja (wG (zH Z (zc kN (zc qx zj)))) Zy zB) (zo (qY (qd kN) (zC 7) (zo (yw (j9 yA gR (zE zj))) zB)) (zo (yw (j9 yA kN (qb zj))) zB))))) (zo (QG (zE (zc (mQ jm (zM 1 [] (qJ yS) (zC 0) zS (zK (mQ jm (zM 1 [0] (qJ yS) (zC 0) zS (zK (zi ZY zw zm))))))) (zc (zH c (zc zW zj)) zj))) (jo 8 9)) (zo (ja (zi jz (Qs (gG j) PF (Qx RF) (zc (gJ 1 j0 P 0 (PF 0)) zj)) (qb (zc (qc (.int 11)) zj))) Zy zB) (zo (ja (zi jz (Qs (gG j) PF (Qx RF) (zc (gJ 1 j0 P 1 (PF 1)) zj)) (qb (zc zL zj))) Zy zB) zB)))))))) (zo (qv zS) zB)
def o_law {K:Frag}{k:Nat}(T:Bu mg)(F:wL K "law" "law" J9 f fd)(hn:nsIn K mainGlobals "law"=some (some (.ref f)))(r:tabIn K "law"=some (c,Pt))(B:BMain mg base)(C:CodeHd base c Pt){o:Fn}(QO:zN P w K mg base k "_law_bad_table" 1 o){z:Fn}(QU:zN P w K mg base k "_law_few" 1 z){g:Fn}(kX:zN P w K mg base k "_law_kinds" 1 g){e:Fn}(Qe:zN P w K mg base k "_law_made" 2 e){n:Fn}(gY:zN P w K mg base k "_law_partings" 1 n){Z:Fn}(Qf:zN P w K mg base k "_law_same" 2 Z){i:Fn}(JH:zN P w K mg base k "_law_state" 2 i){l:Fn}(QS:zN P w K mg base k "_law_steady" 1 l){p:Fn}(JE:zN P w K mg base k "steady_partings" 1 p){J:Fn}{RF:Nat->List W->Hx->R W}(b:kk<=k)(a:∀t∈gG J,Jp P w K mg j j0 t)(d:∀base PG,(∀k,Jj P w K mg base (j+1) (PG k) (kx (gG J) k))->zN P w K mg base kk "_law_refused" 1 (QI PG RF)):yY P w K mg base gr (k+1) f fd ["_law_script"] (spT K 1 λPF=>qU 10 (Ug o z g e n Z i l p J RF Pt PF)):=
 fP (ls:=gG J) F hn r ZP λA outer s H E h=>zr (jT PassesOwn.never rfl (jF rfl T.jj (Cd rfl T.ZS zt (WI rfl T.Gn (kj T.km (jW (zh 0))) zt))) (qf 1 ZP.nd) (zr (qA 2 ZP.nd (qz JH h (zl (zh 0) (zl (zh 1) zx)))) (zr (qA 3 ZP.nd (qz QU h (zl (zh 2) zx))) (zr (JK 4 (N:=["_law_some","_law_table_here"]) 1 [3] ZP.nd rfl (cps (by kernel_rfl)) (by kernel_rfl) (jl (qz gY h (zl (qz kX h (zl (zh 3) zx)) zx))) (λ_ _ _=>⟨qf 0 (qD (by kernel_rfl)),WS (ZN (qz QS h (zl (qz Qe h (zl (zh 1) (zl (zh 0) zx))) zx))),qG (zh 0)⟩)) (zr (jT PassesOwn.never rfl (jF rfl T.jj zt) (qf 5 ZP.nd) (zr (qA 6 ZP.nd (qz JE h (zl (zh 3) zx))) (zr (jU (JU (ZN (qz Qf h (zl (zh 6) (zl (zh 4) zx))))) (zr (qw k9) zG) zG) (zr (jT PassesOwn.never rfl (jl (zh 6)) (qf 7 ZP.nd) (zr (gB (ZH (zh 7) (qk zx zF))) zG)) (zr (gB (ZH (zh 6) (qT zx zF))) zG))))) (zr (Oj (qk (zl (kE T.yy (yg (qQ (N:=["_law_a"]) 1 [] (jF rfl T.jj zt) (λ_ _ _=>⟨qf 0 (qD (by kernel_rfl)),qN,qG (kE T.yy (yg (qQ (N:=["_law_b","_law_a"]) 1 [0] (jF rfl T.jj zt) (λ_ _ _=>⟨qf 0 (qD (by kernel_rfl)),qN,qG (VB (zh 1) (zh 0))⟩))))⟩)))) (zl (qz QO h (zl (zh 2) zx)) zx)) (zp (zp zF))) (gf 8 9 rfl ZP.nd)) (zr (jU (jV (wU h) (RM (q:=j0) (λ_=>rfl) a (Mf (by kernel_rfl)) d Pr (h.mono b) (zl (P1 (ls:=gG J) (t:=JY J) rfl (by kernel_rfl) B rfl C rfl rfl) zx) (zp zF)) (qT (zl zt zx) (zp zF))) (zr (qw k9) zG) zG) (zr (jU (jV (wU h) (RM (q:=j0) (λ_=>rfl) a (Mf (by kernel_rfl)) d Pr (h.mono b) (zl (P1 (ls:=gG J) (t:=JX J) rfl (by kernel_rfl) B rfl C rfl rfl) zx) (zp zF)) (qT (zl zt zx) (zp zF))) (zr (qw k9) zG) zG) zG)))))))) (zr (qw k9) zG)
def XW:Fn:=qU 1 Fp
def YJ:Fn :=  XW
def R0:Fn:=qU 5 Pe
def X5:Fn:=iso R0
def Tu:Fn:=qU 2 Ts
def Xg:Fn:=iso Tu
def Sh:Fn:=qU 1 Sv
def Wa:Fn:=iso Sh
def XM:Fn:=qU 2 Rj
def Wo:Fn :=  XM
def Xy:Fn:=qU 6 Sg
def Wd:Fn:=iso Xy
def Xm:Fn:=qU 7 Lf
def QQ:Fn:=we Xm
def Sa:Fn:=qU 2 Xt
def K8:Fn :=  Sa
def YH:Fn:=qU 4 XN
def yU:Fn:=wH YH
def XF:Fn:=qU 2 Sx
def QT:Fn :=  XF
def SO:Fn:=qU 1 S7
def kX:Fn:=iso SO
def Xo:Fn:=qU 6 Ln
def gY:Fn:=we Xo
def Wn:Fn:=qU 2 (XI YJ)
def JJ:Fn :=  Wn
def T7:Fn:=qU 7 (T5 Wa)
def ZD:Fn:=iso T7
def Vq:Fn:=qU 6 (OK Wo)
def Y4:Fn :=  Vq
def SX:Fn:=qU 3 (XB K8)
def JH:Fn :=  SX
def Xj:Fn:=qU 4 (TF yU)
def JG:Fn :=  Xj
def XC:Fn:=qU 11 (Xz yU)
def Wg:Fn :=  XC
def Sl:Fn:=qU 6 (Sf kX)
def YE:Fn:=iso Sl
def XQ:Fn:=qU 5 (Rb kX)
def Qe:Fn :=  XQ
def Xk:Fn:=qU 2 (TK yU)
def QO:Fn :=  Xk
def K1:Fn:=qU 3 (Xi JJ)
def Qb:Fn :=  K1
def T8:Fn:=qU 9 (Xu ZD Wd)
def YC:Fn:=iso T8
def Wk:Fn:=qU 4 (SY JG QT Wg)
def JI:Fn:=wH Wk
def Xq:Fn:=qU 5 (T3 kX YE)
def QR:Fn :=  Xq
def YK:Fn:=qU 2 (Wy X5 Qb Xg)
def g7:Fn :=  YK
def Wi:Fn:=qU 7 (SU JI QT yU)
def YF:Fn:=wH Wi
def Ss:Fn:=qU 1 (Sr QR)
def QS:Fn:=iso Ss
def Iv:Fn:=qU 2 (ZG (λ_ _=>.bad))
def SN:Fn :=  Iv
def IP:Fn:=qU 2 (ZG SN)
def XA:Fn :=  IP
def IA:Fn:=qU 2 (ZG XA)
def XG:Fn :=  IA
def He:Fn:=qU 2 (ZG XG)
def Qf:Fn :=  He
def Yy:Fn:=ZT 1 (Xn g7)
def X1:Fn:=qU 2 (XU kX YF)
def QU:Fn:=wH X1
def kO:Fn:=ZT 2 (K2 Wa QQ Y4 YC Yy)
def JE:Fn:=we (λws A=>(kO ws A).nox)
structure Tx (K:Frag):Prop where
 HK:FD K "is_whole" Rw
 FJ:FD K "is_even" R7
 MO:FD K "leaves_no_kind_out" Tt
 L7:FD K "count_kinds" Sd
 Hr:FD K "put_names" Rg
 Ii:FD K "first_pairs" Sb
 Ll:FD K "list_partings" TU
 LF:FD K "_law_cell_at" T4
 IZ:FD K "_law_take" S8
 ID:FD K "_law_named" SD
 Ij:FD K "_law_kinds" SK
 Lk:FD K "_law_partings" TR
 Hf:FD K "is_wholes" Ra
 LG:FD K "count_shares" T9
 BK:FD K "merge" Ou
 IH:FD K "_law_state" Sz
 La:FD K "_law_mixed_row" TN
 IM:FD K "_law_plain" SV
 L1:FD K "_law_shares" Sn
 Hg:FD K "_law_made" S9
 Lb:FD K "_law_bad_table" TH
 M7:FD K "is_wholes_below" TB
 Lu:FD K "search_break" TX
 IF:FD K "_law_known" S6
 LP:FD K "_law_by_kind" TV
 HM:FD K "is_table" Ru
 IS:FD K "_law_table" Sw
 Ig:FD K "_law_steady" Su
 Wr:FD K "_law_same" XJ
 Lp:FD K "require_table" TQ
 HV:FD K "_law_few" Ry
 M0:FD K "steady_partings" TC
 LH:FD K "_law_refused" Xr
 zbA:FD K "law" J9
 IQ:nsIn K mainGlobals "ValueError"=some none
 zca:nsIn K mainGlobals "abs"=some none
 zcq:nsIn K mainGlobals "all"=some none
 za1:nsIn K mainGlobals "bool"=some none
 Hw:nsIn K mainGlobals "enumerate"=some none
 zcj:nsIn K mainGlobals "int"=some none
 Il:nsIn K mainGlobals "isinstance"=some none
 zbR:nsIn K mainGlobals "len"=some none
 zbb:nsIn K mainGlobals "list"=some none
 zcp:nsIn K mainGlobals "max"=some none
 zbC:nsIn K mainGlobals "min"=some none
 BP:nsIn K mainGlobals "range"=some none
 zb3:nsIn K mainGlobals "set"=some none
 E2:nsIn K mainGlobals "sorted"=some none
 zco:nsIn K mainGlobals "sum"=some none
 B6:nsIn K mainGlobals "tuple"=some none
 zcr:nsIn K mainGlobals "zip"=some none
 MV:CD K "MOST_PARTED_KINDS" 6
 L6:CD K "MOST_PLACES" 8
 zct:qV.all (Ga K "NearError" ·)=true
 zbF:VS K "NearError"=true
 zb0:WD.all (Qv K qV)=true
section
variable {K:Frag}
def bu (X:K.In h)(G:h.Ns mainGlobals mg)(T:Tx K):Bu mg:=⟨a7 X G T.IQ,a7 X G T.zca,a7 X G T.zcq,a7 X G T.za1,a7 X G T.Hw,a7 X G T.zcj,a7 X G T.Il,a7 X G T.zbR,a7 X G T.zbb,a7 X G T.zcp,a7 X G T.zbC,a7 X G T.BP,a7 X G T.zb3,a7 X G T.E2,a7 X G T.zco,a7 X G T.B6,a7 X G T.zcr,(let ⟨t,e⟩:=T.MV;⟨t,a8 X G e⟩),(let ⟨t,e⟩:=T.L6;⟨t,a8 X G e⟩)⟩
def cl (T:Tx K):wN K qV "NearError":=fq T.zct T.zbF
structure Zz (K:Frag)(h:Heap)(mg:cm):Prop where
 X:K.In h
 G:h.Ns mainGlobals mg
 T:Tx K
 B:Bu mg
 C:wN K qV "NearError"
def zz (X:K.In h)(G:h.Ns mainGlobals mg)(T:Tx K):Zz K h mg:=⟨X,G,T,bu X G T,cl T⟩
def HU (Z:Zz K h mg):zN P w K mg base 1 "is_whole" 1 YJ:=by
 obtain⟨f,fd,F,a⟩:=Z.T.HK;exact(jK F (a8 Z.X Z.G a) IX (λ_ _ _ _ _ _=>yR λ_=>rfl) λc A outer s H E r=>zr (qw (JW (Zh .int Z.B.jS Z.B.Ya (by rfl) (zh 0)) (Y1 (CF (Zh .bl Z.B.jS Z.B.Ua (by rfl) (zh 0)))))) (zG):zN P w K mg base 1 "is_whole" 1 XW)
def FK (Z:Zz K h mg):zN P w K mg base 1 "is_even" 1 X5:=by
 obtain⟨f,fd,F,a⟩:=Z.T.FJ;exact(jK F (a8 Z.X Z.G a) XY (λ_ _ _ _ _ _=>yR λ_=>rfl) λc A outer s H E r=>zr (jT PassesOwn.never rfl (QY rfl Z.B.Qd (zh 0)) (gf 1 2 rfl XY.nd) (zr (jT PassesOwn.never rfl (QY rfl Z.B.Qd (zh 2)) (gf 3 4 rfl XY.nd) (zr (jU (YY (VW (jV (wU r) (gH (ka r) (zh 4) zt) (gH (ka r) (zh 1) (zh 3))) (Vr (jV (wU r) (qC (qC (zh 0) (zh 3)) (zh 1)) (zh 4))))) (zr (qw k9) zG) zG) zG)) zG)) (zr (qw k9) zG):zN P w K mg base 1 "is_even" 1 R0).iso
def MU (Z:Zz K h mg):zN P w K mg base 1 "leaves_no_kind_out" 1 Xg:=by
 obtain⟨f,fd,F,a⟩:=Z.T.MO;exact(jK F (a8 Z.X Z.G a) Tq (λ_ _ _ _ _ _=>yR λ_=>rfl) λc A outer s H E r=>zr (qA 1 Tq.nd (yo (qQ (N:=["row","kind"]) 2 [] (jl (zh 0)) (λ_ _ _=>⟨qf 0 (qD (by kernel_rfl)),qN,BU (λ_ _ z=>z) rfl rfl (by intro _ h;cases h<;>rfl) (jl (zh 0)) (qf 1 (qD (by kernel_rfl))) qN (qG (zh 1))⟩)))) (zr (qw (Y3 rfl Z.B.Kq (yg (qQ (N:=["kind","standing"]) 1 [1] (jF rfl Z.B.jj (Qj rfl Z.B.ZS (jW (zh 1)))) (λ_ _ _=>⟨qf 0 (qD (by kernel_rfl)),qN,qG (fc N3 (zh 0) (zh 1))⟩))))) zG):zN P w K mg base 1 "leaves_no_kind_out" 1 Tu).iso
def Si (Z:Zz K h mg):zN P w K mg base 1 "count_kinds" 1 Wa:=by
 obtain⟨f,fd,F,a⟩:=Z.T.L7;exact(jK F (a8 Z.X Z.G a) LB (λ_ _ _ _ _ _=>yR λ_=>rfl) λc A outer s H E r=>zr (qw (jN (Qj rfl Z.B.ZS (yg (qQ (N:=["row"]) 1 [] (jl (zh 0)) (λ_ _ _=>⟨qf 0 (qD (by kernel_rfl)),qN,qG (Qj rfl Z.B.ZS (jW (zh 0)))⟩)))) zt)) (zG):zN P w K mg base 1 "count_kinds" 1 Sh).iso
def I9 (Z:Zz K h mg):zN P w K mg base 1 "put_names" 2 Wo:=by
 obtain⟨f,fd,F,a⟩:=Z.T.Hr;exact(jK F (a8 Z.X Z.G a) IC (λ_ _ _ _ _ _=>Zv λ_ _=>rfl) λc A outer s H E r=>zr (qw (kE Z.B.yy (yg (qQ (N:=["row","names"]) 1 [1] (jl (zh 0)) (λ_ _ _=>⟨qf 0 (qD (by kernel_rfl)),qN,qG (kE Z.B.yy (yg (qQ (N:=["kind","names"]) 1 [1] (jl (zh 0)) (λ_ _ _=>⟨qf 0 (qD (by kernel_rfl)),qN,qG (FX r (zh 1) (zh 0))⟩))))⟩))))) (zG):zN P w K mg base 1 "put_names" 2 XM)
def L4 (Z:Zz K h mg):zN P w K mg base 1 "first_pairs" 1 Wd:=by
 obtain⟨f,fd,F,a⟩:=Z.T.Ii;exact(jK F (a8 Z.X Z.G a) K9 (λ_ _ _ _ _ _=>yR λ_=>rfl) λc A outer s H E r=>zr (qA 1 K9.nd OX) (zr (jT PassesOwn.never rfl (QY rfl Z.B.Qd (zh 0)) (gf 2 3 rfl K9.nd) (zr (jT PassesOwn.never rfl (QY rfl Z.B.Qd (zh 3)) (gf 4 5 rfl K9.nd) (zr (gB (HI (zh 1) (zh 5) (qk (zl (zh 2) (zl (zh 4) zx)) (zp (zp zF))))) zG)) zG)) (zr (qw (zh 1)) zG)):zN P w K mg base 1 "first_pairs" 1 Xy).iso
def Lo (Z:Zz K h mg):zN P w K mg base 1 "list_partings" 1 QQ:=by
 obtain⟨f,fd,F,a⟩:=Z.T.Ll;exact(jK F (a8 Z.X Z.G a) QP (λ_ _ _ _ _ _=>yR λ_=>rfl) λc A outer s H E r=>zr (qA 1 QP.nd (qT (zl (qT zx zF) zx) (zp zF))) (zr (jT PassesOwn.never rfl (P8 rfl Z.B.jj zt (zh 0)) (qf 2 QP.nd) (zr (JK 3 (N:=["parting","kind"]) 1 [2] QP.nd rfl (cps (by kernel_rfl)) (by kernel_rfl) (jl (zh 1)) (λ_ _ _=>⟨qf 0 (qD (by kernel_rfl)),qN,qG (jN (zh 0) (qT (zl (qk (zl (zh 1) zx) (zp zF)) zx) (zp zF)))⟩)) (zr (jT PassesOwn.never rfl (jl (zh 1)) (qf 4 QP.nd) (zr (jT PassesOwn.never rfl (QY rfl Z.B.Qd (zh 4)) (gf 5 6 rfl QP.nd) (zr (gB (ZH (zh 3) (jN (jN (Oa (zh 4) Nm (OO (zh 5))) (qT (zl (jN (zh 6) (qk (zl (zh 2) zx) (zp zF))) zx) (zp zF))) (Oa (zh 4) (OO (jN (zh 5) zt)) Nm)))) zG)) zG)) (zr (qA 1 QP.nd (zh 3)) zG)))) (zr (qw (zh 1)) zG)):zN P w K mg base 1 "list_partings" 1 Xm).we
def LN (Z:Zz K h mg):zN P w K mg base 1 "_law_cell_at" 2 K8:=by
 obtain⟨f,fd,F,a⟩:=Z.T.LF;exact(jK F (a8 Z.X Z.G a) Lj (λ_ _ _ _ _ _=>Zv λ_ _=>rfl) λc A outer s H E r=>zr (jU (jV UK (zh 1) (kj Z.B.km (jW (zh 0)))) (zr (qw (qC (zh 0) (zh 1))) zG) zG) (zr (qw zt) zG):zN P w K mg base 1 "_law_cell_at" 2 Sa)
def wu (Z:Zz K h mg):zN P w K mg base 1 "_law_take" 2 yU:=by
 obtain⟨f,fd,F,a⟩:=Z.T.IZ;exact(jK F (a8 Z.X Z.G a) Wj (λ_ _ _ _ _ _=>Zv λ_ _=>rfl) λc A outer s H E r=>zr (jU (ZN (qC (zh 0) zt)) (zr (qA 2 Wj.nd (Qk (qC (zh 0) zt) (zh 1))) (zr (Q0 (JR (qC (zh 0) zt) (zh 1)) (zh 0) zt) (zr (qw (zh 2)) zG))) zG) (zr (Q0 (Qk (jN (kZ (qC (zh 0) zt) zt) zt) zt) (zh 0) zt) (zr (qA 3 Wj.nd (Qk (jN (jN (kZ (qC (zh 0) zt) (qC (zh 0) zt)) (kZ zt (qC (zh 0) zt))) zt) zt)) (zr (qA 3 Wj.nd (Qk (jN (kZ (zh 3) (zh 3)) (kZ zt (zh 3))) zt)) (zr (qw (Qk (JR (zh 3) zt) (zh 1))) zG)))):zN P w K mg base 1 "_law_take" 2 YH).wH
def XD (Z:Zz K h mg):zN P w K mg base 1 "_law_named" 1 QT:=by
 obtain⟨f,fd,F,a⟩:=Z.T.ID;exact(jK F (a8 Z.X Z.G a) Sj (λ_ _ _ _ _ _=>yR λ_=>rfl) λc A outer s H E r=>zr (qA 1 Sj.nd (Hj rfl Z.B.WO Z.B.zce (E8 rfl Z.B.zbN (yo (qQ (N:=["_law_row"]) 1 [] (jl (zh 0)) (λ_ _ _=>⟨qf 0 (qD (by kernel_rfl)),qN,qG (Vf Z.B.Qu (jW (zh 0)))⟩))) (qT zx zF)))) (zr (qw (kE Z.B.yy (yg (qQ (N:=["_law_row","_law_some"]) 1 [1] (jl (zh 0)) (λ_ _ _=>⟨qf 0 (qD (by kernel_rfl)),qN,qG (kE Z.B.yy (yg (qQ (N:=["_law_kind","_law_some"]) 1 [1] (jl (zh 0)) (λ_ _ _=>⟨qf 0 (qD (by kernel_rfl)),qN,qG (Er r (zh 1) (zh 0))⟩))))⟩))))) zG):zN P w K mg base 1 "_law_named" 1 XF)
def YG (Z:Zz K h mg):zN P w K mg base 1 "_law_kinds" 1 kX:=by
 obtain⟨f,fd,F,a⟩:=Z.T.Ij;exact(jK F (a8 Z.X Z.G a) LY (λ_ _ _ _ _ _=>yR λ_=>rfl) λc A outer s H E r=>zr (qw (jN zt (Qj rfl Z.B.ZS (yg (qQ (N:=["_law_row"]) 1 [] (jl (zh 0)) (λ_ _ _=>⟨qf 0 (qD (by kernel_rfl)),qN,qG (Qj rfl Z.B.ZS (jW (zh 0)))⟩)))))) (zG):zN P w K mg base 1 "_law_kinds" 1 SO).iso
def Lr (Z:Zz K h mg):zN P w K mg base 1 "_law_partings" 1 gY:=by
 obtain⟨f,fd,F,a⟩:=Z.T.Lk;exact(jK F (a8 Z.X Z.G a) QN (λ_ _ _ _ _ _=>yR λ_=>rfl) λc A outer s H E r=>zr (qA 1 QN.nd (qT (zl (qT zx zF) zx) (zp zF))) (zr (jT PassesOwn.never rfl (P8 rfl Z.B.jj zt (zh 0)) (qf 2 QN.nd) (zr (qA 3 QN.nd (qT zx zF)) (zr (jT PassesOwn.never rfl (jl (zh 1)) (qf 4 QN.nd) (zr (gB (ZH (zh 3) (jN (zh 4) (qT (zl (qT (zl (zh 2) zx) (zp zF)) zx) (zp zF))))) (zr (jT PassesOwn.never rfl (jF rfl Z.B.jj (kj Z.B.km (jW (zh 4)))) (qf 5 QN.nd) (zr (gB (ZH (zh 3) (yo (qQ (N:=["_law_k","_law_kind","_law_some","_law_at"]) 1 [2,4,5] (jF rfl Z.B.jj (kj Z.B.km (jW (zh 4)))) (λ_ _ _=>⟨qf 0 (qD (by kernel_rfl)),qN,qG (Np (jV (ka r) (zh 0) (zh 3)) (jN (qC (zh 2) (zh 0)) (qT (zl (zh 1) zx) (zp zF))) (qC (zh 2) (zh 0)))⟩))))) zG)) zG))) (zr (qA 1 QN.nd (zh 3)) zG)))) (zr (qw (Rn r Z.B.WO (yo (qQ (N:=["_law_some"]) 1 [] (jl (zh 1)) (λ_ _ _=>⟨qf 0 (qD (by kernel_rfl)),qN,qG (F4 rfl Z.B.WO (yo (qQ (N:=["_law_one"]) 1 [] (jl (zh 0)) (λ_ _ _=>⟨qf 0 (qD (by kernel_rfl)),qN,qG (kE Z.B.yy (jW (zh 0)))⟩))))⟩))))) zG)):zN P w K mg base 1 "_law_partings" 1 Xo).we
def Hh (Z:Zz K h mg):zN P w K mg base 2 "is_wholes" 2 JJ:=by
 obtain⟨f,fd,F,a⟩:=Z.T.Hf;exact(jK F (a8 Z.X Z.G a) IG (λ_ _ _ _ _ _=>Zv λ_ _=>rfl) λc A outer s H E r=>zr (qw (JW (Zh .tup Z.B.jS Z.B.yy (by rfl) (zh 0)) (JW (gH (ka r) (kj Z.B.km (jW (zh 0))) (zh 1)) (Y1 (Y3 rfl Z.B.Kq (yg (qQ (N:=["part"]) 1 [] (jl (zh 0)) (λ_ _ _=>⟨qf 0 (qD (by kernel_rfl)),qN,qG (qz (HU Z).up r (zl (zh 0) zx))⟩)))))))) (zG):zN P w K mg base 2 "is_wholes" 2 Wn)
def T6 (Z:Zz K h mg):zN P w K mg base 2 "count_shares" 3 ZD:=by
 obtain⟨f,fd,F,a⟩:=Z.T.LG;exact(jK F (a8 Z.X Z.G a) K5 (λ_ _ _ _ _ _=>UZ λ_ _ _=>rfl) λc A outer s H E r=>zr (qA 3 K5.nd (qz (Si Z).up r (zl (zh 0) zx))) (zr (JK 4 (N:=["kind","many"]) 1 [3] K5.nd rfl (cps (by kernel_rfl)) (by kernel_rfl) (jF rfl Z.B.jj (zh 3)) (λ_ _ _=>⟨qf 0 (qD (by kernel_rfl)),qN,qG (kZ (qT (zl zt zx) (zp zF)) (zh 1))⟩)) (zr (jT PassesOwn.never rfl (Og rfl Z.B.NC (qC (zh 0) (zh 1)) (qC (zh 0) (zh 2))) (gf 5 6 rfl K5.nd) (zr (P5 (qC (zh 4) (zh 5)) (zh 6) zt) zG)) (zr (qw (kE Z.B.yy (yg (qQ (N:=["row"]) 1 [] (jl (zh 4)) (λ_ _ _=>⟨qf 0 (qD (by kernel_rfl)),qN,qG (kE Z.B.yy (jW (zh 0)))⟩))))) zG))):zN P w K mg base 2 "count_shares" 3 T7).iso
def CB (Z:Zz K h mg):zN P w K mg base 2 "merge" 2 Y4:=by
 obtain⟨f,fd,F,a⟩:=Z.T.BK;exact(jK F (a8 Z.X Z.G a) WT (λ_ _ _ _ _ _=>Zv λ_ _=>rfl) λc A outer s H E r=>zr (qA 2 WT.nd (fR zt zt)) (zr (jT PassesOwn.never rfl (Fx rfl Z.B.Qd (zh 1)) (gf 3 4 rfl WT.nd) (zr (jT PassesOwn.never rfl (jl (zh 4)) (qf 5 WT.nd) (zr (Ce r (zh 3) (zh 2) (zh 5)) zG)) zG)) (zr (qw (qz (I9 Z).up r (zl (zh 0) (zl (zh 2) zx)))) zG)):zN P w K mg base 2 "merge" 2 Vq)
def Iz (Z:Zz K h mg):zN P w K mg base 2 "_law_state" 2 JH:=by
 obtain⟨f,fd,F,a⟩:=Z.T.IH;exact(jK F (a8 Z.X Z.G a) So (λ_ _ _ _ _ _=>Zv λ_ _=>rfl) λc A outer s H E r=>zr (qA 2 So.nd (qz (LN Z).up r (zl (zh 0) (zl (zh 1) zx)))) (zr (jU (jV ej (zh 2) (Oc zt zt)) (zr (qw (qT (zl (ZM (zh 2) (Oc zt zt)) (zl k9 zx)) (zp (zp zF)))) zG) zG) (zr (qw (qT (zl (Qk (zh 2) zt) (zl k9 zx)) (zp (zp zF)))) zG)):zN P w K mg base 2 "_law_state" 2 SX)
def TJ (Z:Zz K h mg):zN P w K mg base 2 "_law_mixed_row" 2 JG:=by
 obtain⟨f,fd,F,a⟩:=Z.T.La;exact(jK F (a8 Z.X Z.G a) Xh (λ_ _ _ _ _ _=>Zv λ_ _=>rfl) λc A outer s H E r=>zr (qA 2 Xh.nd (Vf Z.B.Qu (jW (zh 1)))) (zr (qA 3 Xh.nd (qT zx zF)) (zr (F9 1000 PassesOwn.never (jV (wU r) (zh 2) (qT zx zF)) (zr (gB (ZH (zh 3) (ER (zh 2) (qz (wu Z).up r (zl (zh 0) (zl (kj Z.B.km (jW (zh 2))) zx)))))) zG)) (zr (qw (zh 3)) zG))):zN P w K mg base 2 "_law_mixed_row" 2 Xj)
def IT (Z:Zz K h mg):zN P w K mg base 2 "_law_plain" 1 Wg:=by
 obtain⟨f,fd,F,a⟩:=Z.T.IM;exact(jK F (a8 Z.X Z.G a) wt (λ_ _ _ _ _ _=>yR λ_=>rfl) λc A outer s H E r=>zr (qA 1 wt.nd (qz (wu Z).up r (zl (zh 0) (zl zt zx)))) (zr (qA 2 wt.nd (qC (qT (zl zt (zl zt (zl zt (zl zt (zl zt (zl zt (zl zt (zl zt zx)))))))) (zp (zp (zp (zp (zp (zp (zp (zp zF))))))))) (qz (wu Z).up r (zl (zh 0) (zl zt zx))))) (zr (jU (jV (ka r) (zh 1) zt) (zr (qw (yo (qQ (N:=["_law_a","_law_many"]) 1 [2] (jF rfl Z.B.jj (zh 2)) (λ_ _ _=>⟨qf 0 (qD (by kernel_rfl)),qN,qG (yo (qQ (N:=["_law_b","_law_a","_law_many"]) 1 [0,1] (jF rfl Z.B.jj (zh 1)) (λ_ _ _=>⟨qf 0 (qD (by kernel_rfl)),qN,qG (WI rfl Z.B.Gn (VC Z.B.Uk (ZM (zh 1) (zh 0))) (ZM (zh 2) (VC Z.B.Uk (ZM (zh 1) (zh 0)))))⟩)))⟩)))) zG) zG) (zr (jU (jV (ka r) (zh 1) zt) (zr (qA 2 wt.nd (qC (qT (zl zt (zl zt (zl zt zx))) (zp (zp (zp zF)))) (qz (wu Z).up r (zl (zh 0) (zl zt zx))))) (zr (qw (yo (qQ (N:=["_law_a","_law_many"]) 1 [2] (jF rfl Z.B.jj (zh 2)) (λ_ _ _=>⟨qf 0 (qD (by kernel_rfl)),qN,qG (yo (qQ (N:=["_law_b","_law_a"]) 1 [0] (jF rfl Z.B.jj (zh 1)) (λ_ _ _=>⟨qf 0 (qD (by kernel_rfl)),qN,qG (qC (qT (zl zt (zl zt (zl zt (zl zt (zl zt (zl zt (zl zt (zl zt zx)))))))) (zp (zp (zp (zp (zp (zp (zp (zp zF))))))))) (VB (zh 1) (zh 0)))⟩)))⟩)))) zG)) zG) (zr (jU (jV (ka r) (zh 1) zt) (zr (qw (yo (qQ (N:=["_law_a","_law_many"]) 1 [2] (jF rfl Z.B.jj (zh 2)) (λ_ _ _=>⟨qf 0 (qD (by kernel_rfl)),qN,qG (yo (qQ (N:=["_law_b","_law_a"]) 1 [0] (jF rfl Z.B.jj (zh 1)) (λ_ _ _=>⟨qf 0 (qD (by kernel_rfl)),qN,qG (YO Z.B.Ya (gH (wU r) (zh 1) (zh 0)))⟩)))⟩)))) zG) zG) (zr (jU (jV (ka r) (zh 1) zt) (zr (Oj (qC (qT (zl (qk (zl zt (zl zt zx)) (zp (zp zF))) (zl (qk (zl zt (zl zt zx)) (zp (zp zF))) (zl (qk (zl zt (zl zt zx)) (zp (zp zF))) (zl (qk (zl zt (zl zt zx)) (zp (zp zF))) (zl (qk (zl zt (zl zt zx)) (zp (zp zF))) zx))))) (zp (zp (zp (zp (zp zF)))))) (qz (wu Z).up r (zl (zh 0) (zl zt zx)))) (gf 3 4 rfl wt.nd)) (zr (qA 2 wt.nd (kZ (zh 3) (zh 4))) (zr (qw (yo (qQ (N:=["_law_a","_law_many","_law_wide"]) 1 [2,3] (jF rfl Z.B.jj (zh 2)) (λ_ _ _=>⟨qf 0 (qD (by kernel_rfl)),qN,qG (yo (qQ (N:=["_law_b","_law_a","_law_wide"]) 1 [0,2] (jF rfl Z.B.jj (zh 1)) (λ_ _ _=>⟨qf 0 (qD (by kernel_rfl)),qN,qG (jN (YO Z.B.Ya (gH (wU r) (zh 1) (zh 0))) (YO Z.B.Ya (gH (wU r) (JR (zh 1) (zh 2)) (JR (zh 0) (zh 2)))))⟩)))⟩)))) zG))) zG) (zr (jU (jV (ka r) (zh 1) zt) (zr (qA 5 wt.nd (qT (zl (qk (zl zt (zl zt zx)) (zp (zp zF))) (zl (qk (zl zt (zl zt zx)) (zp (zp zF))) (zl (qk (zl zt (zl zt zx)) (zp (zp zF))) (zl (qk (zl zt (zl zt zx)) (zp (zp zF))) (zl (qk (zl zt (zl zt zx)) (zp (zp zF))) (zl (qk (zl zt (zl zt zx)) (zp (zp zF))) zx)))))) (zp (zp (zp (zp (zp (zp zF)))))))) (zr (qw (yo (qQ (N:=["_law_a","_law_some"]) 1 [5] (jl (zh 5)) (λ_ _ _=>⟨qf 0 (qD (by kernel_rfl)),qN,qG (yo (qQ (N:=["_law_b","_law_a"]) 1 [0] (jl (zh 1)) (λ_ _ _=>⟨qf 0 (qD (by kernel_rfl)),qN,qG (ZM zt (kj Z.B.km (yg (qQ (N:=["_law_one","_law_b"]) 1 [0] (jl (zh 1)) (λ_ _ _=>⟨qf 0 (qD (by kernel_rfl)),WS (Nu N3 (zh 0) (zh 1)),qG (zh 0)⟩)))))⟩)))⟩)))) zG)) zG) (zr (jU (jV (ka r) (zh 1) zt) (zr (qA 2 wt.nd (qC (qT (zl zt (zl zt (zl zt zx))) (zp (zp (zp zF)))) (qz (wu Z).up r (zl (zh 0) (zl zt zx))))) (zr (qw (yo (qQ (N:=["_law_a","_law_many"]) 1 [2] (jF rfl Z.B.jj (zh 2)) (λ_ _ _=>⟨qf 0 (qD (by kernel_rfl)),qN,qG (yo (qQ (N:=["_law_b","_law_a"]) 1 [0] (jF rfl Z.B.jj (zh 1)) (λ_ _ _=>⟨qf 0 (qD (by kernel_rfl)),qN,qG (VB (zh 1) (zh 0))⟩)))⟩)))) zG)) zG) (zr (qA 3 wt.nd (qC (qT (zl zt (zl zt (zl zt zx))) (zp (zp (zp zF)))) (qz (wu Z).up r (zl (zh 0) (zl zt zx))))) (zr (qA 6 wt.nd (qT (zl zt (zl zt (zl (qC (qT (zl zt (zl zt zx)) (zp (zp zF))) (YO Z.B.Ya (gH (ka r) (zh 3) zt))) (zl zt zx)))) (zp (zp (zp (zp zF)))))) (zr (qA 7 wt.nd (qT zx zF)) (zr (jT PassesOwn.never rfl (jF rfl Z.B.jj (kZ zt (zh 3))) (qf 8 wt.nd) (zr (qA 9 wt.nd (yo (qQ (N:=["_law_b","_law_wide","_law_ring","_law_a"]) 1 [3,6,8] (jF rfl Z.B.jj (kZ zt (zh 3))) (λ_ _ _=>⟨qf 0 (qD (by kernel_rfl)),qN,qG (qC (zh 2) (Qk (VC Z.B.Uk (ZM (zh 3) (zh 0))) (zh 1)))⟩)))) (zr (qA 10 wt.nd (yo (qQ (N:=["_law_b","_law_wide","_law_a"]) 1 [3,8] (jF rfl Z.B.jj (kZ zt (zh 3))) (λ_ _ _=>⟨qf 0 (qD (by kernel_rfl)),qN,qG (YO Z.B.Ya (gH (wU r) (JR (zh 2) (zh 1)) (JR (zh 0) (zh 1))))⟩)))) (zr (jU (jV (ka r) (zh 1) zt) (zr (gB (ZH (zh 7) (yo (qQ (N:=["_law_b","_law_near","_law_far"]) 1 [9,10] (jF rfl Z.B.jj (kZ zt (zh 3))) (λ_ _ _=>⟨qf 0 (qD (by kernel_rfl)),qN,qG (jN (kZ zt (qC (zh 2) (zh 0))) (qC (zh 1) (zh 0)))⟩))))) zG) (zr (gB (ZH (zh 7) (yo (qQ (N:=["_law_b","_law_near","_law_far"]) 1 [9,10] (jF rfl Z.B.jj (kZ zt (zh 3))) (λ_ _ _=>⟨qf 0 (qD (by kernel_rfl)),qN,qG (Np (jV (ka r) (qC (zh 2) (zh 0)) zt) zt (qC (zh 1) (zh 0)))⟩))))) zG)) zG)))) (zr (qw (zh 7)) zG)))))))))))):zN P w K mg base 2 "_law_plain" 1 XC)
def Ib (Z:Zz K h mg):zN P w K mg base 2 "_law_shares" 3 YE:=by
 obtain⟨f,fd,F,a⟩:=Z.T.L1;exact(jK F (a8 Z.X Z.G a) K7 (λ_ _ _ _ _ _=>UZ λ_ _ _=>rfl) λc A outer s H E r=>zr (qA 3 K7.nd (qz (YG Z).up r (zl (zh 0) zx))) (zr (JK 4 (N:=["_law_kind","_law_many"]) 1 [3] K7.nd rfl (cps (by kernel_rfl)) (by kernel_rfl) (jF rfl Z.B.jj (zh 3)) (λ_ _ _=>⟨qf 0 (qD (by kernel_rfl)),qN,qG (kZ (qT (zl zt zx) (zp zF)) (zh 1))⟩)) (zr (jT PassesOwn.never rfl (jF rfl Z.B.jj (kj Z.B.km (jW (zh 0)))) (qf 5 K7.nd) (zr (P5 (qC (zh 4) (qC (qC (zh 0) (zh 1)) (zh 5))) (qC (qC (zh 0) (zh 2)) (zh 5)) zt) zG)) (zr (qw (kE Z.B.yy (yg (qQ (N:=["_law_row"]) 1 [] (jl (zh 4)) (λ_ _ _=>⟨qf 0 (qD (by kernel_rfl)),qN,qG (kE Z.B.yy (jW (zh 0)))⟩))))) zG))):zN P w K mg base 2 "_law_shares" 3 Sl).iso
def Hn (Z:Zz K h mg):zN P w K mg base 2 "_law_made" 2 Qe:=by
 obtain⟨f,fd,F,a⟩:=Z.T.Hg;exact(jK F (a8 Z.X Z.G a) We (λ_ _ _ _ _ _=>Zv λ_ _=>rfl) λc A outer s H E r=>zr (qA 2 We.nd (kZ (qT (zl zt zx) (zp zF)) (qz (YG Z).up r (zl (zh 0) zx)))) (zr (jT PassesOwn.never rfl (jF rfl Z.B.jj (kj Z.B.km (jW (zh 1)))) (qf 3 We.nd) (zr (jT PassesOwn.never rfl (jl (qC (zh 1) (zh 3))) (qf 4 We.nd) (zr (Q0 (jN (zh 3) zt) (zh 2) (zh 4)) zG)) zG)) (zr (qw (kE Z.B.yy (yg (qQ (N:=["_law_row","_law_names"]) 1 [2] (jl (zh 0)) (λ_ _ _=>⟨qf 0 (qD (by kernel_rfl)),qN,qG (kE Z.B.yy (yg (qQ (N:=["_law_kind","_law_names"]) 1 [1] (jl (zh 0)) (λ_ _ _=>⟨qf 0 (qD (by kernel_rfl)),qN,qG (qC (zh 1) (zh 0))⟩))))⟩))))) zG)):zN P w K mg base 2 "_law_made" 2 XQ)
def M9 (Z:Zz K h mg):zN P w K mg base 2 "_law_bad_table" 1 QO:=by
 obtain⟨f,fd,F,a⟩:=Z.T.Lb;exact(jK F (a8 Z.X Z.G a) Yx (λ_ _ _ _ _ _=>yR λ_=>rfl) λc A outer s H E r=>zr (qA 1 Yx.nd (qT (zl JZ (zl zt (zl (qk zx zF) (zl (qk (zl (qk zx zF) zx) (zp zF)) (zl (qk (zl (qk (zl zt zx) (zp zF)) zx) (zp zF)) (zl (qT (zl (qT (zl zt zx) (zp zF)) zx) (zp zF)) (zl (qk (zl (qT (zl zt zx) (zp zF)) zx) (zp zF)) (zl (qk (zl (qk (zl zt zx) (zp zF)) (zl (qk (zl zt zx) (zp zF)) zx)) (zp (zp zF))) (zl (qk (zl (qk (zl zt (zl zt zx)) (zp (zp zF))) (zl (qk (zl zt (zl zt zx)) (zp (zp zF))) zx)) (zp (zp zF))) (zl (qk (zl (qk (zl zt (zl zt zx)) (zp (zp zF))) (zl (qk (zl zt (zl zt zx)) (zp (zp zF))) zx)) (zp (zp zF))) (zl OX zx))))))))))) (zp (zp (zp (zp (zp (zp (zp (zp (zp (zp (zp zF))))))))))))) (zr (qA 1 Yx.nd (jN (zh 1) (qT (zl (qk (zl (qk (zl zt (zl zt zx)) (zp (zp zF))) (zl (qk (zl zt (zl zt zx)) (zp (zp zF))) zx)) (zp (zp zF))) (zl (qk (zl (qk (zl k9 zx) (zp zF)) zx) (zp zF)) (zl (qk (zl (qk (zl zt (zl k9 zx)) (zp (zp zF))) (zl (qk (zl k9 (zl zt zx)) (zp (zp zF))) zx)) (zp (zp zF))) (zl (qk (zl (qk (zl zt (zl (Ol zt) zx)) (zp (zp zF))) (zl (qk (zl (Ol zt) (zl zt zx)) (zp (zp zF))) zx)) (zp (zp zF))) (zl (qk (zl (qk (zl zt (zl zt zx)) (zp (zp zF))) (zl (qk (zl zt (zl zt zx)) (zp (zp zF))) (zl (qk (zl zt (zl zt zx)) (zp (zp zF))) zx))) (zp (zp (zp zF)))) zx))))) (zp (zp (zp (zp (zp zF)))))))) (zr (qA 1 Yx.nd (jN (zh 1) (qT (zl (qk (zl (qk (zl zt (zl zt (zl zt zx))) (zp (zp (zp zF)))) (zl (qk (zl zt (zl zt (zl zt zx))) (zp (zp (zp zF)))) (zl (qk (zl zt (zl zt (zl zt zx))) (zp (zp (zp zF)))) zx))) (zp (zp (zp zF)))) (zl VL (zl (qk (zl (qk (zl zt (zl zt (zl zt zx))) (zp (zp (zp zF)))) (zl (qk (zl zt (zl zt (zl zt zx))) (zp (zp (zp zF)))) (zl (qk (zl zt (zl zt (zl zt zx))) (zp (zp (zp zF)))) zx))) (zp (zp (zp zF)))) (zl (qk (zl (qk (zl zt zx) (zp zF)) (zl (qk zx zF) zx)) (zp (zp zF))) (zl (qk (zl zt zx) (zp zF)) zx))))) (zp (zp (zp (zp (zp zF)))))))) (zr (qA 1 Yx.nd (jN (zh 1) (qT (zl (qk (zl (qk (zl JZ zx) (zp zF)) zx) (zp zF)) (zl (qk (zl (qk (zl zt (zl zt zx)) (zp (zp zF))) (zl (qk (zl zt (zl zt zx)) (zp (zp zF))) zx)) (zp (zp zF))) zx)) (zp (zp zF))))) (zr (qw (qC (zh 1) (qz (wu Z).up r (zl (zh 0) (zl zt zx))))) zG)))):zN P w K mg base 2 "_law_bad_table" 1 Xk)
def M4 (Z:Zz K h mg):zN P w K mg base 3 "is_wholes_below" 3 Qb:=by
 obtain⟨f,fd,F,a⟩:=Z.T.M7;exact(jK F (a8 Z.X Z.G a) MZ (λ_ _ _ _ _ _=>UZ λ_ _ _=>rfl) λc A outer s H E r=>zr (qw (JW (qz (Hh Z).up r (zl (zh 0) (zl (zh 1) zx))) (Y1 (Y3 rfl Z.B.Kq (yg (qQ (N:=["part","limit"]) 1 [2] (jl (zh 0)) (λ_ _ _=>⟨qf 0 (qD (by kernel_rfl)),qN,qG (fb UU UK zt (zh 0) (zh 1))⟩))))))) (zG):zN P w K mg base 3 "is_wholes_below" 3 K1)
def LI (Z:Zz K h mg):zN P w K mg base 3 "search_break" 1 YC:=by
 obtain⟨f,fd,F,a⟩:=Z.T.Lu;exact(jK F (a8 Z.X Z.G a) Yz (λ_ _ _ _ _ _=>yR λ_=>rfl) λc A outer s H E r=>zr (jT PassesOwn.never rfl (FU (qz (L4 Z).up r (zl (zh 0) zx))) (EN 1 2 3 rfl Yz.nd) (zr (qA 4 Yz.nd (qz (T6 Z).up r (zl (zh 0) (zl (zh 2) (zl (zh 3) zx))))) (zr (jT PassesOwn.never rfl (QY rfl Z.B.Qd (zh 0)) (gf 5 6 rfl Yz.nd) (zr (jT PassesOwn.never rfl (QY rfl Z.B.Qd (zh 6)) (gf 7 8 rfl Yz.nd) (zr (jU (YY (Oi (jV (ka r) (zh 8) (zh 1)) (P6 (jV (wU r) (qz (T6 Z).up r (zl (zh 0) (zl (zh 5) (zl (zh 7) zx)))) (zh 4))))) (zr (qw (qk (zl (zh 2) (zl (zh 3) (zl (zh 5) (zl (zh 7) zx)))) (zp (zp (zp (zp zF)))))) zG) zG) zG)) zG)) zG))) (zr (qw JZ) zG):zN P w K mg base 3 "search_break" 1 T8).iso
def SR (Z:Zz K h mg):zN P w K mg base 3 "_law_known" 1 JI:=by
 obtain⟨f,fd,F,a⟩:=Z.T.IF;exact(jK F (a8 Z.X Z.G a) Wc (λ_ _ _ _ _ _=>yR λ_=>rfl) λc A outer s H E r=>zr (qA 1 Wc.nd (qz (XD Z).up r (zl (qz (IT Z).up r (zl (zh 0) zx)) zx))) (zr (qA 2 Wc.nd (qz (TJ Z).up r (zl (zh 0) (zl (HH rfl Z.B.Qu Z.B.jj (kj Z.B.km (jW (zh 1)))) zx)))) (zr (qA 3 Wc.nd (jN (qT (zl zt zx) (zp zF)) (qz (TJ Z).up r (zl (zh 0) (zl (Fg rfl Z.B.Qu Z.B.jj zt (jN zt (Qj rfl Z.B.ZS (yg (qQ (N:=["_law_row"]) 1 [] (jl (zh 1)) (λ_ _ _=>⟨qf 0 (qD (by kernel_rfl)),qN,qG (Qj rfl Z.B.ZS (jW (zh 0)))⟩)))))) zx))))) (zr (qw (kE Z.B.yy (yg (qQ (N:=["_law_a","_law_rows","_law_order","_law_kinds_here"]) 1 [1,2,3] (jl (zh 2)) (λ_ _ _=>⟨qf 0 (qD (by kernel_rfl)),qN,qG (kE Z.B.yy (yg (qQ (N:=["_law_b","_law_a","_law_rows","_law_kinds_here"]) 1 [0,1,3] (jl (zh 2)) (λ_ _ _=>⟨qf 0 (qD (by kernel_rfl)),qN,qG (qC (zh 3) (qC (qC (zh 2) (zh 1)) (zh 0)))⟩))))⟩))))) zG))):zN P w K mg base 3 "_law_known" 1 Wk).wH
def Lw (Z:Zz K h mg):zN P w K mg base 3 "_law_by_kind" 1 QR:=by
 obtain⟨f,fd,F,a⟩:=Z.T.LP;exact(jK F (a8 Z.X Z.G a) YA (λ_ _ _ _ _ _=>yR λ_=>rfl) λc A outer s H E r=>zr (JK 1 (N:=["_law_kind"]) 1 [] YA.nd rfl (cps (by kernel_rfl)) (by kernel_rfl) (jF rfl Z.B.jj (qz (YG Z).up r (zl (zh 0) zx))) (λ_ _ _=>⟨qf 0 (qD (by kernel_rfl)),qN,qG (qT zx zF)⟩)) (zr (jT PassesOwn.never rfl (jF rfl Z.B.jj (kj Z.B.km (jW (zh 0)))) (qf 2 YA.nd) (zr (jT PassesOwn.never rfl (jF rfl Z.B.jj (kj Z.B.km (jW (zh 0)))) (qf 3 YA.nd) (zr (qA 4 YA.nd (qz (Ib Z).up r (zl (zh 0) (zl (zh 2) (zl (zh 3) zx))))) (zr (jU (Nu (D2 r) (zh 4) (qC (zh 1) (qC (qC (zh 0) (zh 2)) (zh 3)))) (zr (gB (ZH (qC (zh 1) (qC (qC (zh 0) (zh 2)) (zh 3))) (zh 4))) zG) zG) zG))) zG)) (zr (qw (zh 1)) zG)):zN P w K mg base 3 "_law_by_kind" 1 Xq)
def Fc (Z:Zz K h mg):zN P w K mg base 4 "is_table" 1 g7:=by
 obtain⟨f,fd,F,a⟩:=Z.T.HM;exact(jK F (a8 Z.X Z.G a) Rk (λ_ _ _ _ _ _=>yR λ_=>rfl) λc A outer s H E r=>zr (jU (YY (VW (JU (ZN (Zh .tup Z.B.jS Z.B.yy (by rfl) (zh 0)))) (Vr (JU (AM UU UU zt (kj Z.B.km (jW (zh 0))) (P9 rfl Z.B.Ia.choose_spec)))))) (zr (qw k9) zG) zG) (zr (qA 1 Rk.nd (kj Z.B.km (jW (zh 0)))) (zr (jU (JU (ZN (Y3 rfl Z.B.Kq (yg (qQ (N:=["row","many"]) 1 [1] (jl (zh 0)) (λ_ _ _=>⟨qf 0 (qD (by kernel_rfl)),qN,qG (qz (M4 Z).up r (zl (zh 0) (zl (zh 1) (zl (zh 1) zx))))⟩)))))) (zr (qw k9) zG) zG) (zr (qw (JW (qz (FK Z).up r (zl (zh 0) zx)) (Y1 (qz (MU Z).up r (zl (zh 0) zx))))) zG))):zN P w K mg base 4 "is_table" 1 YK)
def IB (Z:Zz K h mg):zN P w K mg base 4 "_law_table" 1 YF:=by
 obtain⟨f,fd,F,a⟩:=Z.T.IS;exact(jK F (a8 Z.X Z.G a) ZE (λ_ _ _ _ _ _=>yR λ_=>rfl) λc A outer s H E r=>zr (qA 1 ZE.nd (qz (wu Z).up r (zl (zh 0) (zl zt zx)))) (zr (jU (jV (ka r) (zh 1) zt) (zr (qw (qz (SR Z).up r (zl (zh 0) zx))) zG) zG) (zr (JK 2 (N:=["_law_row"]) 1 [] ZE.nd rfl (cps (by kernel_rfl)) (by kernel_rfl) (jl (qz (SR Z).up r (zl (zh 0) zx))) (λ_ _ _=>⟨qf 0 (qD (by kernel_rfl)),qN,qG (Vf Z.B.Qu (jW (zh 0)))⟩)) (zr (qA 3 ZE.nd (kj Z.B.km (jW (zh 2)))) (zr (jU (YY (Oi (jV (ka r) (zh 1) zt) (P6 (jV N8 (zh 3) zt)))) (zr (qA 4 ZE.nd (qz (wu Z).up r (zl (zh 0) (zl (zh 3) zx)))) (zr (qA 5 ZE.nd (Qk (jN (jN (zh 4) zt) (qz (wu Z).up r (zl (zh 0) (zl (ZM (zh 3) zt) zx)))) (zh 3))) (zr (Q0 (jN zt (qz (wu Z).up r (zl (zh 0) (zl (ZM (zh 3) zt) zx)))) (qC (zh 2) (zh 4)) (zh 5)) (zr (Q0 (qC (qC (zh 2) (zh 4)) (zh 5)) (qC (zh 2) (zh 5)) (zh 4)) (zr (qw (qz (XD Z).up r (zl (zh 2) zx))) zG))))) zG) (zr (qA 6 ZE.nd (qC (qT (zl zt (zl zt (zl zt zx))) (zp (zp (zp zF)))) (qz (wu Z).up r (zl (zh 0) (zl zt zx))))) (zr (jT PassesOwn.never rfl (jF rfl Z.B.jj (zh 3)) (qf 4 ZE.nd) (zr (jT PassesOwn.never rfl (jF rfl Z.B.jj (zh 4)) (qf 5 ZE.nd) (zr (Q0 (jN zt (qz (wu Z).up r (zl (zh 0) (zl (WI rfl Z.B.Gn (zh 6) (ZM (zh 3) zt)) zx)))) (qC (zh 2) (zh 4)) (zh 5)) (zr (Q0 (qC (qC (zh 2) (zh 4)) (zh 5)) (qC (zh 2) (zh 5)) (zh 4)) zG))) zG)) (zr (qw (qz (XD Z).up r (zl (zh 2) zx))) zG))))))):zN P w K mg base 4 "_law_table" 1 Wi).wH
def LX (Z:Zz K h mg):zN P w K mg base 4 "_law_steady" 1 QS:=by
 obtain⟨f,fd,F,a⟩:=Z.T.Ig;exact(jK F (a8 Z.X Z.G a) LR (λ_ _ _ _ _ _=>yR λ_=>rfl) λc A outer s H E r=>zr (qw (gH (ka r) (Qj rfl Z.B.ZS (yg (qQ (N:=["_law_some"]) 1 [] (jl (qz (Lw Z).up r (zl (zh 0) zx))) (λ_ _ _=>⟨qf 0 (qD (by kernel_rfl)),qN,qG (kj Z.B.km (jW (zh 0)))⟩)))) zt)) (zG):zN P w K mg base 4 "_law_steady" 1 Ss).iso
def IV (Z:Zz K h mg):zN P w K mg base 1 "_law_same" 2 SN:=by
 obtain⟨f,fd,F,a⟩:=Z.T.Wr;exact(Wt (k:=0) Z.B F (a8 Z.X Z.G a) (fy (ps:=["_law_found","_law_due"]) F (a8 Z.X Z.G a) (λ_ _ _ _ _ _=>Zv λ_ _=>rfl)))
def IU (Z:Zz K h mg):zN P w K mg base 2 "_law_same" 2 XA:=by
 obtain⟨f,fd,F,a⟩:=Z.T.Wr;exact(Wt (k:=1) Z.B F (a8 Z.X Z.G a) (IV Z))
def Iq (Z:Zz K h mg):zN P w K mg base 3 "_law_same" 2 XG:=by
 obtain⟨f,fd,F,a⟩:=Z.T.Wr;exact(Wt (k:=2) Z.B F (a8 Z.X Z.G a) (IU Z))
def Ht (Z:Zz K h mg):zN P w K mg base 4 "_law_same" 2 Qf:=by
 obtain⟨f,fd,F,a⟩:=Z.T.Wr;exact(Wt (k:=3) Z.B F (a8 Z.X Z.G a) (Iq Z))
def Lc (Z:Zz K h mg):kS P w K mg base 5 "require_table" 1 Yy:=by
 obtain⟨f,fd,F,a⟩:=Z.T.Lp;exact(Mc F (a8 Z.X Z.G a) M8 (λ_ _ _ _ _ _=>yR λ_=>rfl) λc A outer s H E r x=>zr (jU (Ov (JU (ZN (qz (Fc Z).up r (zl (zh 0) zx))))) (zr (Rl x (Z.C.exc "NoTable" (by decide +kernel)) (zl VL zx) (zp zF)) zG) zG) (zG):kS P w K mg base 5 "require_table" 1 Yy)
def Fh (Z:Zz K h mg):zN P w K mg base 5 "_law_few" 1 QU:=by
 obtain⟨f,fd,F,a⟩:=Z.T.HV;exact(jK F (a8 Z.X Z.G a) Rf (λ_ _ _ _ _ _=>yR λ_=>rfl) λc A outer s H E r=>zr (qA 1 Rf.nd (qz (IB Z).up r (zl (zh 0) zx))) (zr (jU (jV UK (qz (YG Z).up r (zl (zh 1) zx)) zt) (zr (qw (zh 1)) zG) zG) (zr (qw (kE Z.B.yy (yg (qQ (N:=["_law_row"]) 1 [] (jl (zh 1)) (λ_ _ _=>⟨qf 0 (qD (by kernel_rfl)),qN,qG (kE Z.B.yy (yg (qQ (N:=["_law_kind"]) 1 [] (jl (zh 0)) (λ_ _ _=>⟨qf 0 (qD (by kernel_rfl)),qN,qG (WI rfl Z.B.Gn (zh 0) zt)⟩))))⟩))))) zG)):zN P w K mg base 5 "_law_few" 1 X1).wH
def Tw (Z:Zz K h mg):kS P w K mg base 6 "steady_partings" 1 kO:=by
 obtain⟨f,fd,F,a⟩:=Z.T.M0;exact(Mc F (a8 Z.X Z.G a) Tz (λ_ _ _ _ _ _=>yR λ_=>rfl) λc A outer s H E r x=>zr (gB (X7 x (Lc Z).up r (zl (zh 0) zx))) (zr (qA 1 Tz.nd (BF (qz (Si Z).up r (zl (zh 0) zx)))) (zr (jU (Ov (jV N8 (zh 1) (P9 rfl Z.B.MW.choose_spec))) (zr (Rl x (Z.C.exc "TooMany" (by decide +kernel)) (zl VL zx) (zp zF)) zG) zG) (DU (zr (qw (Rn r Z.B.WO (yo (qQ (N:=["parting","table"]) 1 [0] (jl (qz (Lo Z).up r (zl (zh 1) zx))) (λ_ _ _=>⟨qf 0 (qD (by kernel_rfl)),WS (jV eF (qz (LI Z).up r (zl (qz (CB Z).up r (zl (zh 1) (zl (zh 0) zx))) zx)) JZ),qG (zh 0)⟩))))) zG)))):kS P w K mg base 6 "steady_partings" 1 kO)
def M5 (Z:Zz K h mg):zN P w K mg base 6 "steady_partings" 1 JE:=(Tw Z).m.we
end
end G
namespace Mi
open PySem L2
section
variable {m:Ev}
def QZ (h:m ρ A=.ok (.tup ws) A1):qd m ρ A=.ok ⟨λA i=>(zP (.tup ws) A).map λws=>ws[i]?,ws.length⟩ A1:=by
 unfold qd GS;rw[h,zO]
 rfl
def JO (h:m ρ A=.ok (.tup ws) A)(l:ws.length<=qa){g:W->W}(he:∀w∈ws,me (some w::cap.map λi=>(ρ[i]?).join) A=.ok (g w) A):
  zM 1 cap (qd m) (zC 0) zS (zK me) ρ A=.ok (ws.map g) A:=by
 have e:=Qg (cap:=cap) (me:=me) (ρ:=ρ) (A:=A) (N:=ws.length) (item:=λi=>ws.getD i .non) (g:=λi=>g (ws.getD i .non)) (QZ h) rfl l
  (λi H=>by show some ws[i]? =_;rw[aa H,ae,aa H];rfl)
  (by show some ws[ws.length]? =_;rw[aE (ar _)])
  (λi H=>by
   have:ws.getD i .non=ws[i]:=by rw[ae,aa H];rfl
   rw[this];exact he _ (aP H))
 rw[e]
 congr 1
 apply bx
 ·simp
 ·intro i b a
  have H:i<ws.length:=by simpa using a
  simp[ae,aa H]
theorem RS (p:α->Bool):∀l:List α,gE (l.map λx=>W.bl (p x))=some (l.map p)
 |[]=>rfl|x::l=>by
  show(match KL (.bl (p x)),gE (l.map λx=>W.bl (p x)) with|some k,some ks=>some (k::ks)|_,_=>none)=_
  rw[RS p l];rfl
def Y6 {p:α->Bool}{l:List α}(h:∀x∈l,p x=true):Jk (l.map λx=>W.bl (p x)) A=.ok (.bl true) A:=by
 show Jo (λks=>ks.all id) _ A=_;unfold Jo;rw[RS];dsimp only
 have:(l.map p).all id=true:=by
  rw[List.all_map];exact cF.mpr λx H=>h x H
 rw[this]
theorem Vy {f:α->W}(h:∀x,(f x).nr=true):∀l:List α,qS (l.map f)=true
 |[]=>rfl|x::l=>by
  show((f x).nr&&qS (l.map f))=true;rw[h x,Vy h l];rfl
def QM (i j:Int)(A:Hx):jA (.int i) (.int j) A=.ok (.bl (decide (i=j))) A:=by
 show R.ok (W.bl (PyData.eqv (.int i) (.int j))) A=_;simp[PyData.eqv]
 rfl
def Mm (i j:Int)(A:Hx):jz (.int i) (.int j) A=.ok (.bl (!decide (i=j))) A:=by
 show R.ok (W.bl (!PyData.eqv (.int i) (.int j))) A=_;simp[PyData.eqv]
 rfl
def Mx (i j:Bool)(A:Hx):jz (.bl i) (.bl j) A=.ok (.bl (!(i==j))) A:=by
 cases i<;>cases j<;>rfl
end
noncomputable def zT (r:bX):W:=.tup (r.map W.int)
def zq (t:bV):W:=.tup (t.map zT)
def Oq (r:bX):(zT r).nr=true:=by
 show qS (r.map W.int)=true;exact Vy (λ_=>rfl) r
def JV (t:bV):(zq t).nr=true:=by
 show qS (t.map zT)=true;exact Vy Oq t
def R6 {j:jH}{st:W->Ex}{N:Nat}{item:Nat->W}{I:En->Prop}(t:∀i,i<N->j.at_ A i=some (some (item i)))(H:j.at_ A N=some none)
  (s:∀i,i<N->∀ρ,I ρ->∃a,st (item i) ρ A=.ok (.nx a) A/\I a):∀(n i:Nat)(ρ:En),i+n=N->I ρ->∃a,yD j st n i ρ A=.ok (.nx a) A/\I a:=by
 intro n
 induction n with
 |zero=>
  intro i ρ h c
  have:i=N:=by omega
  subst this;exact⟨ρ,XZ H,c⟩
 |succ n d=>
  intro i ρ h c;obtain⟨ρ1,E,g⟩:=s i (by omega) ρ c
  obtain⟨b,e,f⟩:=d (i+1) ρ1 (by omega) g
  exact⟨b,(WH (t i (by omega)) E).trans e,f⟩
def JM {m:Ev}(h:m ρ A=.ok (.tup ws) A1):kH m ρ A=.ok (ko (.tup ws) ws.length) A1:=by
 unfold kH;rw[h,zO]
 rfl
def J7 {w:W}(h:ws[i]? =some w):(ko (.tup ws) ws.length).at_ A i=some (some (.tup [.int i,w])):=by
 show atEnd ws i _=_;unfold atEnd;rw[h]
def J1:(ko (.tup ws) ws.length).at_ A ws.length=some none:=by
 show atEnd ws _ _=_;unfold atEnd;rw[aE (ar _)];exact ag rfl
noncomputable def at2 (t:bV)(a b:Nat):Int:=(t.getD a []).getD b 0
structure qu (t:bV):Prop where
 n1:1<=t.length
 n8:t.length<=8
 sq:∀r∈t,r.length=t.length
 lo:∀r∈t,∀v∈r,0<=v/\v<(t.length:Int)
 dg:∀a b,a<t.length->b<t.length->(at2 t a b=0↔a=b)
 sy:∀a b,a<t.length->b<t.length->at2 t a b=at2 t b a
 fu:∀k:Nat,(∃v∈t.flatten,(k:Int)<v)->(k:Int)∈t.flatten
section
variable {a b:Nat}
def Ke (h:a<t.length):(t.map zT)[a]? =some (zT (t.getD a [])):=by
 rw[ao,ae,aa h];rfl
def yz (h:a<t.length):t.getD a []∈t:=by
 rw[ae,aa h];exact aP h
def Q5 (h:a<t.length):zD (zq t) (.int a) A=.ok (zT (t.getD a [])) A:=by
 unfold zD;show(match wK (t.map zT) (a:Int) with|some w=>R.ok w A|none=>R.bad)=_
 rw[W2 (Ke h)]
def int_at {r:bX}(h:b<r.length):(r.map W.int)[b]? =some (.int (r.getD b 0)):=by
 rw[ao,ae,aa h];rfl
def Kh {r:bX}(h:b<r.length):zD (zT r) (.int b) A=.ok (.int (r.getD b 0)) A:=by
 unfold zD;show(match wK (r.map W.int) (b:Int) with|some w=>R.ok w A|none=>R.bad)=_
 rw[W2 (v:=.int (r.getD b 0)) (by rw[ao,ae,aa h];rfl)]
end
section
def DZ {j:jH}{c:Option W}(b:∀i,i<ws.length->j.at_ A i=some (some (ws.getD i .non)))(H:j.at_ A ws.length=some none)(he:∀w,me [c,some w] A=.ok w A):
  ∀(f i:Nat)(x:Option W)(acc:List W),i+f=ws.length->acc.length+f<=qa->∃y,jJ j (zC 1) (qc (.bl true)) (zK me) f i [c,x] acc A=.ok ([c,y],acc++ws.drop i) A:=by
 intro f
 induction f with
 |zero=>
  intro i x acc h l
  have:i=ws.length:=by omega
  subst this;refine⟨x,?_⟩;unfold jJ;rw[H,drop_length,bH]
 |succ f I=>
  intro i x acc h l;have a:i<ws.length:=by omega
  have E:ws.getD i .non=ws[i]:=by rw[ae,aa a];rfl
  obtain⟨y,e⟩:=I (i+1) (some ws[i]) (acc++[ws[i]]) (by omega) (by rw[ay,aU];omega)
  refine⟨y,?_⟩;rw[jJ,b i a,E];dsimp only[zC,List.set,qc];rw[zO];dsimp only;have d:zK me [c,some ws[i]] acc A=.ok ([c,some ws[i]],acc++[ws[i]]) A:=by
   unfold zK;rw[he,zO,ag (by omega)]
  rw[d,zO];rw[e,aN]
  congr 3
  rw[List.singleton_append,<- bg a]
def F8 {j:jH}(d:∀i,i<t.length->j.at_ A i=some (some (zT (t.getD i []))))(H:j.at_ A t.length=some none):
  ∀(f i:Nat)(x y:Option W)(acc:List W),i+f=t.length->acc.length+(t.drop i).flatten.length<=qa->
   ∃ρ,jJ j (zC 0) (qc (.bl true)) (Yb (qd (qi 0)) (zC 1) (qc (.bl true)) (zK (qi 1))) f i [x,y] acc A=.ok (ρ,acc++(t.drop i).flatten.map W.int) A:=by
 intro f
 induction f with
 |zero=>
  intro i x y acc h l
  have:i=t.length:=by omega
  subst this;refine⟨[x,y],?_⟩;unfold jJ;rw[H,drop_length];simp
 |succ f I=>
  intro i x y acc h l;have a:i<t.length:=by omega
  have r:t.getD i []=t[i]:=by rw[ae,aa a];rfl
  have e:t.drop i=t[i]::t.drop (i+1):=bg a;rw[e,a6,ay]at l;obtain⟨z,E⟩:=DZ (A:=A) (j:=⟨λA i_1=>(zP (zT t[i]) A).map λws=>ws[i_1]?,(t[i].map W.int).length⟩) (me:=qi 1) (ws:=t[i].map W.int) (c:=some (zT t[i]))
   (λk b=>by
    show some (t[i].map W.int)[k]? =_;rw[ae,aa b];rfl)
   (by show some (t[i].map W.int)[(t[i].map W.int).length]? =_;rw[aE (ar _)])
   (λw=>zu rfl) (t[i].map W.int).length 0 y acc (by omega) (by rw[ai];omega)
  rw[List.drop_zero]at E;obtain⟨ρ,n⟩:=I (i+1) (some (zT t[i])) z (acc++t[i].map W.int) (by omega) (by rw[ay,ai];omega)
  refine⟨ρ,?_⟩;rw[jJ,d i a,r];dsimp only[zC,List.set,qc];rw[zO];dsimp only;have g:Yb (qd (qi 0)) (zC 1) (qc (.bl true)) (zK (qi 1)) [some (zT t[i]),y] acc A=.ok ([some (zT t[i]),z],acc++t[i].map W.int) A:=by
   unfold Yb;rw[QZ (ws:=t[i].map W.int) (A1:=A) (zu (i:=0) rfl),zO];exact E
  rw[g,zO];rw[n,e,a6,aX,aN]
def Bl {m:Ev}(h:m ρ A=.ok (zq t) A)(H:t.flatten.length<=qa):
  zM 2 [] (qd m) (zC 0) zS (Yb (qd zm) (zC 1) zS (zK zw)) ρ A=.ok (t.flatten.map W.int) A:=by
 have hlen:(t.map zT).length=t.length:=ai ..;obtain⟨a,e⟩:=F8 (t:=t) (A:=A) (j:=⟨λA i=>(zP (zq t) A).map λws=>ws[i]?,(t.map zT).length⟩) (λi b=>by show some (t.map zT)[i]? =_;rw[Ke b])
  (by show some (t.map zT)[t.length]? =_;rw[aE (by omega)]) t.length 0 none none [] (by omega) (by simpa using H)
 unfold zM;rw[QZ (ws:=t.map zT) h,zO];show R.bind (R.nox (jJ ⟨λA i=>(zP (zq t) A).map λws=>ws[i]?,(t.map zT).length⟩ _ _ _ (t.map zT).length 0 [none,none] [] A)) _=_;rw[hlen]at e ⊢;rw[e];simp
 rfl
end
theorem Ws:∀l:bX,intsOf (l.map W.int)=some l
 |[]=>rfl|i::l=>by
  show(match intsOf (l.map W.int) with|some is=>some (i::is)|none=>none)=_
  rw[Ws l]
theorem Vl:∀(l:bX)(m:Int),yi l m=m∨yi l m∈l
 |[],_=>.inl rfl|i::l,m=>by
  show yi l (if i > m then i else m)=m∨yi l (if i > m then i else m)∈i::l;rcases Vl l (if i > m then i else m) with e|e
  ·by_cases h:i > m
   ·rw[ag h]at e ⊢;exact .inr (by rw[e];exact ax ..)
   ·rw[aj h]at e ⊢;exact .inl e
  ·exact .inr (au _ e)
end Mi
namespace G
open PySem L2 Mi
def DC (h:qu t):t.flatten.length<=64:=by
 have:∀l:bV,(∀r∈l,r.length<=8)->l.flatten.length<=8 * l.length:=by
  intro l
  induction l with
  |nil=>intro _;simp|cons r l i=>
   intro H;have e:=H r (ax ..);have d:=i λb a=>H b (au _ a);rw[a6,ay,aV];omega
 have c:=h.n8
 have:=this t λr H=>by rw[h.sq r H];exact h.n8
 omega
section
def g9 (h:n<1000000):jI (n:Int)=true:=by
 unfold jI;simp;omega
end
def W7 {m:Ev}(h:m ρ A=.ok (.ref n) A1)(H:A1[n]? =some (.lst ws)):qd m ρ A=.ok ⟨λA i=>(zP (.ref n) A).map λws=>ws[i]?,ws.length⟩ A1:=by
 unfold qd GS;rw[h,zO];have e:zP (.ref n) A1=some ws:=by unfold zP;dsimp only;rw[H]
 rw[e]
def Qp (h:A[n]? =some (.lst ws)):((zP (.ref n) A).map λws=>ws[i]?)=some ws[i]?:=by
 have e:zP (.ref n) A=some ws:=by unfold zP;dsimp only;rw[h]
 rw[e];rfl
def kQ:List Int->Int
 |[]=>0|i::is=>yi is i
def VE {r:bX}(h:r≠[]):yh (r.map W.int) A=.ok (.int (kQ r)) A:=by
 unfold yh;rw[Ws];cases r with
 |nil=>exact absurd rfl h|cons i is=>rfl
def YW {r:bX}(h:r≠[]):kQ r∈r:=by
 cases r with
 |nil=>exact absurd rfl h|cons i is=>
  rcases Vl is i with e|e
  ·show yi is i∈_;rw[e];exact ax ..
  ·exact au _ e
def qH (t:bV):Int:=kQ (t.map kQ)+1
section
def _root_.Mi.qu.row_ne (h:qu t){r:bX}(H:r∈t):r≠[]:=λe=>by
 have a:=h.sq r H;have b:=h.n1;rw[e,bF]at a;omega
def _root_.Mi.qu.map_ne (h:qu t):t.map kQ≠[]:=λe=>by
 have:=h.n1
 rw[List.map_eq_nil_iff]at e;rw[e]at this;simp at this
def wB (h:qu t):1<=qH t/\qH t<=8:=by
 obtain⟨r,H,e⟩:=cD.mp (YW h.map_ne)
 have:=h.lo r H _ (YW (h.row_ne H))
 have:=h.n8
 unfold qH;rw[<- e];omega
def Uv (h:qu t){a b:Nat}(H:a<t.length)(d:b<t.length):0<=at2 t a b/\at2 t a b<8:=by
 have c:=h.sq _ (yz H)
 have:(t.getD a []).getD b 0∈t.getD a []:=by
  rw[ae (l:=t.getD a []),aa (by omega)];exact aP _
 have e:=h.lo _ (yz H) _ this
 have:=h.n8
 unfold at2;omega
def Zi (h:q ρ A=.ok ws A1):mQ jm q ρ A=.ok (.tup ws) A1:=(yF h).trans rfl
end
end G
namespace Mi
open PySem L2
def wR {w:W}{s:Nat}(h:A[n]? =some (.lst ws))(H:ws[s]? =some w):zD (.ref n) (.int (s:Int)) A=.ok w A:=by
 unfold zD;have e:zP (.ref n) A=some ws:=by unfold zP;dsimp only;rw[h]
 rw[e];dsimp only;rw[W2 H]
def ye {u:O}(h:A[n]? =some o):(A++[u])[n]? =some o:=by
 have:=(cB.mp h).1
 rw[ah this];exact h
def jx {u:O}:(A++[u])[A.length]? =some u:=by simp
theorem VU:∀(n:Nat)(ks:bX),ks.Nodup->(∀r∈ks,0<=r/\r<(n:Int))->ks.length<=n
 |0,ks,_,h=>by
  cases ks with
  |nil=>exact ar _|cons r l=>have:=h r (ax ..);omega
 |n+1,ks,nd,h=>by
  by_cases hm:(n:Int)∈ks
  ·have c:=VU n (ks.erase (n:Int)) (nd.erase _) λr H=>by
    have b:=h r (List.mem_of_mem_erase H);have a:r≠(n:Int):=λz=>(List.Nodup.mem_erase_iff nd).mp H |>.1 z;omega
   rw[List.length_erase_of_mem hm]at c;omega
  ·have:=VU n ks nd λr H=>by
    have b:=h r H;have a:r≠(n:Int):=λz=>hm (z ▸ H);omega
   omega
noncomputable def wk (μ:Nat->Nat->Int)(a b:Nat)(k:Int):Nat->Nat->Int:=λi j=>if i=a/\j=b then k else μ i j
structure Mu (n:Nat)(μ:Nat->Nat->Int)(c:Nat)(done:Nat->Nat->Prop):Prop where
 dg:∀i,μ i i=0
 sy:∀i j,μ i j=μ j i
 dn:∀i j,i<j->j<n->done i j->1<=μ i j/\μ i j<=(c:Int)
 un:∀i j,i<j->j<n->¬done i j->μ i j=0
 fu:∀k:Nat,1<=k->k<=c->∃i j,i<n/\j<n/\μ i j=(k:Int)
noncomputable def yt (n:Nat)(μ:Nat->Nat->Int):bV:=(List.range n).map λi=>(List.range n).map (μ i)
def Ql (H:i<n)(h:j<n):at2 (yt n μ) i j=μ i j:=by
 unfold at2 yt;rw[ae (l:=(List.range n).map λi=>(List.range n).map (μ i)),ao,aT H];show((List.range n).map (μ i)).getD j 0=_;rw[ae,ao,aT h]
 rfl
def Mu.tab {c:Nat}{d:Nat->Nat->Prop}(h:Mu n μ c d)(all:∀i j,i<j->j<n->d i j)(n1:1<=n)(n8:n<=8)(z:n=1∨c<n):qu (yt n μ):=by
 have len:(yt n μ).length=n:=by unfold yt;simp
 have val:∀i j,i<n->j<n->i≠j->1<=μ i j/\μ i j<=(c:Int):=λi j H f ne=>by
  rcases Nat.lt_or_gt_of_ne ne with q|q
  ·exact h.dn i j q f (all i j q f)
  ·rw[h.sy];exact h.dn j i q H (all j i q H)
 have mem:∀r∈yt n μ,∀v∈r,∃i j,i<n/\j<n/\v=μ i j:=λr g v p=>by
  unfold yt at g;obtain⟨i,H,rfl⟩:=cD.mp g;obtain⟨j,f,rfl⟩:=cD.mp p;exact⟨i,j,cC.mp H,cC.mp f,rfl⟩
 have I:∀i j,i<n->j<n->μ i j∈(yt n μ).flatten:=λi j H f=>List.mem_flatten.mpr ⟨_,cD.mpr ⟨i,cC.mpr H,rfl⟩,cD.mpr ⟨j,cC.mpr f,rfl⟩⟩;refine⟨by rw[len];exact n1,by rw[len];exact n8,λr g=>?_,λr g v p=>?_,λa b o l=>?_,λa b o l=>?_,λk y=>?_⟩
 ·rw[len]
  unfold yt at g;obtain⟨i,H,rfl⟩:=cD.mp g;simp
 ·rw[len]
  obtain⟨i,j,H,f,rfl⟩:=mem r g v p
  by_cases q:i=j
  ·subst q;rw[h.dg];omega
  ·have:=val i j H f q
   omega
 ·rw[len]at o l
  rw[Ql o l]
  constructor
  ·intro e
   by_cases q:a=b
   ·exact q
   ·have:=val a b o l q;omega
  ·intro e;subst e;exact h.dg a
 ·rw[len]at o l
  rw[Ql o l,Ql l o];exact h.sy a b
 ·obtain⟨v,p,t⟩:=y
  obtain⟨r,g,s⟩:=List.mem_flatten.mp p;obtain⟨i,j,H,f,rfl⟩:=mem r g v s
  by_cases k0:k=0
  ·subst k0
   have:=I 0 0 (by omega) (by omega)
   rw[h.dg]at this;exact this
  ·by_cases q:i=j
   ·subst q;rw[h.dg]at t;omega
   ·have:=val i j H f q
    obtain⟨x,J,w,u,e⟩:=h.fu k (by omega) (by omega)
    have:=I x J w u
    rw[e]at this;exact this
end Mi
namespace G
open PySem L2 Mi
def Kg {i j:Int}(H:-(2 ^ 64)<i)(h:i<2 ^ 64):je (.int i) (.int j) A=.ok (.int (i * j)) A:=by
 unfold je;dsimp only;rw[ag];unfold KA;rw[bO,aw,ak,ak];exact .inl ⟨H,h⟩
def Q7 {i j:Int}(h:0<j):wc (.int i) (.int j) A=.ok (.int (i%j)) A:=by
 unfold wc Z2;dsimp only;rw[ag];unfold GR;exact aB h
def Nq {i j:Int}(h:0<j)(H:j<1152921504606846976):Zo (.int i) (.int j) A=.ok (.int (i/j)) A:=by
 unfold Zo Z2;dsimp only;rw[ag];unfold Gq;rw[aw,ak,ak];exact⟨h,H⟩
def AL {c m:Int}(h:0<m)(H:m<1000000000000000):YH [.ref 0,.int m] [.lst [.int c,.bl true]]=.ok (.int (c%m)) [.lst [.int (c/m),.bl true]]:=by
 refine q9 ?_;unfold XN;refine qF (A1:=[.lst [.int (c/m),.bl true]]) ?_;refine(wF (A1:=[.lst [.int c,.bl true]]) rfl).trans ?_;refine(zJ (ρ1:=[some (.ref 0),some (.int m),some (.int (c%m)),none]) (A1:=[.lst [.int c,.bl true]]) ?_).trans ?_
 ·refine(qO (w:=.int (c%m)) (A1:=[.lst [.int c,.bl true]]) ?_).trans rfl
  exact(zR (x:=.int c) (y:=.int m) (A1:=[.lst [.int c,.bl true]]) (A2:=[.lst [.int c,.bl true]]) rfl rfl).trans (Q7 h)
 ·refine(zJ (ρ1:=[some (.ref 0),some (.int m),some (.int (c%m)),none]) (A1:=[.lst [.int (c/m),.bl true]]) ?_).trans rfl
  have e:zi Zo (zi zD zm zL) zw [some (.ref 0),some (.int m),some (.int (c%m)),none] [.lst [.int c,.bl true]]=.ok (.int (c/m)) [.lst [.int c,.bl true]]:=
   (zR (x:=.int c) (y:=.int m) (A1:=[.lst [.int c,.bl true]]) (A2:=[.lst [.int c,.bl true]]) rfl rfl).trans (Nq h (by omega))
  unfold yC;rw[e,zO]
  rfl
noncomputable def QK (c:Int):Int:=(c * 48271+29)%2147483647
noncomputable def gu (d:Int):Int:=(d * d+39373 * d+7)%2147483629
noncomputable def gQ (e:Int):Int:=(e * e+16807 * e)%2147483587
def Ux (c:Int):0<=QK c/\QK c<2147483647:=⟨emod_nonneg _ (by decide),bN _ (by decide)⟩
def fT (c:Int):0<=gu c/\gu c<2147483629:=⟨emod_nonneg _ (by decide),bN _ (by decide)⟩
def fU {c m:Int}(i:0<=c)(h:c<2147483647)(H:0<m)(j:m<1000000000000000):YH [.ref 0,.int m] [.lst [.int c,.bl false]]=.ok (.int (gQ (gu (QK c))/8%m)) [.lst [.int (QK c),.bl false]]:=by
 have l:=Ux c;refine q9 ?_;unfold XN;refine(zJ (ρ1:=[some (.ref 0),some (.int m),none,none]) (A1:=[.lst [.int c,.bl false]]) ((yL (A1:=[.lst [.int c,.bl false]]) rfl).trans rfl)).trans ?_;have g:zi wc (zi qB (zi je (zi zD zm zL) (qc (.int 48271))) (qc (.int 29))) (qc (.int 2147483647)) [some (.ref 0),some (.int m),none,none] [.lst [.int c,.bl false]]=.ok (.int (QK c)) [.lst [.int c,.bl false]]:=by
  have em:zi je (zi zD zm zL) (qc (.int 48271)) [some (.ref 0),some (.int m),none,none] [.lst [.int c,.bl false]]=.ok (.int (c * 48271)) [.lst [.int c,.bl false]]:=
   (zR (x:=.int c) (y:=.int 48271) (A1:=[.lst [.int c,.bl false]]) (A2:=[.lst [.int c,.bl false]]) rfl rfl).trans (Kg (by omega) (by omega))
  refine(zR (x:=.int (c * 48271+29)) (y:=.int 2147483647) (A1:=[.lst [.int c,.bl false]]) (A2:=[.lst [.int c,.bl false]]) ((zR em rfl).trans rfl) rfl).trans ?_;exact Q7 (by decide)
 refine(zJ (ρ1:=[some (.ref 0),some (.int m),none,none]) (A1:=[.lst [.int (QK c),.bl false]]) ?_).trans ?_
 ·unfold yC
  rw[g,zO]
  rfl
 generalize QK c=d at*;have b:zi wc (zi qB (zi qB (zi je (zi zD zm zL) (zi zD zm zL)) (zi je (qc (.int 39373)) (zi zD zm zL))) Yv) (qc (.int 2147483629)) [some (.ref 0),some (.int m),none,none] [.lst [.int d,.bl false]]=
   .ok (.int (gu d)) [.lst [.int d,.bl false]]:=by
  have em:zi je (zi zD zm zL) (zi zD zm zL) [some (.ref 0),some (.int m),none,none] [.lst [.int d,.bl false]]=.ok (.int (d * d)) [.lst [.int d,.bl false]]:=
   (zR (x:=.int d) (y:=.int d) (A1:=[.lst [.int d,.bl false]]) (A2:=[.lst [.int d,.bl false]]) rfl rfl).trans (Kg (by omega) (by omega))
  have E:zi je (qc (.int 39373)) (zi zD zm zL) [some (.ref 0),some (.int m),none,none] [.lst [.int d,.bl false]]=.ok (.int (39373 * d)) [.lst [.int d,.bl false]]:=
   (zR (x:=.int 39373) (y:=.int d) (A1:=[.lst [.int d,.bl false]]) (A2:=[.lst [.int d,.bl false]]) rfl rfl).trans (Kg (by decide) (by decide))
  have s:zi qB (zi je (zi zD zm zL) (zi zD zm zL)) (zi je (qc (.int 39373)) (zi zD zm zL)) [some (.ref 0),some (.int m),none,none] [.lst [.int d,.bl false]]=.ok (.int (d * d+39373 * d)) [.lst [.int d,.bl false]]:=
   (zR em E).trans rfl
  refine(zR (x:=.int (d * d+39373 * d+7)) (y:=.int 2147483629) (A1:=[.lst [.int d,.bl false]]) (A2:=[.lst [.int d,.bl false]]) ((zR s rfl).trans rfl) rfl).trans ?_;exact Q7 (by decide)
 refine(zJ (qO b)).trans ?_;have B:=fT d;generalize gu d=e at*;have a:zi wc (zi qB (zi je zQ zQ) (zi je (qc (.int 16807)) zQ)) (qc (.int 2147483587)) [some (.ref 0),some (.int m),none,some (.int e)] [.lst [.int d,.bl false]]=.ok (.int (gQ e)) [.lst [.int d,.bl false]]:=by
  have em:zi je zQ zQ [some (.ref 0),some (.int m),none,some (.int e)] [.lst [.int d,.bl false]]=.ok (.int (e * e)) [.lst [.int d,.bl false]]:=
   (zR (x:=.int e) (y:=.int e) (A1:=[.lst [.int d,.bl false]]) (A2:=[.lst [.int d,.bl false]]) rfl rfl).trans (Kg (by omega) (by omega))
  have E:zi je (qc (.int 16807)) zQ [some (.ref 0),some (.int m),none,some (.int e)] [.lst [.int d,.bl false]]=.ok (.int (16807 * e)) [.lst [.int d,.bl false]]:=
   (zR (x:=.int 16807) (y:=.int e) (A1:=[.lst [.int d,.bl false]]) (A2:=[.lst [.int d,.bl false]]) rfl rfl).trans (Kg (by decide) (by decide))
  refine(zR (x:=.int (e * e+16807 * e)) (y:=.int 2147483587) (A1:=[.lst [.int d,.bl false]]) (A2:=[.lst [.int d,.bl false]]) ((zR em E).trans rfl) rfl).trans ?_;exact Q7 (by decide)
 refine(zJ (qO a)).trans ?_;generalize gQ e=f at*;refine qF (ji ?_);refine(zR (x:=.int (f/8)) (y:=.int m) (A1:=[.lst [.int d,.bl false]]) (A2:=[.lst [.int d,.bl false]]) ?_ rfl).trans (Q7 H);exact(zR (x:=.int f) (y:=.int 8) (A1:=[.lst [.int d,.bl false]]) (A2:=[.lst [.int d,.bl false]]) rfl rfl).trans (Nq (by decide) (by decide))
def qZ (n:Nat)(A:Hx):Prop:=∃c b,A[n]? =some (.lst [.int c,.bl b])/\0<=c/\(b=false->c<2147483647)
def O8 (h:qZ n A){m:Int}(H:0<m)(g:m<1000000000000000):∃r o,yU [.ref n,.int m] A=.ok (.int r) (A.set n o)/\0<=r/\r<m/\qZ n (A.set n o):=by
 obtain⟨c,b,f,d,i⟩:=h;have hn:n<A.length:=(cB.mp f).1;have fin:∀(r C:Int),YH [.ref 0,.int m] [.lst [.int c,.bl b]]=.ok (.int r) [.lst [.int C,.bl b]]->yU [.ref n,.int m] A=.ok (.int r) (A.set n (.lst [.int C,.bl b])):=λr C e=>by
  unfold yU wH;dsimp only;rw[f];dsimp only;have a:(qS [W.int c,W.bl b]&&qS [W.int m])=true:=rfl;rw[ag a,e]
  rfl
 cases b with
 |true=>
  refine⟨c%m,_,fin _ _ (AL H g),emod_nonneg _ (by omega),bN _ H,c/m,true,aJ hn,Int.ediv_nonneg d (by omega),λz=>nomatch z⟩
 |false=>
  exact⟨_,_,fin _ _ (fU d (i rfl) H g),emod_nonneg _ (by omega),bN _ H,QK c,false,aJ hn,(Ux c).1,λ_=>(Ux c).2⟩
end G
namespace Mi
open PySem L2
def Vi {k:Nat}{xs ys:List W}(h:A[n]? =some (.lst xs))(a:A[k]? =some (.lst ys))(H:xs.length+ys.length<=qa):qB (.ref n) (.ref k) A=.ok (.ref A.length) (A++[.lst (xs++ys)]):=by
 unfold qB;dsimp only;rw[h,a];dsimp only;rw[ag H]
def Ext (A a:Hx):Prop:=∃l,a=A++l
def Ext.refl:Ext A A:=⟨[],by simp⟩
def Ext.trans {C:Hx}(a:Ext A B)(b:Ext B C):Ext A C:=let ⟨l,e⟩:=a;let ⟨k,f⟩:=b;⟨l++k,by rw[f,e,aN]⟩
def Ext.one:Ext A (A++[o]):=⟨[o],rfl⟩
def Ext.at {a:Hx}(x:Ext A a)(h:A[n]? =some o):a[n]? =some o:=by
 obtain⟨l,rfl⟩:=x
 have:=(cB.mp h).1
 rw[ah this];exact h
def D1 {j:jH}{ifs:Ev}{em:Em}{N:Nat}{I:Nat->En->List W->Hx->Prop}
  (H:∀i ρ acc A,i<N->I i ρ acc A->∃w ρ1,j.at_ A i=some (some w)/\tw w ρ=some ρ1/\((∃A1 c a A2,ifs ρ1 A=.ok (.bl true) A1/\em ρ1 acc A1=.ok (c,a) A2/\I (i+1) c a A2)∨(∃A1,ifs ρ1 A=.ok (.bl false) A1/\I (i+1) ρ1 acc A1)))
  (e:∀ρ acc A,I N ρ acc A->j.at_ A N=some none):
  ∀(f i:Nat)(ρ:En)(acc:List W)(A:Hx),i+f=N->I i ρ acc A->∃d b o,jJ j tw ifs em f i ρ acc A=.ok (d,b) o/\I N d b o:=by
 intro f
 induction f with
 |zero=>
  intro i ρ acc A h g
  have:i=N:=by omega
  subst this;refine⟨ρ,acc,A,?_,g⟩;unfold jJ;rw[e _ _ _ g]
 |succ f n=>
  intro i ρ acc A h g;obtain⟨w,ρ1,r,q,p⟩:=H i ρ acc A (by omega) g
  rw[jJ,r];dsimp only;rw[q];dsimp only;rcases p with ⟨A1,c,a,A2,l,s,E⟩|⟨A1,l,E⟩
  ·rw[l,zO]
   dsimp only;rw[s,zO];exact n (i+1) _ _ _ (by omega) E
  ·rw[l,zO]
   dsimp only;exact n (i+1) _ _ _ (by omega) E
def YI {nl:Nat}{j:jH}{ifs:Ev}{em:Em}{N:Nat}{I:Nat->En->List W->Hx->Prop}(hm:mi ρ A=.ok j A1)(g:j.len=N)
  (h:∀i ρ acc A,i<N->I i ρ acc A->∃w ρ1,j.at_ A i=some (some w)/\tw w ρ=some ρ1/\((∃A1 d b A2,ifs ρ1 A=.ok (.bl true) A1/\em ρ1 acc A1=.ok (d,b) A2/\I (i+1) d b A2)∨(∃A1,ifs ρ1 A=.ok (.bl false) A1/\I (i+1) ρ1 acc A1)))
  (H:∀ρ acc A,I N ρ acc A->j.at_ A N=some none)(h0:I 0 (Jd nl cap ρ) [] A1):∃c a f,zM nl cap mi tw ifs em ρ A=.ok a f/\I N c a f:=by
 obtain⟨c,a,f,e,l⟩:=D1 h H N 0 _ _ _ (by omega) h0
 refine⟨c,a,f,?_,l⟩;unfold zM;rw[hm,zO,g,e]
 rfl
def kY {j:jH}{st:W->Ex}{N:Nat}{I:Nat->En->Hx->Prop}
  (H:∀i ρ A,i<N->I i ρ A->∃w ρ1 A1,j.at_ A i=some (some w)/\st w ρ A=.ok (.nx ρ1) A1/\I (i+1) ρ1 A1)(d:∀ρ A,I N ρ A->j.at_ A N=some none):
  ∀(f i:Nat)(ρ:En)(A:Hx),i+f=N->I i ρ A->∃a c,yD j st f i ρ A=.ok (.nx a) c/\I N a c:=by
 intro f
 induction f with
 |zero=>
  intro i ρ A h b
  have:i=N:=by omega
  subst this;exact⟨ρ,A,XZ (d _ _ b),b⟩
 |succ f e=>
  intro i ρ A h b;obtain⟨w,ρ1,A1,n,l,g⟩:=H i ρ A (by omega) b
  rw[WH n l];exact e (i+1) _ _ (by omega) g
def YR {acc:List W}{y:W}(h:me ρ A=.ok y A1)(H:acc.length<qa):zK me ρ acc A=.ok (ρ,acc++[y]) A1:=by
 unfold zK;rw[h,zO,ag H]
theorem take_succ {l:List α}(h:i<l.length):l.take (i+1)=l.take i++[l[i]]:=by
 rw[List.take_succ,aa h];rfl
theorem Ext.set (x:Ext A B)(h:A.length<=n):Ext A (B.set n o):=by
 obtain⟨l,rfl⟩:=x;exact⟨l.set (n-A.length) o,by rw[List.set_append_right _ _ h]⟩
def Ext.app {l:Hx}(x:Ext A B):Ext A (B++l):=x.trans ⟨l,rfl⟩
def Ext.len (x:Ext A B):A.length<=B.length:=by obtain⟨l,rfl⟩:=x;simp
def wQ (h:A[n]? =some o):n<A.length:=(cB.mp h).1
end Mi
namespace G
open PySem L2 Mi
def O9 {w:W}(H:A[n]? =some (.lst ws))(h:ws[i]? =some w):((zP (.ref n) A).map λws=>ws[i]?)=some (some w):=by
 rw[Qp H,h]
def Nj (H:A[n]? =some (.lst ws))(h:ws.length<=i):((zP (.ref n) A).map λws=>ws[i]?)=some none:=by
 rw[Qp H,aE h]
theorem W6:∀(l:bX)(m:Int),m<=yi l m/\∀x∈l,x<=yi l m
 |[],m=>⟨Int.le_refl _,λx h=>by cases h⟩|y::l,m=>by
  unfold yi
  split
  ·rename_i c
   obtain⟨b,a⟩:=W6 l y;refine⟨by omega,λx H=>?_⟩
   rcases cA.mp H with rfl|H
   ·exact b
   ·exact a x H
  ·rename_i c
   obtain⟨b,a⟩:=W6 l m;refine⟨b,λx H=>?_⟩;rcases cA.mp H with rfl|H
   ·omega
   ·exact a x H
theorem Rp:∀{l:List α}{k:Nat}{w:α},l[k]? =some w->l.Perm (w::l.eraseIdx k)
 |[],_,_,h=>by simp at h|x::l,0,w,h=>by
  simp at h;subst h;simp
 |x::l,k+1,w,h=>by
  rw[List.getElem?_cons_succ]at h;rw[List.eraseIdx_cons_succ];exact((Rp h).cons x).trans (List.Perm.swap w x _)
def HD {k:Nat}{i:Int}{w:W}(h:A[n]? =some (.lst ws))(hw:ws[k]? =some w)(H:jI i=true)(e:seqIndex? i ws.length=some k):Ze (.ref n) (.int i) A=.ok w (A.set n (.lst (ws.eraseIdx k))):=by
 unfold Ze;dsimp only;rw[h];dsimp only;rw[ag H,e];dsimp only;rw[hw]
def fV {k:Nat}(h:k<n):seqIndex? (k:Int) n=some k:=by
 have:=PySem.StrLaws.seqIndex_nonneg (i:=(k:Int)) (n:=n) (by omega) (by omega)
 rw[aI]at this;exact this
def EF {k:Nat}{w:W}(h:A[n]? =some (.lst ws))(hw:ws[k]? =some w)(H:k<1000000):Ze (.ref n) (.int (k:Int)) A=.ok w (A.set n (.lst (ws.eraseIdx k))):=
 HD h hw (G.g9 H) (fV (cB.mp hw).1)
theorem R9 {β:Type}(f:α->β):∀(l:List α)(k:Nat),(l.map f).eraseIdx k=(l.eraseIdx k).map f
 |[],_=>rfl|_::_,0=>rfl|a::l,k+1=>by
  rw[aL,List.eraseIdx_cons_succ,List.eraseIdx_cons_succ,aL,R9 f l k]
def JS {a b:Ev}{y:W}(c:a ρ A=.ok (.ref n) A)(d:A[n]? =some (.lst ws))(H:b ρ A=.ok y A1):j9 g a b ρ A=g (.ref n) y A1:=by
 unfold j9;have h:Ys (.ref n) A=true:=by unfold Ys;dsimp only;rw[d]
 rw[c,zO,ag h,H,zO]
def Wv {y:W}(h:A[n]? =some (.lst ws))(H:ws.length<1000):yA (.ref n) y A=.ok .non (A.set n (.lst (ws++[y]))):=by
 unfold yA;dsimp only;rw[h];dsimp only;rw[ag (by unfold qa;omega)]
def Vp {f:Fn}{us:List W}{c C:Int}{b B:Bool}{w:W}(a:A[n]? =some (.lst [.int c,.bl b]))(H:qS us=true)(h:f (.ref 0::us) [.lst [.int c,.bl b]]=.ok w A1)(g:A1[0]? =some (.lst [.int C,.bl B]))(hw:w.nr=true):wH f (.ref n::us) A=.ok w (A.set n (.lst [.int C,.bl B])):=by
 unfold wH;dsimp only;rw[a];dsimp only;have e:(qS [W.int c,W.bl b]&&qS us)=true:=by rw[H];rfl
 rw[ag e,h];dsimp only;rw[List.head?_eq_getElem?,g];dsimp only;have d:(qS [W.int C,W.bl B]&&w.nr)=true:=by rw[hw];rfl
 rw[ag d]
noncomputable abbrev iL (l:b9):List W:=l.map λ(a:Nat)=>W.int (a:Int)
def EV {m:Ev}(h:m ρ A=.ok (.int (n:Int)) A1)(hn:n<=100):Y9 m ρ A=.ok (.ref A1.length) (A1++[.lst (iL (List.range n))]):=by
 unfold Y9;rw[h,zO];dsimp only;rw[g9 (by omega),aI,aB (by unfold qa;omega)]
 rfl
def DB {m:Ev}{o:List α}{f:α->W}{G:α->W}(h:m ρ A=.ok (.tup (o.map f)) A)(l:o.length<=qa)(he:∀a∈o,me (some (f a)::cap.map λi=>(ρ[i]?).join) A=.ok (G a) A):
  zM 1 cap (qd m) (zC 0) zS (zK me) ρ A=.ok (o.map G) A:=by
 by_cases h0:o=[]
 ·subst h0
  have e:=Qg (cap:=cap) (me:=me) (ρ:=ρ) (A:=A) (N:=0) (item:=λ_=>.non) (g:=λ_=>.non) (QZ h) rfl (by unfold qa;omega) (λi H=>by omega) rfl (λi H=>by omega)
  exact e
 ·obtain⟨x,c⟩:∃x,x∈o:=List.exists_mem_of_ne_nil o h0
  have e:=Qg (cap:=cap) (me:=me) (ρ:=ρ) (A:=A) (N:=o.length) (item:=λi=>f (o.getD i x)) (g:=λi=>G (o.getD i x)) (QZ h) (ai ..) l
   (λi H=>by show some (o.map f)[i]? =_;rw[ao,aa H,ae,aa H];rfl)
   (by show some (o.map f)[o.length]? =_;rw[aE (by rw[ai];exact ar _)])
   (λi H=>by
    have:o.getD i x=o[i]:=by rw[ae,aa H];rfl
    rw[this];exact he _ (aP H))
  rw[e]
  congr 1
  apply bx
  ·simp
  ·intro i d b
   have H:i<o.length:=by simpa using b
   simp[ae,aa H]
def YB {β:Type}(o:List α)(x:α)(f:α->β):o.map f=(List.range o.length).map λi=>f (o.getD i x):=by
 apply bx
 ·simp
 ·intro i H a
  have h:i<o.length:=by simpa using H
  simp[ae,aa h]
def Qo (q:∀r∈t,r.length=t.length){v:Int}(h:v∈t.flatten):∃a b,a<t.length/\b<t.length/\at2 t a b=v:=by
 obtain⟨r,H,e⟩:=List.mem_flatten.mp h;obtain⟨a,d,g⟩:=bo H;obtain⟨b,c,f⟩:=bo e;refine⟨a,b,d,by rw[<- q r H];exact c,?_⟩
 unfold at2;have E:t.getD a []=r:=by rw[ae,aa d];exact g
 rw[E,ae,aa c];exact f
def Y7 (q:∀r∈t,r.length=t.length){a b:Nat}(e:a<t.length)(d:b<t.length):∃r∈t,at2 t a b∈r/\at2 t a b∈t.flatten:=by
 have H:t.getD a []∈t:=yz e;have c:at2 t a b∈t.getD a []:=by
  unfold at2;have h:b<(t.getD a []).length:=by rw[q _ H];exact d
  rw[ae (l:=t.getD a []),aa h];exact aP _
 exact⟨_,H,c,List.mem_flatten.mpr ⟨_,H,c⟩⟩
def Y5 {r:bX}{x:Int}(h:x∈r):x<=kQ r:=by
 cases r with
 |nil=>cases h|cons i is=>
  show x<=yi is i;rcases cA.mp h with rfl|h
  ·exact(W6 is x).1
  ·exact(W6 is i).2 x h
section
def Gf (h:qu t){a b:Nat}(d:a<t.length)(c:b<t.length):at2 t a b<qH t:=by
 obtain⟨r,H,e,_⟩:=Y7 h.sq d c;have f:=Y5 e;have E:=Y5 (cD.mpr ⟨r,H,rfl⟩:kQ r∈t.map kQ);unfold qH;omega
def W5 (h:qu t):qH t-1∈t.flatten:=by
 obtain⟨r,H,e⟩:=cD.mp (YW h.map_ne)
 have:qH t-1=kQ r:=by unfold qH;omega
 rw[this];exact List.mem_flatten.mpr ⟨r,H,YW (h.row_ne H)⟩
def Nd (h:qu t):qH t<=(t.length:Int):=by
 obtain⟨r,a,H⟩:=List.mem_flatten.mp (W5 h)
 have:=h.lo r a _ H
 omega
def V3 (h:qu t){v:Nat}(H:(v:Int)<qH t):∃a b,a<t.length/\b<t.length/\at2 t a b=(v:Int):=by
 by_cases e:(v:Int)=qH t-1
 ·rw[e];exact Qo h.sq (W5 h)
 ·exact Qo h.sq (h.fu v ⟨_,W5 h,by omega⟩)
noncomputable def ym (p:b9):bX:=0::p.map λ(k:Nat)=>1+(k:Int)
def QC (t:bV)(p o:b9):bV:=o.map λa=>o.map λb=>(ym p).getD (at2 t a b).toNat 0
def Ow {p:b9}{v:Nat}(H:1<=v)(h:v<=p.length):(ym p).getD v 0=1+((p[v-1]'(by omega):Nat):Int):=by
 obtain⟨v,rfl⟩:∃u,v=u+1:=⟨v-1,by omega⟩
 unfold ym;rw[ae,List.getElem?_cons_succ,ao,aa (by omega)]
 rfl
def FH (h:qu t){p o:b9}(n:p.Perm (List.range (qH t-1).toNat))(f:o.Perm (List.range t.length)):qu (QC t p o)/\(QC t p o).length=t.length:=by
 have l:o.length=t.length:=by rw[f.length_eq,aY]
 have L:=wB h;have K:=Nd h;have A:p.length=(qH t-1).toNat:=by rw[n.length_eq,aY]
 have n1:=h.n1;have H:∀i,o.getD i 0<t.length:=λi=>by
  by_cases hi:i<o.length
  ·rw[ae,aa hi]
   exact cC.mp (f.mem_iff.mp (aP hi))
  ·rw[ae,aE (by omega)]
   exact n1
 have u:o.Nodup:=(f.nodup_iff).mpr List.nodup_range;have r:∀a,a<t.length->∃i,i<t.length/\o.getD i 0=a:=λa y=>by
  obtain⟨i,hi,e⟩:=bo (f.mem_iff.mpr (cC.mpr y));exact⟨i,by omega,by rw[ae,aa hi];exact e⟩
 have c:∀q (g:q<p.length),p[q]<p.length:=λq g=>by
  have:=cC.mp (n.mem_iff.mp (aP g))
  omega
 have M:Mu t.length (λi j=>(ym p).getD (at2 t (o.getD i 0) (o.getD j 0)).toNat 0) p.length (λ_ _=>True):=by
  refine⟨λi=>?_,λi j=>?_,λi j B z _=>?_,λi j _ _ hn=>absurd trivial hn,λk k1 kc=>?_⟩
  ·show(ym p).getD (at2 t (o.getD i 0) (o.getD i 0)).toNat 0=0
   rw[(h.dg _ _ (H i) (H i)).mpr rfl]
   rfl
  ·show(ym p).getD (at2 t (o.getD i 0) (o.getD j 0)).toNat 0=(ym p).getD (at2 t (o.getD j 0) (o.getD i 0)).toNat 0
   rw[h.sy _ _ (H i) (H j)]
  ·show 1<=(ym p).getD (at2 t (o.getD i 0) (o.getD j 0)).toNat 0/\(ym p).getD (at2 t (o.getD i 0) (o.getD j 0)).toNat 0<=(p.length:Int)
   have s:o.getD i 0≠o.getD j 0:=by
    have x:i<o.length:=by omega
    have w:j<o.length:=by omega
    rw[ae,aa x,ae,aa w];intro e;have J:o[i]=o[j]:=e
    have:=(List.getElem_inj u).mp J
    omega
   have d:=h.dg _ _ (H i) (H j);have Q:=Uv h (H i) (H j);have P:=Gf h (H i) (H j);have N:at2 t (o.getD i 0) (o.getD j 0)≠0:=λe=>s (d.mp e);rw[Ow (by omega) (by omega)]
   have:=c ((at2 t (o.getD i 0) (o.getD j 0)).toNat-1) (by omega)
   omega
  ·obtain⟨q,g,e⟩:=bo (n.mem_iff.mpr (cC.mpr (by omega:k-1<(qH t-1).toNat)))
   obtain⟨a,b,y,C,I⟩:=V3 h (v:=q+1) (by omega)
   obtain⟨i,hi,D⟩:=r a y;obtain⟨j,z,E⟩:=r b C;refine⟨i,j,hi,z,?_⟩;show(ym p).getD (at2 t (o.getD i 0) (o.getD j 0)).toNat 0=(k:Int);rw[D,E,I,aI,Ow (by omega) (by omega)]
   have:p[q+1-1]'(by omega)=k-1:=e
   rw[this];omega
 have hT:QC t p o=yt t.length (λi j=>(ym p).getD (at2 t (o.getD i 0) (o.getD j 0)).toNat 0):=by
  unfold QC yt;rw[YB o 0,l]
  congr 1
  funext i
  rw[YB o 0 (λb=>(ym p).getD (at2 t (o.getD i 0) b).toNat 0),l]
 refine⟨?_,by unfold QC;rw[ai,l]⟩
 rw[hT];exact M.tab (λ_ _ _ _=>trivial) n1 h.n8 (.inr (by omega))
end
end G
namespace Mi
open PySem L2
def Vs {r b:Nat}{v:W}(h:A[r]? =some (.lst ws))(H:b<ws.length):yu (.ref r) (.int (b:Int)) v A=.ok () (A.set r (.lst (ws.set b v))):=by
 have e:gw ws.length (b:Int)=some b:=by unfold gw;rw[ag (by omega),ag (by omega),aI]
 unfold yu;dsimp only;rw[h];dsimp only;rw[e]
structure Kp (n:Nat)(A B:Hx):Prop where
 len:A.length<=B.length
 at_:∀i,i<A.length->i≠n->B[i]? =A[i]?
section
variable {C:Hx}
theorem Kp.trans (a:Kp n A B)(b:Kp n B C):Kp n A C:=⟨bt a.len b.len,λi H h=>(b.at_ i (aD H a.len) h).trans (a.at_ i H h)⟩
theorem Kp.set:Kp n A (A.set n o):=⟨by rw[bP];exact ar _,λi _ h=>aH (Ne.symm h)⟩
def Kp.ext (x:Ext A B):Kp n A B:=by
 obtain⟨l,rfl⟩:=x;exact⟨by simp,λi h _=>ah h⟩
def Kp.put (a:Kp n A B){k:Nat}(h:A.length<=k):Kp n A (B.set k o):=⟨by rw[bP];exact a.len,λi b H=>by rw[aH (by omega)];exact a.at_ i b H⟩
def Kp.get (a:Kp n A B)(h:A[i]? =some o)(hn:i≠n):B[i]? =some o:=by rw[a.at_ i (wQ h) hn];exact h
end
def WE:(yt n μ).length=n:=by unfold yt;simp
def Vo:∀r∈yt n μ,r.length=(yt n μ).length:=λr h=>by
 obtain⟨i,_,rfl⟩:=cD.mp h;rw[WE];simp
end Mi
namespace G
open PySem L2 Mi
section
abbrev Sq (t:bV):Prop:=∀r∈t,r.length=t.length
end
def UR (t:bV):Bool:=decide (1<=t.length)&&(decide (t.length<=8)&&((t.all λr=>r.length==t.length&&r.all λv=>decide (0<=v)&&decide (v<(t.length:Int)))&&
 (((List.range t.length).all λa=>(List.range t.length).all λb=>(decide (at2 t a b=0)==decide (a=b))&&decide (at2 t a b=at2 t b a))&&(List.range 8).all λk=>!(t.flatten.any λv=>decide ((k:Int)<v)) || t.flatten.contains (k:Int))))
def OD (h:UR t=true):qu t:=by
 unfold UR at h;rw[aw,aw,aw,aw,ak,ak]at h;obtain⟨n1,n8,i,s,hf⟩:=h;have rw_:∀r∈t,r.length=t.length/\∀v∈r,0<=v/\v<(t.length:Int):=λr hm=>by
  have:=cF.mp i r hm
  rw[aw,aK]at this;refine⟨this.1,λv d=>?_⟩
  have:=cF.mp this.2 v d
  rw[aw,ak,ak]at this;exact this
 have at_:∀a b,a<t.length->b<t.length->(decide (at2 t a b=0)==decide (a=b))=true/\at2 t a b=at2 t b a:=λa b c H=>by
  have:=cF.mp (cF.mp s a (cC.mpr c)) b (cC.mpr H)
  rw[aw,ak]at this;exact this
 refine⟨n1,n8,λr hm=>(rw_ r hm).1,λr hm=>(rw_ r hm).2,λa b c H=>?_,λa b c H=>(at_ a b c H).2,λk j=>?_⟩
 ·have:=aK.mp (at_ a b c H).1
  by_cases q:a=b
  ·rw[aB q]at this;exact⟨λ_=>q,λ_=>of_decide_eq_true this⟩
  ·rw[aC q]at this;exact⟨λz=>absurd z (of_decide_eq_false this),λz=>absurd z q⟩
 ·obtain⟨v,d,f⟩:=j
  obtain⟨r,hm,e⟩:=List.mem_flatten.mp d
  have:=(rw_ r hm).2 v e
  have g:=cF.mp hf k (cC.mpr (by omega))
  rw[bO]at g;rcases g with z|z
  ·exfalso
   have:(t.flatten.any λv=>decide ((k:Int)<v))=true:=List.any_eq_true.mpr ⟨v,d,aB f⟩
   rw[this]at z;cases z
  ·exact List.contains_iff_mem.mp z
def gX (t:bV):((zq t).nr&&true)=true:=by rw[JV];rfl
def Gr {m:Ev}{w:W}{ty c:Ty}(h:m ρ A=.ok w A1)(H:yk w A1=some ty):kM c m ρ A=.ok (.bl (kK ty c)) A1:=by
 unfold kM;rw[h,zO,H]
def NL (h:ρ[i]? =some (some (.tup ws))):mQ qE (qg (qi i)) ρ A=.ok (.int ws.length) A:=by
 rw[yF (kF (w:=.tup ws) (A1:=A) (zu h) rfl)]
 rfl
def Fq (i:Int)(A:Hx):YJ [.int i] A=.ok (.bl true) A:=by
 unfold YJ XW;exact q9 (w:=.bl true) (A1:=A) rfl
def DL {r:bX}(h:r.length<=8)(A:Hx):JJ [zT r,.int r.length] A=.ok (.bl true) A:=by
 unfold JJ Wn;refine q9 ?_;unfold XI;refine qF (ji ?_);refine(Q9 (A1:=A) rfl).trans ?_;have e:mQ qE (qg zm) [some (zT r),some (.int r.length)] A=.ok (.int r.length) A:=by
  rw[yF (kF (w:=zT r) (A1:=A) (zu rfl) rfl)];unfold qE;rw[ai]
 refine(Q9 (A1:=A) ((zR e (zu (i:=1) rfl)).trans ((QM _ _ _).trans (by rw[aB rfl])))).trans ?_
 have E:=JO (cap:=[]) (A:=A) (ρ:=[some (zT r),some (.int r.length)]) (ws:=r.map W.int) (me:=zH YJ (zc zm zj)) (g:=λ_=>.bl true) (zu (i:=0) rfl) (by rw[ai];unfold qa;omega) (λw hw=>by
  obtain⟨i,_,rfl⟩:=cD.mp hw;exact(qL (ws:=[.int i]) (A1:=A) rfl).trans (Fq i A))
 exact(yF E).trans (Y6 (p:=λ_=>true) λ_ _=>rfl)
def Aa {r:bX}(l:r.length<=8)(H:∀v∈r,0<=v/\v<r.length)(A:Hx):Qb [zT r,.int r.length,.int r.length] A=.ok (.bl true) A:=by
 unfold Qb K1;refine q9 ?_;unfold Xi;refine qF (ji ?_);refine(Q9 (A1:=A) ((qL (ws:=[zT r,.int r.length]) (A1:=A) rfl).trans (DL l A))).trans ?_;have e:=JO (cap:=[2]) (A:=A) (ρ:=[some (zT r),some (.int r.length),some (.int r.length)]) (ws:=r.map W.int) (me:=wa Z6 Jz (qc (.int 0)) (qi 0) (qi 1)) (g:=λ_=>.bl true) (zu (i:=0) rfl) (by rw[ai];unfold qa;omega) (λw hw=>by
  obtain⟨v,h,rfl⟩:=cD.mp hw;obtain⟨b,a⟩:=H v h;unfold wa;rw[jb,zO,zu (i:=0) (w:=.int v) rfl,zO];show R.bind (R.ok (W.bl (decide ((0:Int)<=v))) A) _=_;rw[aB b,zO];dsimp only;rw[zu (i:=1) (w:=.int r.length) rfl,zO];show R.ok (W.bl (decide (v<(r.length:Int)))) A=_;rw[aB a])
 exact(yF e).trans (Y6 (p:=λ_=>true) λ_ _=>rfl)
def fW (h:qu t)(A:Hx):X5 [zq t] A=.ok (.bl true) A:=by
 refine ZO (A1:=[]) (gX t) rfl (q9 ?_);unfold Pe;obtain⟨d,e,_⟩:=R6 (A:=[]) (N:=t.length) (item:=λi=>.tup [.int i,zT (t.getD i [])]) (I:=λρ=>∃g Y y y4,ρ=[some (zq t),g,Y,y,y4])
  (j:=ko (zq t) (t.map zT).length) (st:=turn (jo 1 2) (zo (qY (kH zW) (jo 3 4) (zo (ja (ZA (zi jz (zi jA qx zL) (zi jA zw zQ)) (zi jz (zi zD (zi zD zm zQ) zw) qx)) Zy zB) zB)) zB))
  (λi n=>J7 (Ke n)) (by have:=J1 (A:=[]) (ws:=t.map zT);rw[ai]at this;rw[ai];exact this) (λa f ρ H=>by
   obtain⟨g,Y,y,y4,rfl⟩:=H;have l:=h.sq _ (yz f);obtain⟨o,E,p,Z,r⟩:=R6 (A:=[]) (N:=t.length) (item:=λi=>.tup [.int i,.int ((t.getD a []).getD i 0)]) (I:=λρ=>∃y y4,ρ=[some (zq t),some (.int a),some (zT (t.getD a [])),y,y4])
    (j:=ko (zT (t.getD a [])) ((t.getD a []).map W.int).length) (st:=turn (jo 3 4) (zo (ja (ZA (zi jz (zi jA qx zL) (zi jA zw zQ)) (zi jz (zi zD (zi zD zm zQ) zw) qx)) Zy zB) zB))
    (λi n=>J7 (int_at (by omega)))
    (by have:=J1 (A:=[]) (ws:=(t.getD a []).map W.int);rw[ai,l]at this;rw[ai,l];exact this)
    (λb c ρ H=>by
     obtain⟨y,y4,rfl⟩:=H;refine⟨[some (zq t),some (.int a),some (zT (t.getD a [])),some (.int b),some (.int ((t.getD a []).getD b 0))],?_,_,_,rfl⟩;refine(yV rfl).trans ?_;refine(zJ ((yL (A1:=[]) ?_).trans rfl)).trans rfl;have v:zi jz (zi jA qx zL) (zi jA zw zQ) [some (zq t),some (.int a),some (zT (t.getD a [])),some (.int b),some (.int ((t.getD a []).getD b 0))] []=.ok (.bl false) []:=by
      refine(zR ((zR (zu (i:=4) rfl) (jb (w:=.int 0))).trans (QM _ _ _)) ((zR (zu (i:=1) rfl) (zu (i:=3) rfl)).trans (QM _ _ _))).trans ((Mx _ _ _).trans ?_);have hd:(t.getD a []).getD b 0=0↔a=b:=h.dg a b f c
      have:decide ((t.getD a []).getD b 0=0)=decide ((a:Int)=(b:Int)):=by
       by_cases q:a=b
       ·rw[aB (hd.mpr q),aB (by omega)]
       ·rw[aC (λz=>q (hd.mp z)),aC (by omega)]
      rw[this];simp
     have E:zi jz (zi zD (zi zD zm zQ) zw) qx [some (zq t),some (.int a),some (zT (t.getD a [])),some (.int b),some (.int ((t.getD a []).getD b 0))] []=.ok (.bl false) []:=by
      have u:=h.sq _ (yz c);refine(zR ((zR ((zR (zu (i:=0) rfl) (zu (i:=3) rfl)).trans (Q5 c)) (zu (i:=1) rfl)).trans (Kh (by omega))) (zu (i:=4) rfl)).trans ((Mm _ _ _).trans ?_)
      have s:(t.getD b []).getD a 0=(t.getD a []).getD b 0:=(h.sy a b f c).symm;rw[s,aB rfl]
      rfl
     exact(Um v).trans E) t.length 0 [some (zq t),some (.int a),some (zT (t.getD a [])),y,y4] (by omega) ⟨_,_,rfl⟩
   refine⟨[some (zq t),some (.int a),some (zT (t.getD a [])),p,Z],?_,_,_,_,_,rfl⟩;refine(yV rfl).trans ?_;rw[r]at E;have hlen:((t.getD a []).map W.int).length=t.length:=by rw[ai,l]
   refine(zJ ((yJ (JM (zu (i:=2) rfl))).trans ?_)).trans rfl;show yD (ko (zT (t.getD a [])) ((t.getD a []).map W.int).length) _ ((t.getD a []).map W.int).length 0 _ _=_;rw[hlen]at E ⊢;exact E) t.length 0 [some (zq t),none,none,none,none] (by omega) ⟨_,_,_,_,rfl⟩
 refine(zJ (ρ1:=d) (A1:=[]) ((yJ (JM (zu (i:=0) rfl))).trans ?_)).trans (qF rfl);show yD (ko (zq t) (t.map zT).length) _ (t.map zT).length 0 _ _=_;have hlen:(t.map zT).length=t.length:=ai ..;rw[hlen]at e ⊢;exact e
def Bb (h:qu t)(A:Hx):Xg [zq t] A=.ok (.bl true) A:=by
 have o:=DC h;have c:t.flatten≠[]:=by
  intro e;have y:=h.n1;have b:=h.sq _ (yz (t:=t) (a:=0) (by omega))
  have:t.getD 0 []=[]:=by
   have:=List.flatten_eq_nil_iff.mp e _ (yz (t:=t) (a:=0) (by omega))
   exact this
  rw[this]at b;simp at b;omega
 obtain⟨v0,l,E⟩:=List.exists_cons_of_ne_nil c;refine ZO (A1:=[.lst (t.flatten.map W.int)]) (gX t) rfl (q9 ?_);unfold Ts;refine(zJ (qO (gC (Bl (zu rfl) (by unfold qa;omega))))).trans (qF (ji ?_))
 generalize q:[O.lst (t.flatten.map W.int)]=B;have s:zP (.ref 0) B=some (t.flatten.map W.int):=by rw[<- q];rfl
 have em:mQ yh (qg zw) [some (zq t),some (.ref 0)] B=.ok (.int (yi l v0)) B:=by
  rw[yF (kF (w:=.ref 0) (A1:=B) (zu rfl) s)];unfold yh;rw[Ws,E]
 have H:yi l v0∈t.flatten:=by
  rw[E];rcases Vl l v0 with e|e
  ·rw[e];exact ax ..
  ·exact au _ e
 have f:0<=yi l v0/\yi l v0<8:=by
  obtain⟨r,b,v⟩:=List.mem_flatten.mp H
  have:=h.lo r b _ v
  have:=h.n8
  omega
 generalize yi l v0=M at em H f;obtain⟨K,rfl⟩:=aZ f.1;have u:=Qg (cap:=[1]) (me:=zi G4 zm zw) (ρ:=[some (zq t),some (.ref 0)]) (A:=B) (N:=K) (j:=j8 0 K) (item:=λi=>.int (0+i)) (g:=λ_=>.bl true)
  ((ZJ em (by unfold jI;simp;omega)).trans (by rw[aI])) rfl (by unfold qa;omega) (λi d=>wA d) (wy (by omega))
  (λi d=>by
   refine(zR (zu (i:=0) (w:=.int (0+i)) rfl) (zu (i:=1) (w:=.ref 0) rfl)).trans ?_;show Jq false _ _ _=_;unfold Jq;rw[s];dsimp only;have hf:(gi (.int (0+(i:Int)))&&(t.flatten.map W.int).all gi)=true:=by
    have:(t.flatten.map W.int).all gi=true:=cF.mpr λw hw=>by obtain⟨x,_,rfl⟩:=cD.mp hw;rfl
    rw[this];rfl
   rw[ag hf];have n:Yt (.int (0+(i:Int))) (t.flatten.map W.int)=true:=by
    unfold Yt;refine List.any_eq_true.mpr ⟨.int i,cD.mpr ⟨(i:Int),h.fu i ⟨_,H,by omega⟩,rfl⟩,?_⟩
    show((i:Int)==0+(i:Int))=true;rw[Int.zero_add];exact br _
   rw[n]
   rfl)
 refine(yF u).trans ?_;exact Y6 (p:=λ_=>true) λ_ _=>rfl
def By (h:qu t)(A:Hx):g7 [zq t] A=.ok (.bl true) A:=by
 have n1:=h.n1;have n8:=h.n8;unfold g7 YK;refine q9 ?_;unfold Wy;have e:∀ρ:En,mQ qE (qg (qi 0)) (some (zq t)::ρ) A=.ok (.int t.length) A:=λρ=>by
  rw[yF (kF (w:=zq t) (A1:=A) (zu rfl) rfl)];unfold qE;rw[ai]
 refine(zJ (ρ1:=[some (zq t),none]) (A1:=A) ((yL (A1:=A) ?_).trans rfl)).trans ?_
 ·refine(Um (A1:=A) rfl).trans ?_
  refine Qn (k:=true) ?_;show wa Z6 Z6 (qc (.int 1)) (mQ qE (qg (qi 0))) (qc (.int 8)) [some (zq t),none] A=_;unfold wa;rw[jb,zO,e,zO];show R.bind (R.ok (W.bl (decide ((1:Int)<=t.length))) A) _=_;rw[aB (by omega),zO]
  dsimp only;rw[jb,zO];show R.ok (W.bl (decide ((t.length:Int)<=8))) A=_;rw[aB (by omega)]
 refine(zJ (qO (e _))).trans ?_;have E:=JO (cap:=[1]) (A:=A) (ρ:=[some (zq t),some (.int t.length)]) (ws:=t.map zT) (me:=zH Qb (zc (qi 0) (zc (qi 1) (zc (qi 1) zj)))) (g:=λ_=>.bl true) (zu (i:=0) rfl) (by rw[ai];unfold qa;omega) (λw hw=>by
  obtain⟨r,H,rfl⟩:=cD.mp hw;have l:=h.sq r H;refine(qL (ws:=[zT r,.int t.length,.int t.length]) (A1:=A) rfl).trans ?_;rw[<- l];exact Aa (by omega) (λv a=>by have:=h.lo r H v a;omega) A)
 refine(zJ (ρ1:=[some (zq t),some (.int t.length)]) (A1:=A) ((yL (A1:=A) (Qn (k:=true) ((yF E).trans (Y6 (p:=λ_=>true) λ_ _=>rfl)))).trans rfl)).trans (qF (ji ?_));refine(Q9 (A1:=A) ((qL (ws:=[zq t]) (A1:=A) rfl).trans (fW h A))).trans ?_;exact(qL (ws:=[zq t]) (A1:=A) rfl).trans (Bb h A)
end G
namespace Mi
open PySem L2
theorem XO:∀(l m:bX),PyData.eqvAll (l.map PyData.int) (m.map PyData.int)=decide (l=m)
 |[],[]=>by simp[PyData.eqvAll]|[],_::_=>by simp[PyData.eqvAll]|_::_,[]=>by simp[PyData.eqvAll]|a::l,b::m=>by
  simp only[aL,PyData.eqvAll,XO l m,PyData.eqv];rw[Bool.eq_iff_iff];simp
theorem RL:∀l:bX,yN (qm A n) (l.map W.int)=some (l.map PyData.int)
 |[]=>rfl|i::l=>by
  have:qm A n (.int i)=some (.int i):=by cases n<;>rfl
  show(match qm A n (.int i),yN (qm A n) (l.map W.int) with|some d,some ds=>some (d::ds)|_,_=>none)=_
  rw[this,RL l]
  rfl
def Ud {r:Nat}(h:A[r]? =some (.lst (l.map W.int))):qm A 8 (.ref r)=some (.list (l.map PyData.int)):=by
 show(match zP (.ref r) A with|some ws=>(yN (qm A 7) ws).map PyData.list|none=>none)=_
 have:zP (.ref r) A=some (l.map W.int):=by unfold zP;dsimp only;rw[h]
 rw[this];dsimp only;rw[RL]
 rfl
def Ky (A B:Hx):Prop:=∀w ty,yk w A=some ty->yk w B=some ty
def Ext.ky (x:Ext A B):Ky A B:=λw ty h=>by
 cases w with
 |ref n=>
  unfold yk at h ⊢;dsimp only at h ⊢;cases e:A[n]? with
  |none=>rw[e]at h;cases h|some o=>rw[e]at h;rw[x.at e];exact h
 |_=>exact h
def Ky.trans {C:Hx}(a:Ky A B)(b:Ky B C):Ky A C:=λw ty h=>b w ty (a w ty h)
section
def Nf:yk (.ref A.length) (A++[.lst ws])=some .lst:=by
 unfold yk;dsimp only;rw[jx]
end
structure Kn (n:Nat)(A B:Hx):Prop where
 kp:Kp n A B
 st:G.qZ n B
def _root_.G.qZ.ty (h:G.qZ n A):yk (.ref n) A=some .lst:=by
 obtain⟨c,b,e,_⟩:=h;unfold yk;dsimp only;rw[e]
def _root_.G.qZ.lt (h:G.qZ n A):n<A.length:=by
 obtain⟨c,b,e,_⟩:=h;exact wQ e
def _root_.G.qZ.ext (h:G.qZ n A)(x:Ext A B):G.qZ n B:=by
 obtain⟨c,b,e,r⟩:=h;exact⟨c,b,x.at e,r⟩
def _root_.G.qZ.put {k:Nat}(h:G.qZ n A)(H:k≠n):G.qZ n (A.set k o):=by
 obtain⟨c,b,e,r⟩:=h;exact⟨c,b,by rw[aH H];exact e,r⟩
def Kn.ky (s:G.qZ n A)(k:Kn n A B):Ky A B:=λw ty h=>by
 cases w with
 |ref i=>
  by_cases q:i=n
  ·subst q
   rw[s.ty]at h;rw[k.st.ty];exact h
  ·unfold yk at h ⊢
   dsimp only at h ⊢
   by_cases z:i<A.length
   ·rw[k.kp.at_ i z q];exact h
   ·rw[aE (by omega)]at h;cases h
 |_=>exact h
theorem Kn.trans {C:Hx}(a:Kn n A B)(b:Kn n B C):Kn n A C:=⟨a.kp.trans b.kp,b.st⟩
theorem Kn.ext (s:G.qZ n A)(x:Ext A B):Kn n A B:=⟨Kp.ext x,s.ext x⟩
end Mi
namespace G
open PySem L2 Mi
def fX (h:qZ n A){m:Int}(c:0<m)(H:m<1000000000000000):∃(r:Nat) (B:Hx),yU [.ref n,.int m] A=.ok (.int r) B/\(r:Int)<m/\Kn n A B/\B.length=A.length:=by
 obtain⟨r,o,e,a,b,s⟩:=O8 h c H;exact⟨r.toNat,A.set n o,by rw[e,bI a],by omega,⟨Kp.set,s⟩,bP ..⟩
def Q2 {m:Int}(h:qZ n A)(h0:ρ[0]? =some (some (.ref n)))(hm:me ρ A=.ok (.int m) A)(b:0<m)(H:m<1000000000000000):∃(r:Nat) (B:Hx),zH yU (zc zm (zc me zj)) ρ A=.ok (.int r) B/\(r:Int)<m/\Kn n A B/\B.length=A.length:=by
 obtain⟨r,B,e,a⟩:=fX h b H;exact⟨r,B,(qL (qj (zu h0) (qj hm qI))).trans e,a⟩
def fY {ty:Ty}(h:ty≠.tup):kK ty .tup=false:=by
 cases ty<;>first|rfl|exact absurd rfl h
def w6 (A:Hx)(w:W):Prop:=∀B,Ky A B->g7 [w] B=.ok (.bl false) B
def w6.mono {w:W}(k:Ky A B)(h:w6 A w):w6 B w:=λC q=>h C (k.trans q)
def NF {w:W}{ty:Ty}(h:yk w A=some ty)(hn:ty≠.tup):w6 A w:=λB k=>by
 unfold g7 YK;refine q9 ?_;unfold Wy;have e:kM .tup zm [some w,none] B=.ok (.bl false) B:=(Gr (zu rfl) (k _ _ h)).trans (by rw[fY hn])
 have E:ZA (wG (kM .tup zm)) (wG (wa Z6 Z6 zV (mQ qE (qg zm)) yS)) [some w,none] B=.ok (.bl true) B:=by
  unfold ZA;rw[Qn e,zO]
  rfl
 exact qF ((wF E).trans (qF (ji jb)))
def fZ (h:yk (.ref j) A=some .lst):w6 A (.tup [.ref j]):=λB k=>by
 unfold g7 YK;refine q9 ?_;unfold Wy;have H:=k _ _ h;have e:JJ [.ref j,.int 1] B=.ok (.bl false) B:=by
  unfold JJ Wn;refine q9 ?_;unfold XI;exact qF (ji (Gm ((Gr (zu rfl) H).trans rfl)))
 have b:Qb [.ref j,.int 1,.int 1] B=.ok (.bl false) B:=by
  unfold Qb K1;refine q9 ?_;unfold Xi;exact qF (ji (Gm ((qL (ws:=[.ref j,.int 1]) (A1:=B) rfl).trans e)))
 have E:=JO (cap:=[1]) (A:=B) (ρ:=[some (.tup [.ref j]),some (.int 1)]) (ws:=[.ref j]) (me:=zH Qb (zc zm (zc zw (zc zw zj)))) (g:=λ_=>.bl false) (zu (i:=0) rfl) (by simp[qa]) (λw hw=>by
  rw[cE.mp hw];exact(qL (ws:=[.ref j,.int 1,.int 1]) (A1:=B) rfl).trans b)
 refine(zJ (ρ1:=[some (.tup [.ref j]),none]) (A1:=B) rfl).trans ((zJ (ρ1:=[some (.tup [.ref j]),some (.int 1)]) (A1:=B) rfl).trans ?_);exact qF ((wF (Qn (k:=false) ((yF E).trans rfl))).trans (qF (ji jb)))
def ET (m:Ev)(ρ:En):Prop:=∀A,∃w A1,m ρ A=.ok w A1/\Ext A A1/\w6 A1 w
def AT (a:Ea)(ρ:En)(k:Nat):Prop:=∀A,∃ws A1,a ρ A=.ok ws A1/\Ext A A1/\ws.length=k/\∀w∈ws,w6 A1 w
section
variable {m:Ev}{a:Ea}{k:Nat}{w:W}
def Gd:AT zj ρ 0:=λA=>⟨[],A,rfl,Ext.refl,rfl,λ_ h=>by cases h⟩
def yr (h:ET m ρ)(t:AT a ρ k):AT (zc m a) ρ (k+1):=λA=>by
 obtain⟨w,A1,E,x1,c⟩:=h A;obtain⟨ws,A2,e,x2,l,b⟩:=t A1;refine⟨w::ws,A2,qj E e,x1.trans x2,by rw[aV,l],λy H=>?_⟩
 rcases cA.mp H with rfl|H
 ·exact c.mono x2.ky
 ·exact b y H
def yW (h:∀A,m ρ A=.ok w A)(hf:∀B,g7 [w] B=.ok (.bl false) B:=by intro B;kernel_rfl):ET m ρ:=λA=>⟨w,A,h A,Ext.refl,λB _=>hf B⟩
def f3:ET Kv ρ:=λA=>⟨.ref A.length,A++[.dct []],rfl,Ext.one,NF (ty:=.dct) (by unfold yk;dsimp only;rw[jx]) (by decide)⟩
end
section
variable {a:Ea}{k:Nat}
structure TL (A:Hx)(r k:Nat)(B:Hx):Prop where
 at_:∃ws,B[r]? =some (.lst ws)/\ws.length=k/\∀w∈ws,w6 B w
 nw:A.length<=r
 ext:Ext A B
def f5 (h:AT a ρ k)(A:Hx):∃r B,qb a ρ A=.ok (.ref r) B/\TL A r k B:=by
 obtain⟨ws,A1,e,x,l,hw⟩:=h A;exact⟨_,_,yq e,⟨ws,jx,l,λw H=>(hw w H).mono Ext.one.ky⟩,x.len,x.app⟩
def V0 {r:Nat}(t:TL A r j B)(h:AT a ρ k)(c:ρ[i]? =some (some (.ref r)))(f:j+k<=100):∃b C,zi qB (qi i) (qb a) ρ B=.ok (.ref b) C/\TL A b (j+k) C:=by
 obtain⟨ws,e,l,hw⟩:=t.at_;obtain⟨us,d,E,x1,L,u⟩:=h B;have x2:Ext B (d++[.lst us]):=x1.app;refine⟨_,_,(zR (zu c) (yq E)).trans (Vi (x2.at e) jx (by unfold qa;omega)),⟨ws++us,jx,by rw[ay,l,L],λw H=>?_⟩,?_,(t.ext.trans x2).app⟩
 ·rcases cG.mp H with q|q
  ·exact(hw w q).mono (x2.app).ky
  ·exact(u w q).mono (Ext.one.trans Ext.one).ky
 ·have:=t.ext.len
  have:=x2.len
  omega
def Bv {r:Nat}{m:Int}{mm:Ev}(s:qZ n A)(t:TL A r k B)(a:ρ[i]? =some (some (.ref r)))(h0:ρ[0]? =some (some (.ref n)))(hm:∀A,mm ρ A=.ok (.int m) A)(c:(k:Int)=m)(b:0<m)(f:m<1000):∃w C,zi zD (qi i) (zH yU (zc zm (zc mm zj))) ρ B=.ok w C/\w6 C w/\Kn n A C:=by
 obtain⟨ws,e,l,hw⟩:=t.at_;have sB:=s.ext t.ext;obtain⟨j,C,E,d,kn,_⟩:=Q2 sB h0 (hm B) b (by omega)
 have h:j<ws.length:=by omega
 have H:r≠n:=by have:=s.lt;have:=t.nw;omega
 refine⟨ws[j],C,(zR (zu a) E).trans (wR (kn.kp.get e H) (aa h)),(hw _ (aP h)).mono (kn.ky sB),(Kn.ext s t.ext).trans kn⟩
end
def f6 (s:qZ n A):∃w B,QO [.ref n] A=.ok w B/\w6 B w/\Kn n A B:=by
 unfold QO Xk;unfold TK;have E:∀ρ,ET (qb (zc (qb (zc zL zj)) zj)) ρ:=λρ A=>⟨_,_,yq (qj (yq (qj jb qI)) qI),Ext.one.app,NF Nf (by decide)⟩
 have e:∀ρ,ET (zE (zc (qb (zc zL zj)) zj)) ρ:=λρ A=>⟨_,_,W8 (qj (yq (qj jb qI)) qI),Ext.one,fZ Nf⟩;obtain⟨d,q,l,t1⟩:=f5 (k:=11) (ρ:=[some (.ref n),none]) (a:=zc Z9 (zc zL (zc (zE zj) (zc (zE (zc (zE zj) zj)) (zc (zE (zc (zE (zc zV zj)) zj)) (zc (qb (zc (qb (zc zL zj)) zj)) (zc (zE (zc (qb (zc zL zj)) zj)) (zc (zE (zc (zE (zc zL zj)) (zc (zE (zc zL zj)) zj))) (zc (zE (zc (zE (zc zL (zc zV zj))) (zc (zE (zc qy (zc zL zj))) zj))) (zc (zE (zc (zE (zc zL (zc qy zj))) (zc (zE (zc qy (zc zL zj))) zj))) (zc Kv zj))))))))))) (yr (yW (λ_=>rfl)) (yr (yW (λ_=>rfl)) (yr (yW (w:=.tup []) (λ_=>rfl)) (yr (yW (w:=.tup [.tup []]) (λ_=>rfl)) (yr (yW (w:=.tup [.tup [.int 1]]) (λ_=>rfl)) (yr (E _) (yr (e _) (yr (yW (w:=.tup [.tup [.int 0],.tup [.int 0]]) (λ_=>rfl))
  (yr (yW (w:=.tup [.tup [.int 0,.int 1],.tup [.int 2,.int 0]]) (λ_=>rfl)) (yr (yW (w:=.tup [.tup [.int 0,.int 2],.tup [.int 2,.int 0]]) (λ_=>rfl)) (yr f3 Gd))))))))))) A
 obtain⟨c,p,j,T⟩:=V0 (k:=5) (i:=1) (ρ:=[some (.ref n),some (.ref d)]) (a:=zc (zE (zc (zE (zc zL (zc zV zj))) (zc (zE (zc zV (zc zV zj))) zj))) (zc (zE (zc (zE (zc zS zj)) zj)) (zc (zE (zc (zE (zc zL (zc zS zj))) (zc (zE (zc zS (zc zL zj))) zj))) (zc (zE (zc (zE (zc zL (zc (jR Yg zV) zj))) (zc (zE (zc (jR Yg zV) (zc zL zj))) zj))) (zc (zE (zc (zE (zc zL (zc zV zj))) (zc (zE (zc zV (zc zL zj))) (zc (zE (zc zV (zc zV zj))) zj)))) zj))))) t1 (yr (yW (w:=.tup [.tup [.int 0,.int 1],.tup [.int 1,.int 1]]) (λ_=>rfl)) (yr (yW (w:=.tup [.tup [.bl true]]) (λ_=>rfl)) (yr (yW (w:=.tup [.tup [.int 0,.bl true],.tup [.bl true,.int 0]]) (λ_=>rfl))
  (yr (yW (w:=.tup [.tup [.int 0,.int (-1)],.tup [.int (-1),.int 0]]) (λ_=>rfl)) (yr (yW (w:=.tup [.tup [.int 0,.int 1],.tup [.int 1,.int 0],.tup [.int 1,.int 1]]) (λ_=>rfl)) Gd))))) rfl (by omega)
 obtain⟨b,o,h,t3⟩:=V0 (k:=5) (i:=1) (ρ:=[some (.ref n),some (.ref c)]) (a:=zc (zE (zc (zE (zc zL (zc zV (zc qy zj)))) (zc (zE (zc zV (zc zL (zc qy zj)))) (zc (zE (zc qy (zc qy (zc zV zj)))) zj)))) (zc (qc (.str "0")) (zc (zE (zc (zE (zc zL (zc ju (zc ju zj)))) (zc (zE (zc ju (zc zL (zc zV zj)))) (zc (zE (zc ju (zc zV (zc zL zj)))) zj)))) (zc (zE (zc (zE (zc zL zj)) (zc (zE zj) zj))) (zc (zE (zc zL zj)) zj))))) T (yr (yW (w:=.tup [.tup [.int 0,.int 1,.int 2],.tup [.int 1,.int 0,.int 2],.tup [.int 2,.int 2,.int 1]]) (λ_=>rfl)) (yr (yW (λ_=>rfl))
  (yr (yW (w:=.tup [.tup [.int 0,.int 3,.int 3],.tup [.int 3,.int 0,.int 1],.tup [.int 3,.int 1,.int 0]]) (λ_=>rfl)) (yr (yW (w:=.tup [.tup [.int 0],.tup []]) (λ_=>rfl)) (yr (yW (w:=.tup [.int 0]) (λ_=>rfl)) Gd))))) rfl (by omega)
 obtain⟨r,B4,g,t⟩:=V0 (k:=2) (i:=1) (ρ:=[some (.ref n),some (.ref b)]) (a:=zc (zE (zc (zE (zc Z9 zj)) zj)) (zc (zE (zc (zE (zc zL (zc zL zj))) (zc (zE (zc zL (zc zL zj))) zj))) zj)) t3 (yr (yW (w:=.tup [.tup [.non]]) (λ_=>rfl)) (yr (yW (w:=.tup [.tup [.int 0,.int 0],.tup [.int 0,.int 0]]) (λ_=>rfl)) Gd)) rfl (by omega)
 obtain⟨w,C,f,hw,kn⟩:=Bv (i:=1) (ρ:=[some (.ref n),some (.ref r)]) (mm:=qc (.int 23)) (m:=23) s t rfl rfl (λ_=>rfl) rfl (by decide) (by decide)
 refine⟨w,C,q9 ?_,hw,kn⟩;refine(zJ ((qO l).trans rfl)).trans ((zJ ((qO j).trans rfl)).trans ((zJ ((qO h).trans rfl)).trans ((zJ ((qO g).trans rfl)).trans (qF (ji f)))))
section
variable {N a:Nat}
def HR (g:t.length<=8)(q:Sq t){m:Ev}{c:Hx}(H:m ρ c=.ok (zq t) B):qt (zM 1 [] (qd m) (zC 0) zS (zK (qt (qg zm)))) ρ c=
  .ok (.ref (B.length+t.length)) (B++(t.map λr=>O.lst (r.map W.int))++[O.lst ((List.range t.length).map λi=>W.ref (B.length+i))]):=by
 obtain⟨b,d,j,e,⟨z,g1⟩,g2,g3⟩:=YI (nl:=1) (cap:=[]) (tw:=zC 0) (ifs:=qc (.bl true)) (em:=zK (qt (qg zm))) (ρ:=ρ) (A:=c) (N:=t.length)
  (I:=λp b a C=>(∃z,b=[z])/\C=B++((t.take p).map λr=>O.lst (r.map W.int))/\a=(List.range p).map λi=>W.ref (B.length+i)) (QZ H) (by simp)
  (λp b a C h ⟨⟨z,f1⟩,f2,f⟩=>by
   subst f1 f2 f;refine⟨zT t[p],[some (zT t[p])],?_,rfl,.inl ⟨_,_,_,_,rfl,YR (gC (kF (w:=zT t[p]) (ws:=t[p].map W.int) (zu rfl) rfl)) ?_,⟨_,rfl⟩,?_,?_⟩⟩
   ·show some (t.map zT)[p]? =_
    rw[ao,aa h];rfl
   ·simp;unfold qa;omega
   ·rw[take_succ h,aX,aN];rfl
   ·rw[bE,aX,ay,ai,bU,Nat.min_eq_left (bA h)];rfl)
  (λb a C _=>by show some (t.map zT)[t.length]? =_;rw[aE (by simp)]) ⟨⟨none,rfl⟩,by simp,by simp⟩
 rw[gC e,g2,g3,take_length];simp
def Ox (h:i<t.length):(B++(t.map λr=>O.lst (r.map W.int))++[O.lst ((List.range t.length).map λi=>W.ref (B.length+i))])[B.length+i]? =some (.lst ((t.getD i []).map W.int)):=by
 rw[ah (by simp;omega),aq (by omega),show B.length+i-B.length=i by omega,ao,ae,aa h]
 rfl
def Py:(B++(t.map λr=>O.lst (r.map W.int))++[O.lst ((List.range t.length).map λi=>W.ref (B.length+i))])[B.length+t.length]? =some (.lst ((List.range t.length).map λi=>W.ref (B.length+i))):=by
 have:B.length+t.length=(B++(t.map λr=>O.lst (r.map W.int))).length:=by simp
 rw[this,jx]
end
def Yr {r s:Nat}{m:bX}(h:A[r]? =some (.lst (l.map W.int)))(H:A[s]? =some (.lst (m.map W.int))):jz (.ref r) (.ref s) A=.ok (.bl (!decide (l=m))) A:=by
 show Zu true _ _ A=_;unfold Zu;rw[Ud h,Ud H];dsimp only;rw[PyData.eqv,XO]
 rfl
section
variable {p f:Nat}
def DV {x:Option W}(U:A.length<=p)(hf:A.length<=f)(hn:n<A.length)(h:p≠f):∀(k fu:Nat)(l fd:bX)(B:Hx),l.length=k->k<fu->fd.length+l.length<=100->Kn n A B->B[p]? =some (.lst (l.map W.int))->B[f]? =some (.lst (fd.map W.int))->
  ∃(j:Hx) (b:bX),ZU (zi jz zW (qb zj)) (zo (yw (j9 yA zQ (j9 Ze zW (zH yU (zc zm (zc (mQ qE (qg zW)) zj)))))) zB) fu [some (.ref n),x,some (.ref p),some (.ref f)] B=.ok (.nx [some (.ref n),x,some (.ref p),some (.ref f)]) j/\Kn n A j/\j[f]? =some (.lst (b.map W.int))/\b.Perm (fd++l):=by
 intro k
 induction k with
 |zero=>
  intro fu l fd B H z _ kn r D;obtain⟨fu,rfl⟩:∃J,fu=J+1:=⟨fu-1,by omega⟩
  have:l=[]:=List.length_eq_zero_iff.mp H
  subst this;refine⟨B++[.lst []],fd,?_,kn.trans (Kn.ext kn.st Ext.one),ye D,by simp⟩
  unfold ZU;have s:zi jz zW (qb zj) [some (.ref n),x,some (.ref p),some (.ref f)] B=.ok (.bl false) (B++[.lst []]):=(zR (zu (i:=2) rfl) (yq qI)).trans (Yr (l:=[]) (m:=[]) (ye r) jx);rw[s,zO]
 |succ k S=>
  intro fu l fd B H z X kn r D;obtain⟨fu,rfl⟩:∃J,fu=J+1:=⟨fu-1,by omega⟩
  have s:zi jz zW (qb zj) [some (.ref n),x,some (.ref p),some (.ref f)] B=.ok (.bl true) (B++[.lst []]):=by
   refine(zR (zu (i:=2) rfl) (yq qI)).trans ((Yr (m:=[]) (ye r) jx).trans ?_);have y:l≠[]:=λe=>by rw[e]at H;cases H
   rw[aC y]
   rfl
  have K:=kn.trans (Kn.ext kn.st (Ext.one (o:=.lst [])));have g1:=ye (u:=.lst []) r;have g2:=ye (u:=.lst []) D;generalize B++[O.lst []]=L at s K g1 g2;have E:mQ qE (qg zW) [some (.ref n),x,some (.ref p),some (.ref f)] L=.ok (.int (l.length:Int)) L:=by
   rw[yF (kF (w:=.ref p) (A1:=L) (ws:=l.map W.int) (zu rfl) (by unfold zP;dsimp only;rw[g1]))]
   unfold qE;rw[ai]
  obtain⟨q,P,e1,T,k2,_⟩:=Q2 (ρ:=[some (.ref n),x,some (.ref p),some (.ref f)]) K.st rfl E (by omega) (by omega)
  have v:q<l.length:=by omega
  have d:=k2.kp.get g1 (by omega)
  have I:=k2.kp.get g2 (by omega)
  have hw:(l.map W.int)[q]? =some (.int l[q]):=by rw[ao,aa v];rfl
  have N:=(JS (g:=Ze) (a:=qi 2) (zu rfl) g1 e1).trans (EF d hw (by omega))
  rw[R9]at N;have c:(P.set p (.lst ((l.eraseIdx q).map W.int)))[f]? =some (.lst (fd.map W.int)):=by rw[aH h];exact I
  have M:=(JS (g:=yA) (a:=qi 3) (zu rfl) g2 N).trans (Wv c (by rw[ai];omega))
  have C:fd.map W.int++[.int l[q]]=(fd++[l[q]]).map W.int:=by rw[aX];rfl
  rw[C]at M;have hlen:(l.eraseIdx q).length=k:=by rw[List.length_eraseIdx_of_lt v];omega
  have t:Kn n A ((P.set p (.lst ((l.eraseIdx q).map W.int))).set f (.lst ((fd++[l[q]]).map W.int))):=⟨((K.trans k2).kp.put U).put hf,((k2.st).put (by omega)).put (by omega)⟩
  obtain⟨j,b,Z,s4,a4,Q⟩:=S fu (l.eraseIdx q) (fd++[l[q]]) _ hlen (by omega) (by rw[ay,aU];omega) t
   (by rw[aH (Ne.symm h),aJ (wQ d)]) (by rw[aJ (wQ c)])
  refine⟨j,b,?_,s4,a4,Q.trans ?_⟩
  ·unfold ZU
   rw[s,zO];dsimp only;have Y:=(zJ (m2:=zB) (Q3 M)).trans jG;rw[Y,zO];exact Z
  ·rw[aN]
   exact List.Perm.append_left fd (Rp (aa v)).symm
def Oz {q:Nat}(s:qZ n A)(h:A[q]? =some (.lst (l.map W.int)))(H:l.length<=100):∃(r:Nat) (B:Hx) (fd:bX),JG [.ref n,.ref q] A=.ok (.ref r) B/\B[r]? =some (.lst (fd.map W.int))/\fd.Perm l/\Kn n A B/\A.length<=r:=by
 unfold JG Xj;unfold TF;have a:qt (qg zw) [some (.ref n),some (.ref q),none,none] A=.ok (.ref A.length) (A++[.lst (l.map W.int)]):=gC (kF (w:=.ref q) (zu rfl) (by unfold zP;dsimp only;rw[h]))
 have x0:Ext A (A++[.lst (l.map W.int)]++[.lst []]):=Ext.one.app;have hlen:(A++[O.lst (l.map W.int)]).length=A.length+1:=by simp
 have a2:(A++[.lst (l.map W.int)]++[.lst []])[A.length+1]? =some (.lst (([]:bX).map W.int)):=by rw[<- hlen];exact jx
 obtain⟨B,fd,E,kn,e,P⟩:=DV (A:=A) (p:=A.length) (f:=A.length+1) (x:=some (.ref q)) (ar _) (by omega) s.lt (by omega) l.length 1000 l [] _ rfl (by omega) (by simp;omega) (Kn.ext s x0) (ye jx) a2
 refine⟨A.length+1,B,fd,q9 ?_,e,by simpa using P,kn,by omega⟩
 refine(zJ ((qO a).trans rfl)).trans ((zJ (ρ1:=[some (.ref n),some (.ref q),some (.ref A.length),some (.ref (A.length+1))]) (A1:=A++[.lst (l.map W.int)]++[.lst []]) ?_).trans ((zJ (m1:=V5 1000 _ _) E).trans (qF (ji (zu rfl)))));refine(qO (yq qI)).trans ?_;rw[hlen]
 rfl
end
noncomputable def dist (t:bV):b9:=(List.range 8).filter λi=>decide ((i:Int)∈t.flatten)
def wZ (t:bV)(v:Int):Int:=((dist t).idxOf v.toNat:Nat)
def yK (t:bV):bV:=t.map λr=>r.map (wZ t)
def YV:i∈dist t↔i<8/\(i:Int)∈t.flatten:=by
 unfold dist;rw[mem_filter,mem_range,ak]
def HW (t:bV):(dist t).Nodup:=List.Pairwise.filter _ List.nodup_range
theorem RZ:∀{l:bX},(∀v∈l,0<=v/\v<8)->Qw l=some (l.map Int.toNat)
 |[],_=>rfl|v::l,h=>by
  unfold Qw;rw[ag (h v (ax ..)),RZ λx H=>h x (au _ H)]
  rfl
theorem Ph:∀{kws:List (Nat×List W)},(∀p∈kws,A[p.1]? =some (.lst p.2))->gh A (kws.map λ(p:Nat×List W)=>W.ref p.1)=some (kws.map (·.2))
 |[],_=>rfl|p::kws,h=>by
  show(match A[p.1]? with|some (.lst ws)=>(gh A (kws.map λ(p:Nat×List W)=>W.ref p.1)).map (ws::·)|_=>none)=_
  rw[h p (ax ..)];dsimp only;rw[Ph λx H=>h x (au _ H)]
  rfl
theorem OG (v:Nat):∀{l:b9},v∈l->Zk (λz=>PyData.eqv z (.int (v:Int))) (l.map λ(i:Nat)=>PyData.int (i:Int))=some (l.idxOf v)
 |[],h=>by cases h|a::l,h=>by
  rw[aL,Zk,List.idxOf_cons]
  have:PyData.eqv (.int (a:Int)) (.int (v:Int))=(a==v):=by
   rw[PyData.eqv,Bool.eq_iff_iff];simp;omega
  rw[this]
  by_cases q:a=v
  ·subst q
   simp
  ·have Q:(a==v)=false:=by simp[q]
   rw[Q,aj (by simp)]
   rw[OG v ((cA.mp h).resolve_left (Ne.symm q))]
   rfl
def LL (t:bV)(r:Nat)(B:Hx):Prop:=∃ks:b9,B[r]? =some (.lst (ks.map W.ref))/\ks.length=t.length/\∀i,i<t.length->B[ks.getD i 0]? =some (.lst ((t.getD i []).map W.int))
def YX {m:Ev}{k:Nat}(h:m ρ A=.ok (.ref k) A)(a:A[k]? =some (.lst ws))(l:ws.length<=qa){g:W->W}(he:∀w∈ws,me (some w::cap.map λi=>(ρ[i]?).join) A=.ok (g w) A):
  zM 1 cap (qd m) (zC 0) zS (zK me) ρ A=.ok (ws.map g) A:=by
 have e:=Qg (cap:=cap) (me:=me) (ρ:=ρ) (A:=A) (N:=ws.length) (item:=λi=>ws.getD i .non) (g:=λi=>g (ws.getD i .non)) (W7 h a) rfl l
  (λi H=>(Qp a).trans (by rw[aa H,ae,aa H];rfl))
  ((Qp a).trans (by rw[aE (ar _)]))
  (λi H=>by
   have:ws.getD i .non=ws[i]:=by rw[ae,aa H];rfl
   rw[this];exact he _ (aP H))
 rw[e]
 congr 1
 apply bx
 ·simp
 ·intro i c b
  have H:i<ws.length:=by simpa using b
  simp[ae,aa H]
noncomputable def Ml (f:Int->Int):W->W
 |.int v=>.int (f v)|w=>w
def Af (f:Int->Int)(l:bX):(l.map W.int).map (Ml f)=(l.map f).map W.int:=by
 rw[aO,aO];rfl
section
variable {r:Nat}
def Fz (l:t.length<=8)(L:LL t r B)(h0:ρ[i]? =some (some (.ref r))):qt (zM 1 [] (qd (qi i)) (zC 0) zS (zK (qt (qg zm)))) ρ B=
  .ok (.ref (B.length+t.length)) (B++(t.map λr=>O.lst (r.map W.int))++[O.lst ((List.range t.length).map λi=>W.ref (B.length+i))]):=by
 obtain⟨ks,E,d,g⟩:=L;obtain⟨b,f,n,e,⟨z,g1⟩,g2,g3⟩:=YI (nl:=1) (cap:=[]) (tw:=zC 0) (ifs:=qc (.bl true)) (em:=zK (qt (qg zm))) (ρ:=ρ) (A:=B) (N:=t.length)
  (I:=λp b a C=>(∃z,b=[z])/\C=B++((t.take p).map λr=>O.lst (r.map W.int))/\a=(List.range p).map λi=>W.ref (B.length+i)) (W7 (zu h0) E) (by simp[d])
  (λp b a C H ⟨⟨z,f1⟩,f2,j⟩=>by
   subst f1 f2 j;have x:Ext B (B++((t.take p).map λr=>O.lst (r.map W.int))):=⟨_,rfl⟩;have h:=x.at (g p H);have c:t.getD p []=t[p]:=by rw[ae,aa H];rfl
   rw[c]at h;refine⟨.ref (ks.getD p 0),[some (.ref (ks.getD p 0))],?_,rfl,.inl ⟨_,_,_,_,rfl,YR (gC (kF (w:=.ref (ks.getD p 0)) (ws:=t[p].map W.int) (zu rfl) (by unfold zP;dsimp only;rw[h]))) ?_,⟨_,rfl⟩,?_,?_⟩⟩
   ·refine(Qp (x.at E)).trans ?_
    rw[ao,ae,aa (by omega)];rfl
   ·simp;unfold qa;omega
   ·rw[take_succ H,aX,aN];rfl
   ·rw[bE,aX,ay,ai,bU,Nat.min_eq_left (bA H)];rfl)
  (λb a C ⟨_,f2,_⟩=>by
   subst f2;exact(Qp (Ext.at ⟨_,rfl⟩ E)).trans (by rw[aE (by simp[d])])) ⟨⟨none,rfl⟩,by simp,by simp⟩
 rw[gC e,g2,g3,take_length];simp
def LL.mono (x:Ext A B)(h:LL t r A):LL t r B:=by
 obtain⟨ks,e,a,H⟩:=h;exact⟨ks,x.at e,a,λi b=>x.at (H i b)⟩
def Oy (Y:1<=t.length)(J:t.length<=8)(E:Sq t)(s:∀v∈t.flatten,0<=v/\v<8)(L:LL t r A):∃B,QT [.ref r] A=.ok (zq (yK t)) B/\Ext A B:=by
 have X:t.flatten.length<=64:=by
  have:∀l:bV,(∀r∈l,r.length<=8)->l.flatten.length<=8 * l.length:=by
   intro l
   induction l with
   |nil=>intro _;simp|cons r l S=>
    intro e;have Y:=e r (ax ..);have h2:=S λQ x=>e Q (au _ x);rw[a6,ay,aV];omega
  have:=this t λr e=>by rw[E r e];exact J
  omega
 unfold QT XF;unfold Sx;have P:=Fz (ρ:=[some (.ref r),none]) (i:=0) J L rfl;have x1:Ext A (A++(t.map λr=>O.lst (r.map W.int))++[O.lst ((List.range t.length).map λi=>W.ref (A.length+i))]):=⟨(t.map λr=>O.lst (r.map W.int))++[O.lst ((List.range t.length).map λi=>W.ref (A.length+i))],by rw[aN]⟩
 have a:∀i,i<t.length->_:=λi D=>Ox (B:=A) (t:=t) (i:=i) D;have H:=Py (B:=A) (t:=t);generalize A++(t.map λr=>O.lst (r.map W.int))++[O.lst ((List.range t.length).map λi=>W.ref (A.length+i))]=b at P x1 a H;have M:zi ZR (qt (zM 1 [] (qd zm) (zC 0) zS (zK (qt (qg zm))))) (qb zj) [some (.ref r),none] A=.ok (.ref (b.length+1)) (b++[.lst []]++[.lst (t.flatten.map W.int)]):=by
  refine(zR P (yq qI)).trans ?_;have o:=Ph (A:=b++[.lst []]) (kws:=(List.range t.length).map λi=>(A.length+i,(t.getD i []).map W.int)) (λp T=>by
   obtain⟨i,D,rfl⟩:=cD.mp T;exact ye (a i (cC.mp D)))
  rw[aO,aO]at o;have C:((λp:Nat×List W=>W.ref p.1) ∘ λi=>(A.length+i,(t.getD i []).map W.int))=λi=>W.ref (A.length+i):=rfl;have y:((λp:Nat×List W=>p.2) ∘ λi=>(A.length+i,(t.getD i []).map W.int))=λi=>(t.getD i []).map W.int:=rfl;rw[C,y,<- YB t [] λr=>r.map W.int]at o;have hf:(t.map λr=>r.map W.int).flatten=t.flatten.map W.int:=by rw[List.map_flatten]
  unfold ZR;dsimp only;rw[ye H,jx];dsimp only;rw[o];dsimp only;rw[ag ⟨λz=>(by have:=congrArg List.length z;rw[ai,aY]at this;exact absurd this (by rw[bF];omega)),by rw[hf,ai];unfold qa;omega⟩,hf]
  simp
 have x2:Ext A (b++[.lst []]++[.lst (t.flatten.map W.int)]):=x1.app.app;have f:(b++[.lst []]++[.lst (t.flatten.map W.int)])[b.length+1]? =some (.lst (t.flatten.map W.int)):=by
  have:b.length+1=(b++[O.lst []]).length:=by simp
  rw[this,jx]
 generalize b++[.lst []]++[.lst (t.flatten.map W.int)]=c at M x2 f;have K:WL (zi ZR (qt (zM 1 [] (qd zm) (zC 0) zS (zK (qt (qg zm))))) (qb zj)) [some (.ref r),none] A=.ok (.ref c.length) (c++[.lst (((dist t).map λ(i:Nat)=>(i:Int)).map W.int)]):=by
  unfold WL;rw[M,zO];unfold Vh;dsimp only;rw[f];dsimp only;rw[Ws];dsimp only;rw[RZ s];dsimp only
  have:((List.range 8).filter λi=>decide (i∈t.flatten.map Int.toNat))=dist t:=by
   unfold dist
   apply List.filter_congr
   intro i _;rw[decide_eq_decide]
   constructor
   ·intro z
    obtain⟨v,h,rfl⟩:=cD.mp z;rw[bI (s v h).1];exact h
   ·intro z
    exact cD.mpr ⟨_,z,rfl⟩
  rw[this,aO]
  rfl
 have x3:=x2.app (l:=[.lst (((dist t).map λ(i:Nat)=>(i:Int)).map W.int)]);have d:(c++[.lst (((dist t).map λ(i:Nat)=>(i:Int)).map W.int)])[c.length]? =some (.lst (((dist t).map λ(i:Nat)=>(i:Int)).map W.int)):=jx;generalize c++[.lst (((dist t).map λ(i:Nat)=>(i:Int)).map W.int)]=n at K x3 d;obtain⟨ks,k0,I,e⟩:=LL.mono x3 L;refine⟨n,q9 ((zJ ((qO K).trans rfl)).trans (qF (ji ?_))),x3⟩;have idx:∀v,v∈t.flatten->Zf (.ref c.length) (.int v) n=.ok (.int (wZ t v)) n:=λv h=>by
  obtain⟨u,rfl⟩:=aZ (s v h).1;have hm:u∈dist t:=YV.mpr ⟨by have:=s _ h;omega,h⟩
  unfold Zf;rw[Ud d];show(match Zk (λz=>PyData.eqv z (.int (u:Int))) (((dist t).map λ(i:Nat)=>(i:Int)).map PyData.int) with|some j=>if j<1000000 then R.ok (W.int (j:Int)) n else .bad|none=>.bad)=_
  have:((dist t).map λ(i:Nat)=>(i:Int)).map PyData.int=(dist t).map λ(i:Nat)=>PyData.int (i:Int):=by rw[aO];rfl
  rw[this,OG u hm];dsimp only;have o:(dist t).idxOf u<(dist t).length:=List.idxOf_lt_length_of_mem hm;have U:(dist t).length<=8:=by unfold dist;exact bt (bG _ _) (by simp)
  rw[ag (by omega)]
  rfl
 have Z:=Qg (cap:=[1]) (me:=mQ jm (zM 1 [1] (qd zm) (zC 0) zS (zK (j9 Zf zw zm)))) (ρ:=[some (.ref r),some (.ref c.length)]) (A:=n) (N:=t.length) (item:=λi=>.ref (ks.getD i 0)) (g:=λi=>zT ((t.getD i []).map (wZ t))) (W7 (zu (i:=0) rfl) k0) (by simp[I]) (by unfold qa;omega)
  (λj q=>(Qp k0).trans (by rw[ao,ae,aa (by omega)];rfl)) ((Qp k0).trans (by rw[aE (by simp[I])]))
  (λj q=>by
   have:=YX (cap:=[1]) (m:=qi 0) (me:=j9 Zf zw zm) (ρ:=[some (.ref (ks.getD j 0)),some (.ref c.length)]) (g:=Ml (wZ t)) (zu rfl) (e j q) (by rw[ai,E _ (yz q)];unfold qa;omega) (λw hw=>by
    obtain⟨v,h,rfl⟩:=cD.mp hw;exact(JS (g:=Zf) (zu rfl) d (zu (i:=0) rfl)).trans (idx v (List.mem_flatten.mpr ⟨_,yz q,h⟩)))
   rw[Af]at this;exact Zi this)
 refine(Zi Z).trans ?_;unfold zq yK;rw[aO,YB t [] (zT ∘ λr=>r.map (wZ t))]
 rfl
def FF (Q:1<=t.length)(P:t.length<=8)(o:Sq t)(dg:∀a b,a<t.length->b<t.length->(at2 t a b=0↔a=b))(sy:∀a b,a<t.length->b<t.length->at2 t a b=at2 t b a)
  (lo:∀a b,a<t.length->b<t.length->0<=at2 t a b/\at2 t a b<(t.length:Int)):qu (yK t):=by
 have w:∀v∈t.flatten,0<=v/\v<(t.length:Int):=λv n=>by
  obtain⟨a,b,f,w,rfl⟩:=Qo o n;exact lo a b f w
 have hlen:(yK t).length=t.length:=by unfold yK;rw[ai]
 have q:∀r∈yK t,r.length=t.length:=λr g=>by
  obtain⟨s,E,rfl⟩:=cD.mp g;rw[ai];exact o s E
 have j:∀a b,a<t.length->b<t.length->at2 (yK t) a b=wZ t (at2 t a b):=λa b f w=>by
  have z:=o _ (yz f);unfold at2 yK;rw[ae (l:=t.map _),ao,aa f];have e:t.getD a []=t[a]:=by rw[ae,aa f];rfl
  rw[e]at z ⊢;show(t[a].map (wZ t)).getD b 0=_;rw[ae,ao,ae,aa (by omega)]
  rfl
 have mem:∀a b,a<t.length->b<t.length->(at2 t a b).toNat∈dist t:=λa b f H=>by
  obtain⟨_,_,_,x⟩:=Y7 o f H
  have:=w _ x
  rw[YV,bI this.1];exact⟨by omega,x⟩
 have nd:=HW t;have dl:(dist t).length<=t.length:=by
  have:=VU t.length ((dist t).map λ(i:Nat)=>(i:Int)) (by
   rw[List.nodup_iff_pairwise_ne,pairwise_map];exact nd.imp λh=>by omega) (λr g=>by
   obtain⟨i,I,rfl⟩:=cD.mp g
   have:=w _ (YV.mp I).2
   exact this)
  rw[ai]at this;exact this
 have Z:(0:Nat)∈dist t:=by
  have:=mem 0 0 (by omega) (by omega)
  rw[(dg 0 0 (by omega) (by omega)).mpr rfl]at this
  exact this
 have d0:∃l,dist t=0::l:=by
  have g:List.range 8=0::[1,2,3,4,5,6,7]:=by decide
  have D:=(YV.mp Z).2;refine⟨[1,2,3,4,5,6,7].filter λi=>decide ((i:Int)∈t.flatten),?_⟩;unfold dist;rw[g,List.filter_cons_of_pos (by exact aB D)]
 obtain⟨N,u⟩:=d0;have y:∀a b,a<t.length->b<t.length->0<=wZ t (at2 t a b)/\wZ t (at2 t a b)<(t.length:Int):=λa b f H=>by
  have:=List.idxOf_lt_length_of_mem (mem a b f H)
  unfold wZ;omega
 refine⟨by omega,by omega,λr g=>by rw[hlen];exact q r g,λr g v n=>?_,λa b f H=>?_,λa b f H=>?_,λk C=>?_⟩
 ·have:v∈(yK t).flatten:=List.mem_flatten.mpr ⟨r,g,n⟩
  obtain⟨a,b,f,H,e⟩:=Qo (λr g=>by rw[hlen];exact q r g) this
  rw[hlen]at f H ⊢;rw[<- e,j a b f H];exact y a b f H
 ·rw[hlen]at f H
  rw[j a b f H,<- dg a b f H];unfold wZ;have m:=mem a b f H;have n:=lo a b f H
  constructor
  ·intro e
   have M:(dist t).idxOf (at2 t a b).toNat=0:=by omega
   have A:=List.idxOf_lt_length_of_mem m
   have:=List.getElem_idxOf A
   have h0:(dist t)[(dist t).idxOf (at2 t a b).toNat]? =some (at2 t a b).toNat:=by rw[aa A,this]
   rw[M,u]at h0;simp at h0;omega
  ·intro e
   rw[e,u];simp
 ·rw[hlen]at f H
  rw[j a b f H,j b a H f,sy a b f H]
 ·obtain⟨v,n,C⟩:=C
  obtain⟨a,b,f,H,e⟩:=Qo (λr g=>by rw[hlen];exact q r g) n
  rw[hlen]at f H;rw[j a b f H]at e;have A:=List.idxOf_lt_length_of_mem (mem a b f H);have p:k<(dist t).length:=by unfold wZ at e;omega
  have hd:=YV.mp (aP p);obtain⟨c,d,J,B,L⟩:=Qo o hd.2;have K:at2 (yK t) c d=(k:Int):=by
   rw[j c d J B,L];unfold wZ;rw[aI,nd.idxOf_getElem k p]
  obtain⟨_,_,_,x⟩:=Y7 (t:=yK t) (λr g=>by rw[hlen];exact q r g) (by omega:c<(yK t).length) (by omega:d<(yK t).length)
  rw[K]at x;exact x
end
noncomputable def kT:Nat->List (bX)
 |0=>[[0,1,2,3,4,3,2,1],[1,0,1,2,3,4,3,2],[2,1,0,1,2,3,4,3],[3,2,1,0,1,2,3,4],[4,3,2,1,0,1,2,3],[3,4,3,2,1,0,1,2],[2,3,4,3,2,1,0,1],[1,2,3,4,3,2,1,0]]|1=>[[0,1,2,3,3,2,1],[1,0,1,2,3,3,2],[2,1,0,1,2,3,3],[3,2,1,0,1,2,3],[3,3,2,1,0,1,2],[2,3,3,2,1,0,1],[1,2,3,3,2,1,0]]|2=>[[0,1,2,3,2,1],[1,0,1,2,3,2],[2,1,0,1,2,3],[3,2,1,0,1,2],[2,3,2,1,0,1],[1,2,3,2,1,0]]|3=>[[0,1,2,2,1],[1,0,1,2,2],[2,1,0,1,2],[2,2,1,0,1],[1,2,2,1,0]]|4=>[[0,1,2,1],[1,0,1,2],[2,1,0,1],[1,2,1,0]]|5=>[[0,1,1],[1,0,1],[1,1,0]]|6=>[[0,1],[1,0]]|7=>[[0]]|8=>[[0,1,1,2,1,2,2,3],[1,0,2,1,2,1,3,2],[1,2,0,1,2,3,1,2],[2,1,1,0,3,2,2,1],[1,2,2,3,0,1,1,2],[2,1,3,2,1,0,2,1],[2,3,1,2,1,2,0,1],[3,2,2,1,2,1,1,0]]|9=>[[0,1,1,2],[1,0,2,1],[1,2,0,1],[2,1,1,0]]|10=>[[0,1],[1,0]]|11=>[[0,1,1,1,1,1,1,1],[1,0,1,1,1,1,1,1],[1,1,0,1,1,1,1,1],[1,1,1,0,1,1,1,1],[1,1,1,1,0,1,1,1],[1,1,1,1,1,0,1,1],[1,1,1,1,1,1,0,1],[1,1,1,1,1,1,1,0]]|12=>[[0,1,1,1,1,1,1],[1,0,1,1,1,1,1],[1,1,0,1,1,1,1],[1,1,1,0,1,1,1],[1,1,1,1,0,1,1],[1,1,1,1,1,0,1],[1,1,1,1,1,1,0]]|13=>[[0,1,1,1,1,1],[1,0,1,1,1,1],[1,1,0,1,1,1],[1,1,1,0,1,1],[1,1,1,1,0,1],[1,1,1,1,1,0]]|14=>[[0,1,1,1,1],[1,0,1,1,1],[1,1,0,1,1],[1,1,1,0,1],[1,1,1,1,0]]|15=>[[0,1,1,1],[1,0,1,1],[1,1,0,1],[1,1,1,0]]|16=>[[0,1,1],[1,0,1],[1,1,0]]|17=>[[0,1],[1,0]]|18=>[[0]]|19=>[[0,1,2,2,2,2,2,2],[1,0,2,2,2,2,2,2],[2,2,0,1,2,2,2,2],[2,2,1,0,2,2,2,2],[2,2,2,2,0,1,2,2],[2,2,2,2,1,0,2,2],[2,2,2,2,2,2,0,1],[2,2,2,2,2,2,1,0]]|20=>[[0,1,1,1,2,2,2,2],[1,0,1,1,2,2,2,2],[1,1,0,1,2,2,2,2],[1,1,1,0,2,2,2,2],[2,2,2,2,0,1,1,1],[2,2,2,2,1,0,1,1],[2,2,2,2,1,1,0,1],[2,2,2,2,1,1,1,0]]|21=>[[0,1,2,2,2,2],[1,0,2,2,2,2],[2,2,0,1,2,2],[2,2,1,0,2,2],[2,2,2,2,0,1],[2,2,2,2,1,0]]|22=>[[0,1,1,2,2,2],[1,0,1,2,2,2],[1,1,0,2,2,2],[2,2,2,0,1,1],[2,2,2,1,0,1],[2,2,2,1,1,0]]|23=>[[0,1,2,2],[1,0,2,2],[2,2,0,1],[2,2,1,0]]|24=>[[0,1,1,1,1,2],[1,0,1,1,2,1],[1,1,0,2,1,1],[1,1,2,0,1,1],[1,2,1,1,0,1],[2,1,1,1,1,0]]|25=>[[0,1,2,3],[1,0,3,2],[2,3,0,1],[3,2,1,0]]|26=>[[0,1,2,3,4,5,6,7],[1,0,3,2,5,4,7,6],[2,3,0,1,6,7,4,5],[3,2,1,0,7,6,5,4],[4,5,6,7,0,1,2,3],[5,4,7,6,1,0,3,2],[6,7,4,5,2,3,0,1],[7,6,5,4,3,2,1,0]]|27=>[[0,1],[1,0]]|28=>[[0,1,2,1,3,4,5,4],[1,0,1,2,4,3,4,5],[2,1,0,1,5,4,3,4],[1,2,1,0,4,5,4,3],[3,4,5,4,0,1,2,1],[4,3,4,5,1,0,1,2],[5,4,3,4,2,1,0,1],[4,5,4,3,1,2,1,0]]|29=>[[0,1,1,3,4,4],[1,0,1,4,3,4],[1,1,0,4,4,3],[3,4,4,0,1,1],[4,3,4,1,0,1],[4,4,3,1,1,0]]|30=>[[0,1,3,4],[1,0,4,3],[3,4,0,1],[4,3,1,0]]|31=>[[0,1,2,1,3,3,3,3],[1,0,1,2,3,3,3,3],[2,1,0,1,3,3,3,3],[1,2,1,0,3,3,3,3],[3,3,3,3,0,1,2,1],[3,3,3,3,1,0,1,2],[3,3,3,3,2,1,0,1],[3,3,3,3,1,2,1,0]]|32=>[[0,1,1,3,3,3],[1,0,1,3,3,3],[1,1,0,3,3,3],[3,3,3,0,1,1],[3,3,3,1,0,1],[3,3,3,1,1,0]]|33=>[[0,1,3,3],[1,0,3,3],[3,3,0,1],[3,3,1,0]]|_=>[]
def f7:((List.range 34).all λi=>UR (yK (kT i))&&((kT i).all λr=>r.length==(kT i).length)&&((kT i).flatten.all λv=>decide (0<=v)&&decide (v<8)))=true:=by decide +kernel
def Ap (h:i<34):qu (yK (kT i))/\G.Sq (kT i)/\∀v∈(kT i).flatten,0<=v/\v<8:=by
 have:=cF.mp f7 i (cC.mpr h)
 rw[aw,aw]at this;refine⟨OD this.1.1,λr a=>?_,λv H=>?_⟩
 ·exact eq_of_beq (cF.mp this.1.2 r a)
 ·have:=cF.mp this.2 v H
  rw[aw,ak,ak]at this;exact this
theorem OH:∀{us:List W}{w:List (List W)},gh A us=some w->∃ks:b9,us=ks.map W.ref/\ks.length=w.length/\∀i,i<w.length->A[ks.getD i 0]? =some (.lst (w.getD i []))
 |[],w,e=>by
  cases e;exact⟨[],rfl,rfl,λi H=>by cases H⟩
 |.ref k::us,w,e=>by
  unfold gh at e;cases h:A[k]? with
  |none=>rw[h]at e;cases e|some o=>
   rw[h]at e;cases o with
   |lst ws=>
    dsimp only at e;cases a:gh A us with
    |none=>rw[a]at e;cases e|some v=>
     rw[a]at e;cases e;obtain⟨ks,rfl,l,b⟩:=OH a;refine⟨k::ks,rfl,by simp[l],λi H=>?_⟩
     cases i with
     |zero=>exact h|succ i=>exact b i (by simpa using H)
   |_=>cases e
 |.non::_,_,e=>by cases e|.bl _::_,_,e=>by cases e|.int _::_,_,e=>by cases e|.str _::_,_,e=>by cases e|.tup _::_,_,e=>by cases e|.clo _ _ _::_,_,e=>by cases e|.xc _::_,_,e=>by cases e
def UQ (x:R Fl):Option (Option O×Option (List (List W))):=match x with
 |.ok (.rt (.ref r)) B=>some (B[0]?,match B[r]? with
  |some (.lst us)=>gh B us|_=>none)
 |_=>none
def CM {x:R Fl}(h:UQ x=some (some o,some (t.map λr=>r.map W.int))):∃r B,x=.ok (.rt (.ref r)) B/\B[0]? =some o/\LL t r B:=by
 unfold UQ at h
 split at h
 ·rename_i r B
  injection h with h
  injection h with d H
  cases a:B[r]? with
  |none=>rw[a]at H;cases H|some o'=>
   rw[a]at H;cases o' with
   |lst us=>
    dsimp only at H;obtain⟨ks,rfl,l,b⟩:=OH H;rw[ai]at l b;refine⟨r,B,rfl,d,ks,a,l,λi c=>(b i c).trans ?_⟩;rw[ae,ao,ae,aa c]
    rfl
   |_=>cases H
 ·cases h
def Plain (X:Ex)(ρ:En)(A:Hx):Prop:=∃i,i<34/\∃r B,X ρ A=.ok (.rt (.ref r)) B/\qZ 0 B/\LL (kT i) r B
section
variable {m1 m2:Ex}{ρ1:En}{L:Hx}{c:Ev}
def gj (h:m1 ρ A=.ok (.nx ρ1) A1)(q:Plain m2 ρ1 A1):Plain (zo m1 m2) ρ A:=by
 unfold Plain;rw[zJ h];exact q
def J8 (q:Plain m1 ρ A):Plain (zo m1 m2) ρ A:=by
 obtain⟨i,h,r,B,e,s,l⟩:=q;exact⟨i,h,r,B,qF e,s,l⟩
def Ye (h:c ρ A=.ok (.bl true) A1)(q:Plain m1 ρ A1):Plain (ja c m1 m2) ρ A:=by
 unfold Plain;rw[wF h];exact q
def jY {m:Ex}(h:c ρ A=.ok (.bl false) A)(q:Plain m ρ A):Plain (zo (ja c m1 zB) m) ρ A:=gj ((yL h).trans jG) q
def f9 {l:Hx}(s:qZ 0 (o::L)):qZ 0 (o::l):=s
def jw (i:Nat)(H:i<34)(s:qZ 0 (o::L))(h:UQ (m1 ρ A)=some (some o,some ((kT i).map λr=>r.map W.int))):Plain m1 ρ A:=by
 obtain⟨r,B,e,h0,l⟩:=CM h;obtain⟨c,b,a,q⟩:=s;have E:some o=some (O.lst [.int c,.bl b]):=a;exact⟨i,H,r,B,e,⟨c,b,by rw[h0];exact E,q⟩,l⟩
def take1 (s:qZ 0 (o::L)){m:Int}(H:0<m)(h:m<1000000000000000):∃(r:Nat) (o':O),yU [.ref 0,.int m] (o::L)=.ok (.int (r:Int)) (o'::L)/\(r:Int)<m/\qZ 0 (o'::L):=by
 obtain⟨r,o',e,a,b,s'⟩:=O8 s H h;exact⟨r.toNat,o',by rw[e,bI a];rfl,by omega,s'⟩
def JN {a:Ea}{vs:List W}{k:Nat}(s:qZ 0 (o::L))(h0:ρ[0]? =some (some (.ref 0)))(b:∀A,a ρ A=.ok vs A)(d:vs.length=k)(k1:0<k)(k2:k<1000):∃(j:Nat) (w:W) (o':O),zi zD (qb a) (zH yU (zc zm (zc (qc (.int (k:Int))) zj))) ρ (o::L)=.ok w (o'::(L++[.lst vs]))/\j<k/\vs[j]? =some w/\qZ 0 (o'::(L++[.lst vs])):=by
 obtain⟨r,o',e,c,s'⟩:=take1 (L:=L++[.lst vs]) (m:=(k:Int)) (f9 s) (by omega) (by omega)
 have h:r<vs.length:=by omega
 refine⟨r,vs[r],o',?_,by omega,aa h,s'⟩
 refine(zR (yq (b _)) ((qL (qj (zu h0) (qj jb qI))).trans e)).trans ?_;have H:(o'::(L++[O.lst vs]))[(o::L).length]? =some (.lst vs):=by
  show(L++[O.lst vs])[L.length]? =_;exact jx
 exact wR H (aa h)
end
def three (h:j<3):j=0∨j=1∨j=2:=by omega
def UT (h:j<5):j=0∨j=1∨j=2∨j=3∨j=4:=by omega
def Uw (h:j<8):j=0∨j=1∨j=2∨j=3∨j=4∨j=5∨j=6∨j=7:=by omega
def CQ (s:qZ 0 [o]):Plain (Xz yU) [some (.ref 0),none,none,none,none,none,none,none,none,none,none] [o]:=by
 unfold Xz;obtain⟨way,p,n,hw,s1⟩:=take1 s (m:=8) (by decide) (by decide)
 refine gj (ρ1:=[some (.ref 0),some (.int (way:Int)),none,none,none,none,none,none,none,none,none]) (A1:=[p]) ((qO ((qL (ws:=[.ref 0,.int 8]) (A1:=[o]) rfl).trans n)).trans rfl) ?_;obtain⟨j,w,c,E,l,f,s2⟩:=JN (k:=8) (ρ:=[some (.ref 0),some (.int (way:Int)),none,none,none,none,none,none,none,none,none]) (a:=zc yS (zc Yv (zc G6 (zc G9 (zc wJ (zc ju (zc qy (zc zV zj)))))))) (vs:=[.int 8,.int 7,.int 6,.int 5,.int 4,.int 3,.int 2,.int 1]) s1 rfl (λ_=>rfl) rfl (by decide) (by decide)
 refine gj (ρ1:=[some (.ref 0),some (.int (way:Int)),some w,none,none,none,none,none,none,none,none]) (A1:=[c,.lst [.int 8,.int 7,.int 6,.int 5,.int 4,.int 3,.int 2,.int 1]]) ((qO E).trans rfl) ?_;have y:way<8:=by omega
 clear n E hw s s1;rcases Uw y with rfl|rfl|rfl|rfl|rfl|rfl|rfl|rfl
 ·refine J8 (Ye (A1:=[c,.lst [.int 8,.int 7,.int 6,.int 5,.int 4,.int 3,.int 2,.int 1]]) (by kernel_rfl) ?_)
  rcases Uw l with rfl|rfl|rfl|rfl|rfl|rfl|rfl|rfl<;>cases f
  ·exact jw 0 (by decide) s2 (by kernel_rfl)
  ·exact jw 1 (by decide) s2 (by kernel_rfl)
  ·exact jw 2 (by decide) s2 (by kernel_rfl)
  ·exact jw 3 (by decide) s2 (by kernel_rfl)
  ·exact jw 4 (by decide) s2 (by kernel_rfl)
  ·exact jw 5 (by decide) s2 (by kernel_rfl)
  ·exact jw 6 (by decide) s2 (by kernel_rfl)
  ·exact jw 7 (by decide) s2 (by kernel_rfl)
 ·refine jY (by kernel_rfl) (J8 (Ye (A1:=[c,.lst [.int 8,.int 7,.int 6,.int 5,.int 4,.int 3,.int 2,.int 1]]) (by kernel_rfl) ?_))
  obtain⟨J,g,i,e,b,H,s3⟩:=JN (k:=3) (ρ:=[some (.ref 0),some (.int ((1:Nat):Int)),some w,none,none,none,none,none,none,none,none]) (a:=zc yS (zc wJ (zc qy zj))) (vs:=[.int 8,.int 4,.int 2]) s2 rfl (λ_=>rfl) rfl (by decide) (by decide)
  refine gj ((qO e).trans rfl) ?_;rcases three b with rfl|rfl|rfl<;>cases H
  ·exact jw 8 (by decide) s3 (by kernel_rfl)
  ·exact jw 9 (by decide) s3 (by kernel_rfl)
  ·exact jw 10 (by decide) s3 (by kernel_rfl)
 ·refine jY (by kernel_rfl) (jY (by kernel_rfl) (J8 (Ye (A1:=[c,.lst [.int 8,.int 7,.int 6,.int 5,.int 4,.int 3,.int 2,.int 1]]) (by kernel_rfl) ?_)))
  rcases Uw l with rfl|rfl|rfl|rfl|rfl|rfl|rfl|rfl<;>cases f
  ·exact jw 11 (by decide) s2 (by kernel_rfl)
  ·exact jw 12 (by decide) s2 (by kernel_rfl)
  ·exact jw 13 (by decide) s2 (by kernel_rfl)
  ·exact jw 14 (by decide) s2 (by kernel_rfl)
  ·exact jw 15 (by decide) s2 (by kernel_rfl)
  ·exact jw 16 (by decide) s2 (by kernel_rfl)
  ·exact jw 17 (by decide) s2 (by kernel_rfl)
  ·exact jw 18 (by decide) s2 (by kernel_rfl)
 ·refine jY (by kernel_rfl) (jY (by kernel_rfl) (jY (by kernel_rfl) (J8 (Ye (A1:=[c,.lst [.int 8,.int 7,.int 6,.int 5,.int 4,.int 3,.int 2,.int 1]]) (by kernel_rfl) ?_))))
  obtain⟨J,g,i,e,b,H,s3⟩:=JN (k:=5) (ρ:=[some (.ref 0),some (.int ((3:Nat):Int)),some w,none,none,none,none,none,none,none,none]) (a:=zc (zE (zc qy (zc wJ zj))) (zc (zE (zc wJ (zc qy zj))) (zc (zE (zc qy (zc ju zj))) (zc (zE (zc ju (zc qy zj))) (zc (zE (zc qy (zc qy zj))) zj))))) (vs:=[.tup [.int 2,.int 4],.tup [.int 4,.int 2],.tup [.int 2,.int 3],.tup [.int 3,.int 2],.tup [.int 2,.int 2]]) s2 rfl (λ_=>rfl) rfl (by decide) (by decide)
  have asg:∀{m:Ev}{tw:Tg}{ρ d:En}{A A1:Hx}{w:W},m ρ A=.ok w A1->tw w ρ=some d->QG m tw ρ A=.ok (.nx d) A1:=λh h'=>by
   unfold QG;rw[h,zO,h']
  rcases UT b with rfl|rfl|rfl|rfl|rfl<;>cases H
  ·exact gj (asg e rfl) (jw 19 (by decide) s3 (by kernel_rfl))
  ·exact gj (asg e rfl) (jw 20 (by decide) s3 (by kernel_rfl))
  ·exact gj (asg e rfl) (jw 21 (by decide) s3 (by kernel_rfl))
  ·exact gj (asg e rfl) (jw 22 (by decide) s3 (by kernel_rfl))
  ·exact gj (asg e rfl) (jw 23 (by decide) s3 (by kernel_rfl))
 ·exact jY (by kernel_rfl) (jY (by kernel_rfl) (jY (by kernel_rfl) (jY (by kernel_rfl) (J8 (Ye (A1:=[c,.lst [.int 8,.int 7,.int 6,.int 5,.int 4,.int 3,.int 2,.int 1]]) (by kernel_rfl) (jw 24 (by decide) s2 (by kernel_rfl)))))))
 ·refine jY (by kernel_rfl) (jY (by kernel_rfl) (jY (by kernel_rfl) (jY (by kernel_rfl) (jY (by kernel_rfl) (J8 (Ye (A1:=[c,.lst [.int 8,.int 7,.int 6,.int 5,.int 4,.int 3,.int 2,.int 1]]) (by kernel_rfl) ?_))))))
  obtain⟨J,g,i,e,b,H,s3⟩:=JN (k:=3) (ρ:=[some (.ref 0),some (.int ((5:Nat):Int)),some w,none,none,none,none,none,none,none,none]) (a:=zc wJ (zc yS (zc qy zj))) (vs:=[.int 4,.int 8,.int 2]) s2 rfl (λ_=>rfl) rfl (by decide) (by decide)
  refine gj ((qO e).trans rfl) ?_;rcases three b with rfl|rfl|rfl<;>cases H
  ·exact jw 25 (by decide) s3 (by kernel_rfl)
  ·exact jw 26 (by decide) s3 (by kernel_rfl)
  ·exact jw 27 (by decide) s3 (by kernel_rfl)
 ·refine jY (by kernel_rfl) (jY (by kernel_rfl) (jY (by kernel_rfl) (jY (by kernel_rfl) (jY (by kernel_rfl) (jY (by kernel_rfl) ?_)))))
  obtain⟨J,g,i,e,b,H,s3⟩:=JN (k:=3) (ρ:=[some (.ref 0),some (.int ((6:Nat):Int)),some w,none,none,none,none,none,none,none,none]) (a:=zc wJ (zc ju (zc qy zj))) (vs:=[.int 4,.int 3,.int 2]) s2 rfl (λ_=>rfl) rfl (by decide) (by decide)
  refine gj ((qO e).trans rfl) ?_;rcases three b with rfl|rfl|rfl<;>cases H
  ·exact jw 28 (by decide) s3 (by kernel_rfl)
  ·exact jw 29 (by decide) s3 (by kernel_rfl)
  ·exact jw 30 (by decide) s3 (by kernel_rfl)
 ·refine jY (by kernel_rfl) (jY (by kernel_rfl) (jY (by kernel_rfl) (jY (by kernel_rfl) (jY (by kernel_rfl) (jY (by kernel_rfl) ?_)))))
  obtain⟨J,g,i,e,b,H,s3⟩:=JN (k:=3) (ρ:=[some (.ref 0),some (.int ((7:Nat):Int)),some w,none,none,none,none,none,none,none,none]) (a:=zc wJ (zc ju (zc qy zj))) (vs:=[.int 4,.int 3,.int 2]) s2 rfl (λ_=>rfl) rfl (by decide) (by decide)
  refine gj ((qO e).trans rfl) ?_;rcases three b with rfl|rfl|rfl<;>cases H
  ·exact jw 31 (by decide) s3 (by kernel_rfl)
  ·exact jw 32 (by decide) s3 (by kernel_rfl)
  ·exact jw 33 (by decide) s3 (by kernel_rfl)
def CI (s:qZ 0 [o]):∃i,i<34/\∃r B,Wg [.ref 0] [o]=.ok (.ref r) B/\qZ 0 B/\LL (kT i) r B:=by
 obtain⟨i,h,r,B,e,q⟩:=CQ s;refine⟨i,h,r,B,?_,q⟩;unfold Wg XC;exact q9 e
noncomputable def Tb (g:Nat->W):W->W
 |.int v=>g v.toNat|w=>w
def OY (g:Nat->W)(o:b9):((o.map λ(a:Nat)=>(a:Int)).map W.int).map (Tb g)=o.map g:=by
 rw[aO,aO]
 apply ba
 intro a _;show g (Int.toNat (a:Int))=g a;rw[aI]
def PQ {fd:bX}{M:Nat}{s:Int}(h:fd.Perm ((List.range M).map λ(k:Nat)=>s+(k:Int))):∃p:b9,fd=p.map (λ(k:Nat)=>s+(k:Int))/\p.Perm (List.range M):=by
 refine⟨fd.map λv=>(v-s).toNat,?_,?_⟩
 ·rw[aO]
  conv=>lhs;rw[<- map_id fd]
  apply ba
  intro v H;obtain⟨k,_,rfl⟩:=cD.mp (h.mem_iff.mp H);show s+(k:Int)=s+(((s+(k:Int)-s).toNat:Nat):Int);omega
 ·have:=h.map λv=>(v-s).toNat
  rw[aO]at this;have e:(List.range M).map ((λv:Int=>(v-s).toNat) ∘ λ(k:Nat)=>s+(k:Int))=List.range M:=by
   conv=>rhs;rw[<- map_id (List.range M)]
   apply ba
   intro k _;show(s+(k:Int)-s).toNat=k;omega
  rw[e]at this;exact this
section
def Vx (h:qu t)(a:ρ[i]? =some (some (zq t))):mQ yh (zM 1 [] (qd (qi i)) (zC 0) zS (zK (mQ yh (qg zm)))) ρ A=.ok (.int (qH t-1)) A:=by
 have n8:=h.n8;have e:=DB (cap:=[]) (A:=A) (ρ:=ρ) (o:=t) (f:=zT) (m:=qi i) (me:=mQ yh (qg zm)) (G:=λr=>.int (kQ r)) (zu a) (by unfold qa;omega) (λr H=>(yF (kF (w:=zT r) (ws:=r.map W.int) (A1:=A) (zu rfl) rfl)).trans (VE (h.row_ne H)))
 have em:(t.map λr=>W.int (kQ r))=(t.map kQ).map W.int:=by rw[aO];rfl
 rw[em]at e;refine((yF e).trans (VE h.map_ne)).trans ?_
 have:qH t-1=kQ (t.map kQ):=by unfold qH;omega
 rw[this]
def Ep {ma mb:Ev}{M:Nat}(H:ma ρ A=.ok (.int 1) A)(h:mb ρ A=.ok (.int (1+(M:Int))) A)(a:M<=100):Y8 ma mb ρ A=.ok (.ref A.length) (A++[.lst (((List.range M).map λ(k:Nat)=>1+(k:Int)).map W.int)]):=by
 unfold Y8;rw[H,zO,h,zO];dsimp only;have e:(1+(M:Int)-1).toNat=M:=by omega
 rw[ag (by
  have s1:jI 1=true:=by decide
  have s2:jI (1+(M:Int))=true:=by unfold jI;simp;omega
  rw[s1,s2,e,aB (by unfold qa;omega)];rfl),e,aO]
 rfl
def Known (t:bV):Prop:=∃i p o,i<34/\p.Perm (List.range (qH (yK (kT i))-1).toNat)/\o.Perm (List.range (yK (kT i)).length)/\t=QC (yK (kT i)) p o
def Ao (s:qZ 0 [o]):∃t B,Wk [.ref 0] [o]=.ok (zq t) B/\qZ 0 B/\qu t/\Known t:=by
 obtain⟨i,hi,r,B0,e0,s0,X⟩:=CI s;obtain⟨tt,sq,n⟩:=Ap hi;have hlen:(yK (kT i)).length=(kT i).length:=by unfold yK;rw[ai]
 have m1:=tt.n1;have m8:=tt.n8;obtain⟨B1,e1,x1⟩:=Oy (by omega) (by omega) sq n X
 have s1:=s0.ext x1;generalize J:yK (kT i)=u at*;clear hlen X;have n1:=tt.n1;have n8:=tt.n8;have kb:=wB tt;obtain⟨M,hM⟩:=aZ (show 0<=qH u-1 by omega)
 have el:=NL (ws:=u.map zT) (ρ:=[some (.ref 0),some (zq u),none,none]) (i:=1) (A:=B1) rfl;rw[ai]at el;have e2:=EV el (by omega)
 have Q:iL (List.range u.length)=((List.range u.length).map λ(a:Nat)=>0+(a:Int)).map W.int:=by
  rw[aO]
  apply ba
  intro a _;show W.int (a:Int)=W.int (0+(a:Int));rw[Int.zero_add]
 rw[Q]at e2;have s2:=s1.ext (Ext.one (o:=.lst (((List.range u.length).map λ(a:Nat)=>0+(a:Int)).map W.int)));obtain⟨h,f,fd,e3,T,p2,k2,N⟩:=Oz s2 jx (by simp;omega)
 obtain⟨d,rfl,po⟩:=PQ p2;have K:(d.map λ(k:Nat)=>(0:Int)+(k:Int))=d.map λ(k:Nat)=>(k:Int):=ba λa _=>by omega
 rw[K]at T;have U:zH JG (zc zm (zc (Y9 (mQ qE (qg zw))) zj)) [some (.ref 0),some (zq u),none,none] B1=.ok (.ref h) f:=(qL (qj (zu (i:=0) rfl) (qj e2 qI))).trans e3;have Z:0<h:=by have:=s1.lt;simp at N;omega
 have e4:qb (zc zL zj) [some (.ref 0),some (zq u),some (.ref h),none] f=.ok (.ref f.length) (f++[.lst [.int 0]]):=yq (qj jb qI);have s3:=k2.st.ext (Ext.one (o:=.lst [.int 0]));have z:=ye (u:=.lst [.int 0]) T;have Y:(f++[.lst [.int 0]])[f.length]? =some (.lst [.int 0]):=jx;have h2l:=wQ T;have hB2:0<f.length:=by omega
 generalize f++[.lst [.int 0]]=B3 at e4 s3 z Y;have C:=Vx tt (ρ:=[some (.ref 0),some (zq u),some (.ref h),none]) (i:=1) (A:=B3) rfl;rw[hM]at C;have e5:=Ep (ρ:=[some (.ref 0),some (zq u),some (.ref h),none]) (A:=B3) (M:=M) (ma:=qc (.int 1)) (mb:=zi qB zV (mQ yh (zM 1 [] (qd zw) (zC 0) zS (zK (mQ yh (qg zm)))))) jb ((zR jb C).trans rfl) (by omega)
 have s4:=s3.ext (Ext.one (o:=.lst (((List.range M).map λ(k:Nat)=>1+(k:Int)).map W.int)));obtain⟨r3,B4,fd3,e6,h3,p3,k3,nw3⟩:=Oz s4 jx (by simp;omega)
 obtain⟨P,rfl,pp⟩:=PQ p3;have y:=k3.kp.get (ye z) (by omega)
 have I:=k3.kp.get (ye Y) (by omega)
 have E:zi qB (qb (zc zL zj)) (zH JG (zc zm (zc (Y8 zV (zi qB zV (mQ yh (zM 1 [] (qd zw) (zC 0) zS (zK (mQ yh (qg zm))))))) zj))) [some (.ref 0),some (zq u),some (.ref h),none] f=.ok (.ref B4.length) (B4++[.lst ((ym P).map W.int)]):=by
  refine(zR e4 ((qL (qj (zu (i:=0) rfl) (qj e5 qI))).trans e6)).trans ((Vi I h3 ?_).trans rfl)
  have:=pp.length_eq
  rw[aY]at this;rw[ai,ai,this];unfold qa;simp;omega
 have S:=ye (u:=.lst ((ym P).map W.int)) y;have h6:(B4++[.lst ((ym P).map W.int)])[B4.length]? =some (.lst ((ym P).map W.int)):=jx;have s5:=k3.st.ext (Ext.one (o:=.lst ((ym P).map W.int)));generalize hB5:B4++[.lst ((ym P).map W.int)]=c at E S h6 s5;have hol:d.length=u.length:=by rw[po.length_eq,aY]
 have j:∀a∈d,a<u.length:=λa q=>cC.mp (po.mem_iff.mp q);have hpl:P.length=M:=by rw[pp.length_eq,aY]
 have x:(qH u-1).toNat=M:=by omega
 have res:=FH tt (p:=P) (o:=d) (by rw[x];exact pp) po
 refine⟨QC u P d,c,?_,s5,res.1,i,P,d,hi,by rw[J,x];exact pp,by rw[J];exact po,by rw[J]⟩
 unfold Wk;refine q9 ?_;unfold SY;refine(zJ ((qO ((qL (qj ((qL (qj (zu (i:=0) rfl) qI)).trans e0) qI)).trans e1)).trans rfl)).trans ((zJ ((qO U).trans rfl)).trans ((zJ ((qO E).trans rfl)).trans (qF (ji ?_))));have inner:∀a,a∈d->∀b,b∈d->zi zD zQ (zi zD (zi zD zW zw) zm) [some (.int (b:Int)),some (.int (a:Int)),some (zq u),some (.ref B4.length)] c=.ok (.int ((ym P).getD (at2 u a b).toNat 0)) c:=λa q b n=>by
  have L:=j a q;have D:=j b n;have bd:=Uv tt L D;have kg:=Gf tt L D;obtain⟨v,H⟩:=aZ bd.1;have e:zi zD (zi zD zW zw) zm [some (.int (b:Int)),some (.int (a:Int)),some (zq u),some (.ref B4.length)] c=.ok (.int (v:Int)) c:=by
   rw[<- H];exact(zR ((zR (zu rfl) (zu rfl)).trans (Q5 L)) (zu rfl)).trans (Kh (by rw[tt.sq _ (yz L)];exact D))
  have l:v<(ym P).length:=by
   show v<(P.map _).length+1;rw[ai];omega
  refine(zR (zu (i:=3) rfl) e).trans (wR h6 ?_);rw[H,aI,ao,aa l,ae,aa l]
  rfl
 have ec:=YX (cap:=[1,2,3]) (m:=qi 2) (me:=mQ jm (zM 1 [0,1,3] (qd zW) (zC 0) zS (zK (zi zD zQ (zi zD (zi zD zW zw) zm))))) (ρ:=[some (.ref 0),some (zq u),some (.ref h),some (.ref B4.length)]) (A:=c) (g:=Tb λa=>zT (d.map λb=>(ym P).getD (at2 u a b).toNat 0)) (zu rfl) S (by simp;unfold qa;omega) (λw hw=>by
  obtain⟨v,H,rfl⟩:=cD.mp hw;obtain⟨a,q,rfl⟩:=cD.mp H;have ei:=YX (cap:=[0,1,3]) (m:=qi 2) (me:=zi zD zQ (zi zD (zi zD zW zw) zm)) (ρ:=[some (.int (a:Int)),some (zq u),some (.ref h),some (.ref B4.length)]) (A:=c) (g:=Tb λb=>.int ((ym P).getD (at2 u a b).toNat 0)) (zu rfl) S (by simp;unfold qa;omega) (λw hw=>by
   obtain⟨v,H,rfl⟩:=cD.mp hw;obtain⟨b,n,rfl⟩:=cD.mp H;refine(inner a q b n).trans ?_;show _=R.ok (W.int ((ym P).getD (at2 u a (Int.toNat (b:Int))).toNat 0)) c;rw[aI])
  rw[OY]at ei;refine(Zi ei).trans ?_;show _=R.ok (zT (d.map λb=>(ym P).getD (at2 u (Int.toNat (a:Int)) b).toNat 0)) c;rw[aI];unfold zT;rw[aO]
  rfl)
 rw[OY]at ec;refine(Zi ec).trans ?_;unfold zq QC;rw[aO]
 rfl
def Bj (s:qZ n A):∃t B,JI [.ref n] A=.ok (zq t) B/\qu t/\Known t/\Kn n A B/\B.length=A.length:=by
 obtain⟨c,b,a,f,g⟩:=s;have hm:=wQ a;obtain⟨t,A1,e,⟨C,d,E,h,H⟩,T,kn⟩:=Ao (o:=.lst [.int c,.bl b]) ⟨c,b,rfl,f,g⟩;refine⟨t,A.set n (.lst [.int C,.bl d]),?_,T,kn,⟨Kp.set,C,d,aJ hm,h,H⟩,bP ..⟩;unfold JI;exact Vp a rfl e E (JV t)
end
def FT {c:En}{j:jH}{N:Nat}{u v g:Nat->W}(t:∀i,i<N->j.at_ A i=some (some (.tup [u i,v i])))(H:j.at_ A N=some none)(he:∀i,i<N->me (some (u i)::some (v i)::c) A=.ok (g i) A):
  ∀(f i:Nat)(x y:Option W)(acc:List W),i+f=N->acc.length+f<=qa->∃ρ,jJ j (jo 0 1) (qc (.bl true)) (zK me) f i (x::y::c) acc A=.ok (ρ,acc++(List.range' i f).map g) A:=by
 intro f
 induction f with
 |zero=>
  intro i x y acc h l
  have:i=N:=by omega
  subst this;refine⟨x::y::c,?_⟩;unfold jJ;rw[H];simp
 |succ f I=>
  intro i x y acc h l;obtain⟨ρ,e⟩:=I (i+1) (some (u i)) (some (v i)) (acc++[g i]) (by omega) (by rw[ay,aU];omega)
  refine⟨ρ,?_⟩;rw[jJ,t i (by omega)]
  dsimp only;rw[show jo 0 1 (.tup [u i,v i]) (x::y::c)=some (some (u i)::some (v i)::c) from rfl]
  dsimp only[qc];rw[zO];dsimp only;have E:zK me (some (u i)::some (v i)::c) acc A=.ok (some (u i)::some (v i)::c,acc++[g i]) A:=by
   unfold zK;rw[he i (by omega),zO,ag (by omega)]
  rw[E,zO];rw[e,aN,bT,aL]
  rfl
def Hy {j:jH}{N:Nat}{u v g:Nat->W}(hm:mi ρ A=.ok j A)(b:j.len=N)(d:N<=1000)(H:∀i,i<N->j.at_ A i=some (some (.tup [u i,v i])))(h:j.at_ A N=some none)
  (he:∀i,i<N->me (some (u i)::some (v i)::cap.map λi=>(ρ[i]?).join) A=.ok (g i) A):zM 2 cap mi (jo 0 1) zS (zK me) ρ A=.ok ((List.range N).map g) A:=by
 obtain⟨a,e⟩:=FT (A:=A) (c:=cap.map λi=>(ρ[i]?).join) H h he N 0 none none [] (by omega) (by unfold qa;simp;omega)
 unfold zM;rw[hm,zO,b];show R.bind (R.nox (jJ j _ _ _ N 0 (none::none::cap.map λi=>(ρ[i]?).join) [] A)) _=_;rw[e,<- bJ,bp]
 rfl
def Qr {r:R α}{a:α}(h:r=.ok a A):r.nox=.ok a A:=by rw[h];rfl
def CC {m:Ex}{w:W}(h:m (ws.map some++List.replicate (n-ws.length) none) A=.ok (.rt w) A1):ZT n m ws A=.ok w A1:=by unfold ZT;rw[h];rfl
def Bf {m:Ex}(h:m (ws.map some++List.replicate (n-ws.length) none) A=.ok (.nx ρ) A1):ZT n m ws A=.ok .non A1:=by unfold ZT;rw[h];rfl
def YQ {m1 m2:Ex}(h:m1 ρ A=.exc x A1):zo m1 m2 ρ A=.exc x A1:=by unfold zo;rw[h,Pj]
def BR {m:Ev}(h:m ρ A=.exc x A1):yw m ρ A=.exc x A1:=by unfold yw;rw[h,Pj]
def X9 {m:Ex}(h:m (ws.map some++List.replicate (n-ws.length) none) A=.exc x A1):ZT n m ws A=.exc x A1:=by unfold ZT;rw[h];rfl
def Cq {m M:Ev}{us vs:List W}(h:m ρ A=.ok (.tup us) A)(h':M ρ A=.ok (.tup vs) A):Ju m M ρ A=.ok (Jn (.tup us) (.tup vs) us.length) A:=by
 unfold Ju;rw[h,zO,h',zO]
 rfl
def HZ {a:Ea}{xs ys:List W}{r:Nat}{u e:Option W}(H:A[r]? =some (.lst xs))(h:a [u,e,none,some (.ref r)] A=.ok ys A)(l:xs.length+ys.length<=100):
  zX 3 (zi qB zQ (qb a)) [u,e,none,some (.ref r)] A=.ok (.nx [u,e,none,some (.ref (A.length+1))]) (A++[.lst ys]++[.lst (xs++ys)]):=by
 refine(qO ((zR (zu (i:=3) rfl) (yq h)).trans (Vi (ye H) jx (by unfold qa;omega)))).trans ?_
 rw[ay,aU]
 rfl
def WM {a:Ea}{xs ys zs:List W}{L:Hx}{u e:Option W}(c:L[j]? =some (.lst xs))(b:∀m A,a [u,e,none,m] A=.ok ys A)(H:xs.length+ys.length<=100)(h:xs++ys=zs):
  zX 3 (zi qB zQ (qb a)) [u,e,none,some (.ref (A.length+j))] (A++L)=.ok (.nx [u,e,none,some (.ref (A.length+(L.length+1)))]) (A++(L++[.lst ys,.lst zs])):=by
 have d:(A++L)[A.length+j]? =some (.lst xs):=by rw[aq (by omega),show A.length+j-A.length=j by omega];exact c
 rw[HZ d (b _ _) H,h,ay,aN,aN,Nat.add_assoc]
 rfl
noncomputable def ql (i a n:Nat):List W:=(List.range' a n).map λk=>W.bl (decide (k=i))
section
def Hs (h:n<1000000):jI (n:Int)=true:=by
 unfold jI;rw[aw,ak,ak];omega
end
section
def gc (a:A[0]? =some (.ro (ns.map W.int)))(k:Nat):∃x:Int,K8 [.ref 0,.int k] A=.ok (.int x) A:=by
 have H:zP (.ref 0) A=some (ns.map W.int):=by unfold zP;dsimp only;rw[a]
 have l:mQ qE (qg zm) [some (.ref 0),some (.int k)] A=.ok (.int ns.length) A:=by
  rw[yF (kF (w:=.ref 0) (A1:=A) (zu rfl) H)];unfold qE;rw[ai]
 have e:zi Jz zw (mQ qE (qg zm)) [some (.ref 0),some (.int k)] A=.ok (.bl (decide ((k:Int)<ns.length))) A:=(zR (zu (w:=.int k) rfl) l).trans rfl
 by_cases h:k<ns.length
 ·refine⟨ns[k],q9 ?_⟩
  unfold Xt;rw[aB (by omega)]at e
  refine qF ((wF e).trans (qF (ji ?_)));refine(zR (x:=.ref 0) (y:=.int k) (A1:=A) (A2:=A) (zu rfl) (zu rfl)).trans ?_;unfold zD;rw[H];dsimp only;rw[W2 (v:=.int ns[k]) (by rw[ao,aa h];rfl)]
 ·refine⟨0,q9 ?_⟩
  unfold Xt;rw[aC (by omega)]at e
  exact(zJ ((yL e).trans rfl)).trans rfl
def BC (H:A[0]? =some (.ro (ns.map W.int)))(k:Nat):∃o,JH [.ref 0,.int k] A=.ok (.ref A.length) (A++[o])/\qZ A.length (A++[o]):=by
 obtain⟨x,e⟩:=gc H k;have a:zX 2 (zH K8 (zc zm (zc zw zj))) [some (.ref 0),some (.int k),none] A=.ok (.nx [some (.ref 0),some (.int k),some (.int x)]) A:=by
  refine(qO (w:=.int x) (A1:=A) ?_).trans rfl;rw[qL (ws:=[.ref 0,.int k]) (A1:=A) rfl];exact e
 have E:zi U6 zW (zi GC UL (qc (.int 18))) [some (.ref 0),some (.int k),some (.int x)] A=.ok (.bl (decide ((1000000000000000000:Int)<=x))) A:=(zR (x:=.int x) (y:=.int 1000000000000000000) (A1:=A) (A2:=A) (zu rfl) rfl).trans rfl
 by_cases h:(1000000000000000000:Int)<=x
 ·refine⟨.lst [.int (x-1000000000000000000),.bl true],q9 ?_,x-1000000000000000000,true,jx,by omega,λz=>nomatch z⟩
  unfold XB;rw[aB h]at E;refine(zJ a).trans (qF ((wF E).trans (qF (ji (yq ?_)))))
  rfl
 ·refine⟨.lst [.int (x%2147483647),.bl false],q9 ?_,x%2147483647,false,jx,emod_nonneg _ (by decide),λ_=>bN _ (by decide)⟩
  unfold XB;rw[aC h]at E;refine(zJ a).trans ((zJ ((yL E).trans rfl)).trans (qF (ji (yq ?_))));refine qj (A1:=A) (A2:=A) ((zR (x:=.int x) (y:=.int 2147483647) (A1:=A) (A2:=A) (zu rfl) rfl).trans (Q7 (by decide))) rfl
end
def GX (i:Nat):Hx:=[.lst (ql i 0 3),.lst (ql i 3 3),.lst (ql i 0 6),.lst (ql i 6 3),.lst (ql i 0 9),.lst (ql i 9 3),.lst (ql i 0 12),.lst (ql i 12 3),.lst (ql i 0 15),.lst [.int i]]
noncomputable def gD (x:Str):Option Nat:=if x = "NoTable" then some 0 else if x = "TooMany" then some 11 else none
def Rm (h:gD x=some i):(x = "NoTable" /\ i=0)∨(x = "TooMany" /\ i=11):=by
 unfold gD at h
 by_cases h0:x = "NoTable"
 ·rw[ag h0]at h;cases h;exact .inl ⟨h0,rfl⟩
 ·rw[aj h0]at h
  by_cases h1:x = "TooMany"
  ·rw[ag h1]at h;cases h;exact .inr (⟨h1,rfl⟩)
  ·rw[aj h1]at h;cases h
def Dy (a:gD x=some i)(u:W)(A:Hx):Xl [some u,some (.xc x),none,none] A=.ok (.rt (.ref (A.length+9))) (A++GX i):=by
 have two:=Rm a;unfold Xl;have a0:∀(m:Option W)(A:Hx),(zc (jf (jv qV "NoTable") zw) (zc (jf (jv qV "NotSteady") zw) (zc (jf (jv qV "NoPlace") zw) zj))) [some u,some (.xc x),none,m] A=.ok (ql i 0 3) A:=λm A=>by
  rcases two with ⟨rfl,rfl⟩|⟨rfl,rfl⟩<;>kernel_rfl
 have a1:∀(m:Option W)(A:Hx),(zc (jf (jv qV "NoKind") zw) (zc (jf (jv qV "NoMix") zw) (zc (jf (jv qV "NoNumber") zw) zj))) [some u,some (.xc x),none,m] A=.ok (ql i 3 3) A:=λm A=>by
  rcases two with ⟨rfl,rfl⟩|⟨rfl,rfl⟩<;>kernel_rfl
 have a2:∀(m:Option W)(A:Hx),(zc (jf (jv qV "NoLot") zw) (zc (jf (jv qV "NoKinds") zw) (zc (jf (jv qV "NoPaper") zw) zj))) [some u,some (.xc x),none,m] A=.ok (ql i 6 3) A:=λm A=>by
  rcases two with ⟨rfl,rfl⟩|⟨rfl,rfl⟩<;>kernel_rfl
 have c:∀(m:Option W)(A:Hx),(zc (jf (jv qV "NoParting") zw) (zc (jf (jv qV "NoClosed") zw) (zc (jf (jv qV "TooMany") zw) zj))) [some u,some (.xc x),none,m] A=.ok (ql i 9 3) A:=λm A=>by
  rcases two with ⟨rfl,rfl⟩|⟨rfl,rfl⟩<;>kernel_rfl
 have b:∀(m:Option W)(A:Hx),(zc (jf (jv qV "NoText") zw) (zc (jf (jv qV "NoLine") zw) (zc (jf (jv qV "NoDeed") zw) zj))) [some u,some (.xc x),none,m] A=.ok (ql i 12 3) A:=λm A=>by
  rcases two with ⟨rfl,rfl⟩|⟨rfl,rfl⟩<;>kernel_rfl
 have ap:∀n,ql i 0 n++ql i n 3=ql i 0 (n+3):=λn=>by
  unfold ql;rw[<- aX]
  congr 1
  have:=List.range'_append_1 (s:=0) (m:=n) (n:=3)
  rw[zero_add]at this;exact this
 have E:zX 3 (qb (zc (jf (jv qV "NoTable") zw) (zc (jf (jv qV "NotSteady") zw) (zc (jf (jv qV "NoPlace") zw) zj)))) [some u,some (.xc x),none,none] A=.ok (.nx [some u,some (.xc x),none,some (.ref (A.length+0))]) (A++[.lst (ql i 0 3)]):=(qO (yq (a0 _ A))).trans rfl;refine(zJ E).trans ?_;refine(zJ (WM (A:=A) (L:=[.lst (ql i 0 3)]) (j:=0) (xs:=ql i 0 3) (ys:=ql i 3 3) (zs:=ql i 0 6) rfl a1 (by simp[ql]) (ap 3))).trans ?_
 refine(zJ (WM (A:=A) (L:=[.lst (ql i 0 3),.lst (ql i 3 3),.lst (ql i 0 6)]) (j:=2) (xs:=ql i 0 6) (ys:=ql i 6 3) (zs:=ql i 0 9) rfl a2 (by simp[ql]) (ap 6))).trans ?_
 refine(zJ (WM (A:=A) (L:=[.lst (ql i 0 3),.lst (ql i 3 3),.lst (ql i 0 6),.lst (ql i 6 3),.lst (ql i 0 9)]) (j:=4) (xs:=ql i 0 9) (ys:=ql i 9 3) (zs:=ql i 0 12) rfl c (by simp[ql]) (ap 9))).trans ?_
 refine(zJ (WM (A:=A) (L:=[.lst (ql i 0 3),.lst (ql i 3 3),.lst (ql i 0 6),.lst (ql i 6 3),.lst (ql i 0 9),.lst (ql i 9 3),.lst (ql i 0 12)]) (j:=6) (xs:=ql i 0 12) (ys:=ql i 12 3) (zs:=ql i 0 15) rfl b (by simp[ql]) (ap 12))).trans ?_
 generalize H:A++([.lst (ql i 0 3),.lst (ql i 3 3),.lst (ql i 0 6),.lst (ql i 6 3),.lst (ql i 0 9),.lst (ql i 9 3),.lst (ql i 0 12)]++[.lst (ql i 12 3),.lst (ql i 0 15)])=B;have l:B.length=A.length+9:=by rw[<- H];simp
 have hm:B[A.length+8]? =some (.lst (ql i 0 15)):=by rw[<- H,aq (by omega),show A.length+8-A.length=8 by omega];rfl
 refine(zJ (ρ1:=[some u,some (.xc x),none,some (.ref (A.length+8))]) (A1:=B) ((yL (A1:=B) (Qn (k:=true) ?_)).trans rfl)).trans (qF (ji ?_))
 ·rcases two with ⟨rfl,rfl⟩|⟨rfl,rfl⟩<;>kernel_rfl
 have e:=RB (cap:=[3]) (mi:=qJ (qc (.int 15))) (j:=j8 0 15) (ifs:=zi zD zw zm) (me:=qi 0) (ρ:=[some u,some (.xc x),none,some (.ref (A.length+8))]) (A:=B) (N:=15) (item:=λk=>.int (0+(k:Int))) (g:=λk=>.int (0+(k:Int))) (keep:=λk=>decide (k=i)) rfl rfl (by unfold qa;omega) (λk h=>wA h) (wy (by omega))
  (λk h=>by
   refine(zR (zu (i:=1) (w:=.ref (A.length+8)) rfl) (zu (i:=0) (w:=.int (0+(k:Int))) rfl)).trans ?_;rw[Int.zero_add];refine wR hm ?_;unfold ql;rw[ao,List.getElem?_range' (by omega)]
   simp) (λk h _=>rfl)
 rw[gC e,l];have hf:((List.range 15).filter λk=>decide (k=i)).map (λk:Nat=>W.int (0+(k:Int)))=[.int i]:=by
  rcases two with ⟨rfl,rfl⟩|⟨rfl,rfl⟩<;>rfl
 rw[hf,<- H,aN]
 rfl
def gg (h:gD x=some i):qV.contains x=true:=by
 rcases Rm h with ⟨rfl,_⟩|⟨rfl,_⟩<;>decide +kernel
abbrev LS:List Lm:=gG kO
def RF (k:Nat)(ws:List W)(A:Hx):R W:=match kx LS k ws A with
 |.exc x A1=>(match gD x with
  |some i=>.ok (.ref (A1.length+9)) (A1++GX i)|none=>.bad)
 |_=>.bad
def BN {PG:jP}{k:Nat}(H:kx LS k ws A=.exc x A1)(h:gD x=some i):
  qU 4 (YD PG (kx LS)) [.clo k ws (PG k)] A=.ok (.ref (A1.length+9)) (A1++GX i):=by
 have E:GL 0 PG (kx LS) [some (.clo k ws (PG k)),some .non,none,none] A=.exc x A1:=by
  unfold GL;refine(ag rfl).trans H
 have e:KC 0 1 2 qV PG (kx LS) [some (.clo k ws (PG k)),some .non,none,none] A=.ok (.nx [some (.clo k ws (PG k)),some (.xc x),none,none]) A1:=by
  unfold KC;rw[E];dsimp only;rw[ag (gg h)]
  rfl
 refine q9 ?_;unfold YD;refine(zJ (ρ1:=[some (.clo k ws (PG k)),some .non,none,none]) (A1:=A) rfl).trans ?_;exact(zJ e).trans (Dy h _ A1)
def NP {k:Nat}(H:kx LS k ws A=.exc x A1)(h:gD x=some i):RF k ws A=.ok (.ref (A1.length+9)) (A1++GX i):=by
 unfold RF;rw[H];dsimp only;rw[h]
def A9 {PG:jP}(us:List W)(A:Hx):QI PG RF us A=.bad∨qU 4 (YD PG (kx LS)) us A=QI PG RF us A:=by
 by_cases H:QI PG RF us A=.bad
 ·exact .inl H
 right
 unfold QI at H ⊢
 split
 ·rename_i k ws P
  dsimp only at H
  by_cases a:P=PG k
  ·subst a
   rw[ag rfl]at H ⊢;cases e:kx LS k ws A with
   |exc x A1=>
    cases hm:gD x with
    |none=>exfalso;apply H;unfold RF;rw[e];dsimp only;rw[hm]|some i=>rw[BN e hm,NP e hm]
   |ok w A1=>exfalso;apply H;unfold RF;rw[e]|bad=>exfalso;apply H;unfold RF;rw[e]
  ·rw[aj a]at H;exact absurd rfl H
 ·rename_i h
  exfalso
  apply H
  split
  ·rename_i k ws P
   exact(h k ws P rfl).elim
  ·rfl
section
def OM {k:Nat}{t:Lm}(h:ls[k]? =some t):kx ls k ws A=t.m (ws.map some) A:=by unfold kx;rw[h]
end
def Im:gD "NoTable"=some 0:=by decide +kernel
def Iu:gD "TooMany"=some 11:=by decide +kernel
section
variable {k g:Nat}{t:Lm}{PF:jP}
def Bi (h:A[1]? =some (.tab j0 Pt))(k:Nat):gJ 1 j0 Pt k (PF k) ρ A=.ok (.clo k [] (PF k)) A:=by
 unfold gJ;rw[h];dsimp only;rw[ag ⟨rfl,rfl⟩]
def RD (d:A[1]? =some (.tab j0 Pt))(H:LS[k]? =some t)(c:Z0 t.idx ρ=some ws)(a:kx LS k ws A=.exc x A)(h:gD x=some g):∃B,zi jz (Qs LS PF (Qx RF) (zc (gJ 1 j0 Pt k (PF k)) zj)) (qb (zc (qc (.int (g:Int))) zj)) ρ A=.ok (.bl false) B/\Ext A B:=by
 have e:Qs LS PF (Qx RF) (zc (gJ 1 j0 Pt k (PF k)) zj) ρ A=.ok (.ref (A.length+9)) (A++GX g):=by
  unfold Qs;rw[qj (Bi d k) qI,zO]
  have:Zj LS PF ρ [.clo k [] (PF k)]=some [.clo k ws (PF k)]:=by
   unfold Zj Kx;dsimp only;rw[ag rfl,H];dsimp only;rw[c]
   rfl
  rw[this];exact NP a h
 have x1:Ext A (A++GX g):=⟨_,rfl⟩;have b:(A++GX g)[A.length+9]? =some (.lst [.int (g:Int)]):=by rw[aq (by omega),show A.length+9-A.length=9 by omega];rfl
 refine⟨A++GX g++[.lst [.int (g:Int)]],(zR e (yq (qj jb qI))).trans ((Yr (l:=[(g:Int)]) (m:=[(g:Int)]) (ye b) jx).trans ?_),x1.app⟩;rw[aB rfl]<;>rfl
end
section
variable {w:W}
def B9 (h:qu t)(A:Hx):g7 [zq t] A=.ok (.bl true) A:=By h A
def BX (h:w6 A w):g7 [w] A=.ok (.bl false) A:=h A λ_ _ z=>z
def RI (h:qu t)(A:Hx):Yy [zq t] A=.ok .non A:=by
 refine Bf (ρ:=[some (zq t)]) ?_;unfold Xn;refine(zJ (ρ1:=[some (zq t)]) (A1:=A) ((yL (A1:=A) ?_).trans rfl)).trans rfl;exact Qr (Qn (k:=true) ((qL (ws:=[zq t]) (A1:=A) rfl).trans (B9 h A)))
def Ez (h:w6 A w):Yy [w] A=.exc "NoTable" A:=by
 refine X9 ?_;unfold Xn;exact YQ ((wF (A1:=A) (Qr (Qn (k:=false) ((qL (ws:=[w]) (A1:=A) rfl).trans (BX h))))).trans (YQ rfl))
variable {a b:Nat}
def gp {a b:Ev}{p q:Bool}(h:a ρ A=.ok (.bl p) A)(H:b ρ A=.ok (.bl q) A):ku a b ρ A=.ok (.bl (p&&q)) A:=by
 cases p with
 |true=>exact(Q9 h).trans H|false=>exact Gm h
def Vz (h:qu t)(A:Hx):Wa [zq t] A=.ok (.int (qH t)) A:=by
 refine ZO (A1:=[]) (gX t) rfl (q9 ?_);unfold Sv;refine qF (ji ((zR (Vx h rfl) jb).trans ?_));show R.ok (W.int (qH t-1+1)) []=_
 congr 2
 omega
def YT (h:qu t)(A:Hx):kX [zq t] A=.ok (.int (qH t)) A:=by
 refine ZO (A1:=[]) (gX t) rfl (q9 ?_);unfold S7;refine qF (ji ((zR jb (Vx h rfl)).trans ?_));show R.ok (W.int (1+(qH t-1))) []=_
 congr 2
 omega
def len_tab (h:ρ[i]? =some (some (zq t))):mQ qE (qg (qi i)) ρ A=.ok (.int (t.length:Int)) A:=by
 have:=NL (ws:=t.map zT) (A:=A) h
 rw[ai]at this;exact this
variable {N:Nat}
def Oo {g:Nat->Int}{k:Int}(h:b<N):((List.range N).map λj=>W.int (g j)).set b (.int k)=(List.range N).map λj=>W.int (if j=b then k else g j):=by
 apply ext_getElem?
 intro i
 by_cases hi:i<N
 ·by_cases q:b=i
  ·subst q
   rw[aJ (by simpa using hi),ao,aT hi]
   simp
  ·rw[aH q,ao,ao,aT hi]
   simp[Ne.symm q]
 ·rw[aE (by simp;omega),aE (by simp;omega)]
variable {f:Fn}
def FY (v:Int)(A:Hx):qU 2 (ZG f) [.int v,.int v] A=.ok (.bl true) A:=by
 refine q9 ?_;unfold ZG;refine(zJ (ρ1:=[some (.int v),some (.int v)]) (A1:=A) ((yL (A1:=A) rfl).trans rfl)).trans (qF (ji ?_));exact(Q9 (A1:=A) ((zR (zu (i:=0) rfl) (zu (i:=1) rfl)).trans ((QM _ _ _).trans (by rw[aB rfl])))).trans rfl
end
structure LC (K:Nat)(μ:Nat->Nat->Int)(C:Hx):Prop where
 top:C[2 * K]? =some (.lst ((List.range K).map λi=>W.ref (2 * i+1)))
 row:∀i,i<K->C[2 * i+1]? =some (.lst ((List.range K).map λj=>W.int (μ i j)))
section
variable {K a b:Nat}{C:Hx}
def LC.put (h:LC K μ C)(f:i<K)(e:j<K)(k:Int):∃b,yu (.ref (2 * i+1)) (.int (j:Int)) (.int k) C=.ok () b/\LC K (wk μ i j k) b:=by
 have r:=h.row i f;have H:=wQ r;refine⟨_,Vs r (by simp;omega),?_,λc d=>?_⟩
 ·rw[aH (by omega)];exact h.top
 ·by_cases q:c=i
  ·subst q
   rw[aJ H,Oo e]
   congr 3
   funext a
   unfold wk
   by_cases z:a=j
   ·rw[ag z,ag ⟨rfl,z⟩]
   ·rw[aj z,aj (by rintro⟨_,w⟩;exact z w)]
  ·rw[aH (by omega),h.row c d]
   congr 3
   funext a
   unfold wk;rw[aj (by rintro⟨w,_⟩;exact q w)]
def LC.aug (h:LC K μ C){mo mi:Ev}(o:mo ρ C=.ok (.ref (2 * i+1)) C)(b:mi ρ C=.ok (.int (j:Int)) C)(a:i<K)(H:j<K):∃c,Jb mo mi zV ρ C=.ok (.nx ρ) c/\LC K (wk μ i j (μ i j+1)) c:=by
 obtain⟨c,e,l⟩:=h.put a H (μ i j+1);refine⟨c,?_,l⟩;unfold Jb;rw[o,zO,b,zO];dsimp only;rw[ag (by omega),h.row i a]
 dsimp only;rw[aI,ao,aT H];show R.bind (yu (.ref (2 * i+1)) (.int (j:Int)) (.int (μ i j+1)) C) _=_;rw[e,zO]
def LC.ix (h:LC K μ C){m mi:Ev}(hm:m ρ C=.ok (.ref (2 * K)) C)(H:mi ρ C=.ok (.int (i:Int)) C)(a:i<K):zi zD m mi ρ C=.ok (.ref (2 * i+1)) C:=
 (zR hm H).trans (wR h.top (by rw[ao,aT a];rfl))
def rep1 (w:W):∀n:Nat,(List.replicate n [w]).flatten=(List.range n).map λ_=>w:=λn=>by
 rw[map_const',aY]
 induction n with
 |zero=>rfl|succ n i=>rw[bh,a6,i];rfl
def Pq (n:K<=8){x0 x1 x2 x4:Option W}{l:List (Option W)}:∃C,qt (zM 1 [3] (qJ zQ) (zC 0) zS (zK (zi je (qb (zc zL zj)) zw))) (x0::x1::x2::some (.int (K:Int))::x4::l) []=.ok (.ref (2 * K)) C/\LC K (λ_ _=>0) C:=by
 have hm:=ZJ (m:=qi 3) (ρ:=x0::x1::x2::some (.int (K:Int))::x4::l) (A:=[]) (k:=(K:Int)) rfl (g9 (by omega))
 rw[aI]at hm;obtain⟨g,acc,B,e,_,H,h⟩:=YI (nl:=1) (cap:=[3]) (tw:=zC 0) (ifs:=qc (.bl true)) (em:=zK (zi je (qb (zc zL zj)) zw)) (N:=K)
  (I:=λi ρ acc B=>(∃y,ρ=[y,some (.int (K:Int))])/\(B.length=2 * i/\∀c,c<i->B[2 * c+1]? =some (.lst ((List.range K).map λj=>W.int 0)))/\acc=(List.range i).map λc=>W.ref (2 * c+1)) hm rfl
  (λi ρ acc B b ⟨⟨y,a⟩,⟨d,H⟩,h⟩=>by
   subst a h;refine⟨_,_,wA b,rfl,.inl ⟨B,_,_,B++[.lst [.int 0]]++[.lst ((List.range K).map λj=>W.int 0)],rfl,YR (y:=.ref (2 * i+1)) ?_ (by rw[ai,aY];unfold qa;omega),⟨_,rfl⟩,⟨by simp;omega,λc f=>?_⟩,by rw[bE,aX];rfl⟩⟩
   ·refine(zR (yq (qj jb qI)) (zu (i:=1) (w:=.int (K:Int)) rfl)).trans ?_
    unfold je;dsimp only;rw[jx];dsimp only;rw[ag (by rw[g9 (by omega),aI];simp;unfold qa;omega),aI,ay,d,rep1]
    rfl
   ·by_cases q:c=i
    ·subst q
     rw[aq (by simp;omega)]
     simp[d]
    ·rw[ah (by simp;omega),ah (by omega)]
     exact H c (by omega))
  (λρ acc B _=>wy (by omega)) ⟨⟨none,rfl⟩,⟨rfl,λc f=>absurd f (not_lt_zero _)⟩,rfl⟩
 subst h;refine⟨B++[.lst ((List.range K).map λc=>W.ref (2 * c+1))],?_,?_,λi b=>?_⟩
 ·rw[gC e,H.1]
 ·rw[<- H.1];exact jx
 ·exact ye (H.2 i b)
theorem LC.tup (h:LC K μ C)(d:K<=8){i:Nat}(b:ρ[i]? =some (some (.ref (2 * K)))):mQ jm (zM 1 [] (qd (qi i)) (zC 0) zS (zK (mQ jm (qg zm)))) ρ C=.ok (zq (yt K μ)) C:=by
 have e:=YX (cap:=[]) (ws:=(List.range K).map λi=>W.ref (2 * i+1)) (me:=mQ jm (qg zm)) (zu b) h.top (by simp;unfold qa;omega) (g:=λw=>match w with|.ref n=>(match C[n]? with|some (.lst ws)=>.tup ws|_=>.non)|_=>.non) (λw hw=>by
  obtain⟨c,a,rfl⟩:=cD.mp hw;have H:=h.row c (cC.mp a);dsimp only;rw[H];exact Zi (kF (w:=.ref (2 * c+1)) (A1:=C) (zu rfl) (by unfold zP;dsimp only;rw[H])))
 rw[Zi e]
 congr 1
 unfold zq yt;rw[aO,aO]
 congr 1
 refine ba λc a=>?_;have H:=h.row c (cC.mp a);show(match C[2 * c+1]? with|some (.lst ws)=>W.tup ws|_=>.non)=zT ((List.range K).map (μ c))
 rw[H];unfold zT;rw[aO]
 rfl
def shr (t:bV)(a b:Nat):Nat->Nat->Nat->Int
 |0=>λ_ _=>0|n+1=>wk (shr t a b n) (at2 t a n).toNat (at2 t b n).toNat (shr t a b n (at2 t a n).toNat (at2 t b n).toNat+1)
def yx (t:bV)(K a b:Nat):bV:=yt K (shr t a b t.length)
def Qt (h:qu t)(d:qH t=(K:Int))(c:a<t.length)(H:b<t.length):((at2 t a b).toNat:Int)=at2 t a b/\(at2 t a b).toNat<K:=by
 have f:=Uv h c H;have e:=Gf h c H;omega
def RU (h:qu t)(g:qH t=(K:Int))(d:a<t.length)(c:b<t.length)(A:Hx):ZD [zq t,.int (a:Int),.int (b:Int)] A=.ok (zq (yx t K a b)) A:=by
 have n8:=h.n8;have x:=wB h;have f:((t.getD a []).map W.int).length=t.length:=by rw[ai,h.sq _ (yz d)]
 have u:((t.getD b []).map W.int).length=t.length:=by rw[ai,h.sq _ (yz c)]
 obtain⟨C,v,r⟩:=Pq (K:=K) (by omega) (x0:=some (zq t)) (x1:=some (.int (a:Int))) (x2:=some (.int (b:Int))) (x4:=none) (l:=[none,none])
 obtain⟨i,B,E,L,Y,y,H⟩:=kY (j:=Jn (.tup ((t.getD a []).map W.int)) (.tup ((t.getD b []).map W.int)) ((t.getD a []).map W.int).length) (st:=turn (jo 5 6) (zo (Jb (zi zD qx jn) kN zV) zB)) (N:=t.length)
  (I:=λn ρ B=>LC K (shr t a b n) B/\∃Y y,ρ=[some (zq t),some (.int (a:Int)),some (.int (b:Int)),some (.int (K:Int)),some (.ref (2 * K)),Y,y])
  (λn ρ B hn ⟨l,Y,y,H⟩=>by
   subst H;obtain⟨p,q⟩:=Qt h g d hn;obtain⟨o,Q⟩:=Qt h g c hn;obtain⟨w,e,s⟩:=l.aug (ρ:=[some (zq t),some (.int (a:Int)),some (.int (b:Int)),some (.int (K:Int)),some (.ref (2 * K)),some (.int (at2 t a n)),some (.int (at2 t b n))]) (mo:=zi zD qx jn) (mi:=qi 6) (l.ix (zu rfl) (zu (by rw[p];rfl)) q) (zu (by rw[o];rfl)) q Q
   refine⟨.tup [.int (at2 t a n),.int (at2 t b n)],_,w,?_,(yV rfl).trans ((zJ e).trans jG),s,_,_,rfl⟩;show some (zip2 ((t.getD a []).map W.int)[n]? ((t.getD b []).map W.int)[n]?)=_;rw[int_at (by rw[h.sq _ (yz d)];exact hn),int_at (by rw[h.sq _ (yz c)];exact hn)]
   rfl)
  (λρ B _=>by
   show some (zip2 ((t.getD a []).map W.int)[t.length]? ((t.getD b []).map W.int)[t.length]?)=_;rw[aE (by omega),aE (by omega)]
   rfl) t.length 0 [some (zq t),some (.int (a:Int)),some (.int (b:Int)),some (.int (K:Int)),some (.ref (2 * K)),none,none] C (by omega) ⟨r,_,_,rfl⟩
 subst H;refine ZO (A1:=B) (gX t) (JV _) (q9 ?_);unfold T5;refine(zJ (qO ((qL (qj (zu rfl) qI)).trans ((Vz h []).trans (by rw[g]))))).trans ?_
 refine(zJ (qO v)).trans ?_;refine(zJ (ρ1:=[some (zq t),some (.int (a:Int)),some (.int (b:Int)),some (.int (K:Int)),some (.ref (2 * K)),Y,y]) (A1:=B) ((yJ (Cq ((zR (zu rfl) (zu rfl)).trans (Q5 d)) ((zR (zu rfl) (zu rfl)).trans (Q5 c)))).trans ?_)).trans (qF (ji (L.tup (by omega) rfl)))
 have:(Jn (.tup ((t.getD a []).map W.int)) (.tup ((t.getD b []).map W.int)) ((t.getD a []).map W.int).length).len=t.length:=f
 rw[this];exact E
def FI (H:qu t)(f:qH t=(K:Int))(d:a<t.length)(c:b<t.length)(A:Hx):YE [zq t,.int (a:Int),.int (b:Int)] A=.ok (zq (yx t K a b)) A:=by
 have n8:=H.n8;have w:=wB H;obtain⟨C,u,r⟩:=Pq (K:=K) (by omega) (x0:=some (zq t)) (x1:=some (.int (a:Int))) (x2:=some (.int (b:Int))) (x4:=none) (l:=[none])
 obtain⟨g,B,E,L,y,h⟩:=kY (j:=j8 0 t.length) (st:=turn (zC 5) (zo (Jb (zi zD qx (zi zD (zi zD zm zw) jn)) (zi zD (zi zD zm zW) jn) zV) zB)) (N:=t.length)
  (I:=λn ρ B=>LC K (shr t a b n) B/\∃y,ρ=[some (zq t),some (.int (a:Int)),some (.int (b:Int)),some (.int (K:Int)),some (.ref (2 * K)),y])
  (λn ρ B hn ⟨l,y,h⟩=>by
   subst h;obtain⟨p,q⟩:=Qt H f d hn;obtain⟨o,Q⟩:=Qt H f c hn;have x1:zi zD (zi zD zm zw) jn [some (zq t),some (.int (a:Int)),some (.int (b:Int)),some (.int (K:Int)),some (.ref (2 * K)),some (.int (n:Int))] B=.ok (.int ((at2 t a n).toNat:Int)) B:=by
    rw[p];exact(zR ((zR (zu rfl) (zu rfl)).trans (Q5 d)) (zu rfl)).trans (Kh (by rw[H.sq _ (yz d)];exact hn))
   have x2:zi zD (zi zD zm zW) jn [some (zq t),some (.int (a:Int)),some (.int (b:Int)),some (.int (K:Int)),some (.ref (2 * K)),some (.int (n:Int))] B=.ok (.int ((at2 t b n).toNat:Int)) B:=by
    rw[o];exact(zR ((zR (zu rfl) (zu rfl)).trans (Q5 c)) (zu rfl)).trans (Kh (by rw[H.sq _ (yz c)];exact hn))
   obtain⟨v,e,s⟩:=l.aug (mo:=zi zD qx (zi zD (zi zD zm zw) jn)) (l.ix (zu rfl) x1 q) x2 q Q;refine⟨.int (0+(n:Int)),_,v,wA hn,(yV (ρ1:=[some (zq t),some (.int (a:Int)),some (.int (b:Int)),some (.int (K:Int)),some (.ref (2 * K)),some (.int (n:Int))]) (by rw[Int.zero_add];rfl)).trans ((zJ e).trans jG),s,_,rfl⟩)
  (λρ B _=>wy (by omega)) t.length 0 [some (zq t),some (.int (a:Int)),some (.int (b:Int)),some (.int (K:Int)),some (.ref (2 * K)),none] C (by omega) ⟨r,_,rfl⟩
 subst h;refine ZO (A1:=B) (gX t) (JV _) (q9 ?_);unfold Sf;have hm:=ZJ (len_tab (t:=t) (i:=0) (ρ:=[some (zq t),some (.int (a:Int)),some (.int (b:Int)),some (.int (K:Int)),some (.ref (2 * K)),none]) (A:=C) rfl) (g9 (n:=t.length) (by omega))
 rw[aI]at hm;refine(zJ (qO ((qL (qj (zu rfl) qI)).trans ((YT H []).trans (by rw[f]))))).trans ?_
 refine(zJ (qO u)).trans ?_;exact(zJ ((yJ hm).trans E)).trans (qF (ji (L.tup (by omega) rfl)))
end
section
variable {w:W}{a:Ea}
def CW {m:Ev}{a:En}{w:W}(h:m ρ A=.ok w A1)(h':tw w ρ=some a):QG m tw ρ A=.ok (.nx a) A1:=by
 unfold QG;rw[h,zO,h']
def NU {a:W}(h:ρ[i]? =some (some a)):Z0 [i] ρ=some [a]:=by
 unfold Z0;rw[h]
 rfl
end
structure LM (N b0 r:Nat)(μ:Nat->Nat->Int)(C:Hx):Prop where
 top:C[r]? =some (.lst ((List.range N).map λi=>W.ref (b0+i)))
 row:∀i,i<N->C[b0+i]? =some (.lst ((List.range N).map λj=>W.int (μ i j)))
 lt:b0+N<=r
 pos:0<b0
 st:qZ 0 C
structure Sy (N:Nat)(μ:Nat->Nat->Int):Prop where
 dg:∀a b,a<N->b<N->(μ a b=0↔a=b)
 sy:∀a b,a<N->b<N->μ a b=μ b a
 lo:∀a b,a<N->b<N->0<=μ a b/\μ a b<(N:Int)
section
variable {N b0 r a b:Nat}{C:Hx}
def Sy.step (h:Sy N μ)(l:a<N)(g:b<N)(f:a≠b){k:Int}(k1:1<=k)(k2:k<(N:Int)):Sy N (wk (wk μ a b k) b a k):=by
 have at_:∀i j,wk (wk μ a b k) b a k i j=if (i=b/\j=a)∨(i=a/\j=b) then k else μ i j:=λi j=>by
  unfold wk
  by_cases e:i=b/\j=a
  ·rw[ag e,ag (.inl e)]
  ·rw[aj e]
   by_cases Q:i=a/\j=b
   ·rw[ag Q,ag (.inr Q)]
   ·rw[aj Q,aj (by rintro(z|z);exact e z;exact Q z)]
 refine⟨λi j d H=>?_,λi j d H=>?_,λi j d H=>?_⟩
 ·rw[at_]
  by_cases q:(i=b/\j=a)∨(i=a/\j=b)
  ·rw[ag q]
   constructor
   ·intro z;omega
   ·intro z;omega
  ·rw[aj q];exact h.dg i j d H
 ·rw[at_,at_]
  by_cases q:(i=b/\j=a)∨(i=a/\j=b)
  ·rw[ag q,ag (by rcases q with ⟨c,Z⟩|⟨c,Z⟩;exact .inr ⟨Z,c⟩;exact .inl ⟨Z,c⟩)]
  ·rw[aj q,aj (by rintro(⟨c,Z⟩|⟨c,Z⟩);exact q (.inr ⟨Z,c⟩);exact q (.inl ⟨Z,c⟩))]
   exact h.sy i j d H
 ·rw[at_]
  by_cases q:(i=b/\j=a)∨(i=a/\j=b)
  ·rw[ag q];omega
  ·rw[aj q];exact h.lo i j d H
theorem LM.put (h:LM N b0 r μ C)(g:a<N)(f:b<N)(k:Int):∃d,yu (.ref (b0+a)) (.int (b:Int)) (.int k) C=.ok () d/\LM N b0 r (wk μ a b k) d:=by
 have c:=h.row a g;have H:=wQ c;have n:=h.lt;have l:=h.pos;refine⟨_,Vs c (by simp;omega),?_,λi e=>?_,n,l,h.st.put (by omega)⟩
 ·rw[aH (by omega)];exact h.top
 ·by_cases q:i=a
  ·subst q
   rw[aJ H,Oo f]
   congr 3
   funext j
   unfold wk
   by_cases z:j=b
   ·rw[ag z,ag ⟨rfl,z⟩]
   ·rw[aj z,aj (by rintro⟨_,w⟩;exact z w)]
  ·rw[aH (by omega),h.row i e]
   congr 3
   funext j
   unfold wk;rw[aj (by rintro⟨w,_⟩;exact q w)]
def LM.kn {c:Hx}(h:LM N b0 r μ C)(k:Kn 0 C c):LM N b0 r μ c:=by
 have b:=h.lt;have a:=h.pos;exact⟨k.kp.get h.top (by omega),λi H=>k.kp.get (h.row i H) (by omega),b,a,k.st⟩
def LM.ix (h:LM N b0 r μ C){m:Ev}(hm:m ρ C=.ok (.ref r) C)(H:ρ[i]? =some (some (.int (a:Int))))(b:a<N):zi zD m (qi i) ρ C=.ok (.ref (b0+a)) C:=
 (zR hm (zu H)).trans (wR h.top (by rw[ao,aT b];rfl))
def LM.ix2 (h:LM N b0 r μ C){m:Ev}(hm:m ρ C=.ok (.ref r) C)(d:ρ[i]? =some (some (.int (a:Int))))(c:ρ[j]? =some (some (.int (b:Int))))(H:a<N)(e:b<N):zi zD (zi zD m (qi i)) (qi j) ρ C=.ok (.int (μ a b)) C:=
 (zR (h.ix hm d H) (zu c)).trans (wR (h.row a H) (by rw[ao,aT e];rfl))
abbrev U1 (me:Ev)(rest:Ex):Ex:=zo (yC yu (zi qB zV (zH yU (zc zm (zc me zj)))) (zi zD zW qx) jn) (zo (yC yu (zi zD (zi zD zW qx) jn) (zi zD zW jn) qx) rest)
def OE (h:LM N b0 r μ C)(q:Sy N μ)(d:a<N)(H:b<N)(f:a≠b)(h0:ρ[0]? =some (some (.ref 0)))(j:ρ[2]? =some (some (.ref r)))(i:ρ[4]? =some (some (.int (a:Int))))(g:ρ[5]? =some (some (.int (b:Int)))){m:Int}(hm:me ρ C=.ok (.int m) C)(m1:0<m)(m2:m<(N:Int))(x:N<=8)(rest:Ex):
  ∃c p,U1 me rest ρ C=rest ρ p/\LM N b0 r c p/\Sy N c:=by
 obtain⟨k,e,u,v,k1,_⟩:=Q2 h.st h0 hm m1 (by omega)
 have L:=h.kn k1;obtain⟨n,t,l⟩:=L.put d H (1+(k:Int));obtain⟨o,E,s⟩:=l.put H d (1+(k:Int));refine⟨_,o,?_,s,q.step d H f (by omega) (by omega)⟩
 refine(zJ (ρ1:=ρ) (A1:=n) ?_).trans (zJ (ρ1:=ρ) (A1:=o) ?_)
 ·unfold yC
  rw[(zR (jb (w:=.int 1)) u).trans (show qB (.int 1) (.int (k:Int)) e=.ok (.int (1+(k:Int))) e from rfl),zO,L.ix (zu j) i d,zO,(show jn ρ e=.ok (.int (b:Int)) e from zu g),zO,t,zO]
 ·have ev:wk μ a b (1+(k:Int)) a b=1+(k:Int):=by unfold wk;rw[ag ⟨rfl,rfl⟩]
  unfold yC;rw[l.ix2 (zu j) i g d H,zO,l.ix (zu j) g H,zO,(show qx ρ n=.ok (.int (a:Int)) n from zu i),zO,ev,E,zO]
def LM.ll (h:LM N b0 r μ C):LL (yt N μ) r C:=by
 refine⟨(List.range N).map λi=>b0+i,by rw[h.top,aO];rfl,by rw[WE];simp,λi H=>?_⟩
 rw[WE]at H;have E:((List.range N).map λi=>b0+i).getD i 0=b0+i:=by rw[ae,ao,aT H];rfl
 have e:(yt N μ).getD i []=(List.range N).map (μ i):=by unfold yt;rw[ae,ao,aT H];rfl
 rw[E,e,h.row i H,aO]
 rfl
def LM.fin (h:LM N b0 r μ C)(q:Sy N μ)(n1:1<=N)(n8:N<=8)(f:ρ[2]? =some (some (.ref r))):∃u B,zH QT (zc zW zj) ρ C=.ok (zq u) B/\qu u/\qZ 0 B:=by
 have l:=WE (n:=N) (μ:=μ);have H:∀v∈(yt N μ).flatten,0<=v/\v<(N:Int):=λv d=>by
  obtain⟨a,b,c,H,rfl⟩:=Qo Vo d;rw[l]at c H;rw[Ql c H];exact q.lo a b c H
 obtain⟨B,e,x⟩:=Oy (t:=yt N μ) (by omega) (by omega) Vo (λv d=>by have:=H v d;omega) h.ll
 refine⟨_,B,(qL (qj (zu f) qI)).trans e,FF (by omega) (by omega) Vo ?_ ?_ ?_,h.st.ext x⟩
 ·intro a b c H;rw[l]at c H;rw[Ql c H];exact q.dg a b c H
 ·intro a b c H;rw[l]at c H;rw[Ql c H,Ql H c];exact q.sy a b c H
 ·intro a b c H;rw[l]at c H ⊢;rw[Ql c H];exact q.lo a b c H
def C5 (h:qu t)(s:qZ 0 B):LM t.length B.length (B.length+t.length) (at2 t) (B++(t.map λr=>O.lst (r.map W.int))++[O.lst ((List.range t.length).map λi=>W.ref (B.length+i))])/\Sy t.length (at2 t):=by
 refine⟨⟨Py,λi H=>?_,ar _,s.lt,s.ext ⟨(t.map λr=>O.lst (r.map W.int))++[O.lst ((List.range t.length).map λi=>W.ref (B.length+i))],by rw[aN]⟩⟩,h.dg,h.sy,λa b f e=>?_⟩
 ·rw[Ox H]
  congr 2
  have d:=h.sq _ (yz H)
  have:=YB (t.getD i []) 0 W.int
  rw[this,d]
  rfl
 ·obtain⟨c,j,g,_⟩:=Y7 h.sq f e
  exact h.lo c j _ g
noncomputable abbrev eW (w r N:Nat)(l:En):En:=some (.ref 0)::some (.int (w:Int))::some (.ref r)::some (.int (N:Int))::l
def BQ (s:qZ 0 [o]):∃t B,Wi [.ref 0] [o]=.ok (zq t) B/\qZ 0 B/\qu t:=by
 unfold Wi;unfold SU;obtain⟨way,T,e0,hw,k0,_⟩:=Q2 (ρ:=[some (.ref 0),none,none,none,none,none,none]) (me:=qc (.int 3)) s rfl jb (by decide:(0:Int)<3) (by decide)
 have go:∀m2:Ex,zo (zX 1 (zH yU (zc zm (zc ju zj)))) m2 [some (.ref 0),none,none,none,none,none,none] [o]=m2 [some (.ref 0),some (.int (way:Int)),none,none,none,none,none] T:=λm2=>zJ ((qO e0).trans rfl);obtain⟨t,x,e1,J,_,k1,_⟩:=Bj k0.st;have n1:=J.n1;have n8:=J.n8;have P:zi jA zw zL [some (.ref 0),some (.int (way:Int)),none,none,none,none,none] T=.ok (.bl (decide ((way:Int)=0))) T:=(zR (zu rfl) jb).trans (QM _ _ _);have ek:zH JI (zc zm zj) [some (.ref 0),some (.int (way:Int)),none,none,none,none,none] T=.ok (zq t) x:=(qL (qj (zu rfl) qI)).trans e1
 by_cases q0:(way:Int)=0
 ·rw[aB q0]at P
  exact⟨t,x,q9 ((go _).trans (qF ((wF P).trans (qF (ji ek))))),k1.st,J⟩
 ·rw[aC q0]at P
  have er:=HR (B:=x) n8 J.sq ek;obtain⟨lm,sy⟩:=C5 J k1.st;generalize x++(t.map λr=>O.lst (r.map W.int))++[O.lst ((List.range t.length).map λi=>W.ref (x.length+i))]=C at er lm;generalize x.length+t.length=r at er lm;generalize x.length=b0 at lm;generalize at2 t=μ at lm sy;generalize hN:t.length=N at lm sy n1 n8;have K:mQ qE (qg zW) [some (.ref 0),some (.int (way:Int)),some (.ref r),none,none,none,none] C=.ok (.int (N:Int)) C:=by
   rw[yF (kF (w:=.ref r) (A1:=C) (zu rfl) (by unfold zP;dsimp only;rw[lm.top]))]
   unfold qE;simp
  have go2:∀m1 m2:Ex,zo (zX 1 (zH yU (zc zm (zc ju zj)))) (zo (ja (zi jA zw zL) m1 zB) (zo (zX 2 (qt (zM 1 [] (qd (zH JI (zc zm zj))) (zC 0) zS (zK (qt (qg zm)))))) (zo (zX 3 (mQ qE (qg zW))) m2))) [some (.ref 0),none,none,none,none,none,none] [o]=m2 (eW way r N [none,none,none]) C:=λm1 m2=>
   (go _).trans ((zJ ((yL P).trans jG)).trans ((zJ ((qO er).trans rfl)).trans (zJ ((qO K).trans rfl))))
  have Q:ku (zi jA zw zV) (zi KU zQ zV) (eW way r N [none,none,none]) C=.ok (.bl (decide ((way:Int)=1)&&decide ((1:Int)<(N:Int)))) C:=by
   have e:zi jA zw zV (eW way r N [none,none,none]) C=.ok (.bl (decide ((way:Int)=1))) C:=(zR (zu rfl) jb).trans (QM _ _ _)
   by_cases z:(way:Int)=1
   ·rw[aB z]at e ⊢
    exact(Q9 e).trans ((zR (zu rfl) jb).trans rfl)
   ·rw[aC z]at e ⊢
    exact Gm e
  cases hd:(decide ((way:Int)=1)&&decide ((1:Int)<(N:Int))) with
  |true=>
   rw[hd]at Q;have hN2:2<=N:=by
    rw[aw,ak,ak]at hd;omega
   obtain⟨a,d,M,ha,k2,_⟩:=Q2 (ρ:=(eW way r N [none,none,none])) (me:=qi 3) lm.st rfl (zu rfl) (by omega:(0:Int)<(N:Int)) (by omega)
   obtain⟨q,C2,e3,hq,k3,_⟩:=Q2 (ρ:=(eW way r N [some (.int (a:Int)),none,none])) (me:=zi kq zQ zV) (m:=(N:Int)-1) k2.st rfl ((zR (zu rfl) jb).trans rfl) (by omega) (by omega)
   have X:=(lm.kn k2).kn k3;have hb:(a+1+q)%N<N:=Nat.mod_lt _ (by omega)
   have hab:a≠(a+1+q)%N:=by
    intro z
    by_cases g:a+1+q<N
    ·rw[Nat.mod_eq_of_lt g]at z;omega
    ·rw[Nat.mod_eq_sub_mod (by omega),Nat.mod_eq_of_lt (by omega)]at z
     omega
   have e4:zi wc (zi qB (zi qB qx zV) (zH yU (zc zm (zc (zi kq zQ zV) zj)))) zQ (eW way r N [some (.int (a:Int)),none,none]) d=.ok (.int (((a+1+q)%N:Nat):Int)) C2:=by
    refine(zR ((zR ((zR (zu rfl) jb).trans (show qB (.int (a:Int)) (.int 1) d=.ok (.int ((a:Int)+1)) d from rfl)) e3).trans (show qB (.int ((a:Int)+1)) (.int (q:Int)) C2=.ok (.int ((a:Int)+1+(q:Int))) C2 from rfl)) (zu (i:=3) rfl)).trans ((Q7 (by omega)).trans ?_)
    congr 2
   obtain⟨c,C3,e5,L,S⟩:=OE (ρ:=(eW way r N [some (.int (a:Int)),some (.int (((a+1+q)%N:Nat):Int)),none])) (me:=zi kq zQ zV) (m:=(N:Int)-1) X sy (by omega) hb hab rfl rfl rfl rfl ((zR (zu rfl) jb).trans rfl) (by omega) (by omega) n8 (zo (qv (zH QT (zc zW zj))) zB)
   obtain⟨u,B,e6,Z,sB⟩:=L.fin S n1 n8 (ρ:=(eW way r N [some (.int (a:Int)),some (.int (((a+1+q)%N:Nat):Int)),none])) rfl;refine⟨u,B,q9 ((go2 _ _).trans (qF ((wF Q).trans ?_))),sB,Z⟩;exact(zJ ((qO M).trans rfl)).trans ((zJ ((qO e4).trans rfl)).trans (e5.trans (qF (ji e6))))
  |false=>
   rw[hd]at Q;have xo:Ext C (C++[.lst [.int 2,.int 3,.int 1]]):=Ext.one;obtain⟨j,d,M,hj,k2,_⟩:=Q2 (ρ:=(eW way r N [none,none,none])) (me:=qc (.int 3)) (lm.st.ext xo) rfl jb (by decide:(0:Int)<3) (by decide)
   have Y:LM N b0 r μ d:=(lm.kn (Kn.ext lm.st xo)).kn k2;obtain⟨f,hf1,ef⟩:∃f:Int,1<=f/\zi zD (qb (zc qy (zc ju (zc zV zj)))) (zH yU (zc zm (zc ju zj))) (eW way r N [none,none,none]) C=.ok (.int f) d:=by
    have v:=k2.kp.get (jx (A:=C)) (by have:=lm.st.lt;omega)
    have hj3:j<3:=by omega
    rcases three hj3 with rfl|rfl|rfl
    ·exact⟨2,by decide,(zR (yq rfl) M).trans (wR v rfl)⟩
    ·exact⟨3,by decide,(zR (yq rfl) M).trans (wR v rfl)⟩
    ·exact⟨1,by decide,(zR (yq rfl) M).trans (wR v rfl)⟩
   have rng:∀(i:Nat)(ρ:En)(D:Hx)(k:Nat),k<=8->ρ[i]? =some (some (.int (k:Int)))->qJ (qi i) ρ D=.ok (j8 0 k) D:=λi ρ D k hk h=>by
    have:=ZJ (m:=qi i) (A:=D) (zu h) (g9 (n:=k) (by omega))
    rw[aI]at this;exact this
   obtain⟨U,D,e3,⟨c,L,S⟩,y4,y,H⟩:=kY (j:=j8 0 N) (st:=turn (zC 4) (zo (qY (qJ qx) (zC 5) (U1 (zi ZQ kN (zi kq zQ zV)) zB)) zB)) (N:=N)
    (I:=λ_ ρ D=>(∃μ,LM N b0 r μ D/\Sy N μ)/\∃y4 y,ρ=(eW way r N [y4,y,some (.int f)]))
    (λa ρ D ha ⟨⟨μ,lm,sy⟩,y4,y,H⟩=>by
     subst H;obtain⟨U,D',e,⟨c,p,l⟩,y5',E⟩:=kY (j:=j8 0 a) (st:=turn (zC 5) (U1 (zi ZQ kN (zi kq zQ zV)) zB)) (N:=a)
      (I:=λ_ ρ D=>(∃μ,LM N b0 r μ D/\Sy N μ)/\∃y,ρ=(eW way r N [some (.int (a:Int)),y,some (.int f)]))
      (λb ρ D hb ⟨⟨μ,lm,sy⟩,y,H⟩=>by
       subst H;have em:zi ZQ kN (zi kq zQ zV) (eW way r N [some (.int (a:Int)),some (.int (b:Int)),some (.int f)]) D=.ok (.int (if (N:Int)-1<f then(N:Int)-1 else f)) D:=(zR (zu rfl) ((zR (zu rfl) jb).trans rfl)).trans rfl;obtain⟨c,D',e,p,l⟩:=OE (ρ:=(eW way r N [some (.int (a:Int)),some (.int (b:Int)),some (.int f)])) lm sy ha (by omega:b<N) (by omega) rfl rfl rfl rfl em (by split<;>omega) (by split<;>omega) n8 zB
       refine⟨_,_,D',wA hb,(yV (ρ1:=(eW way r N [some (.int (a:Int)),some (.int (b:Int)),some (.int f)])) ?_).trans e,⟨c,p,l⟩,_,rfl⟩;rw[Int.zero_add];rfl)
      (λρ D _=>wy (by omega)) a 0 (eW way r N [some (.int (a:Int)),y,some (.int f)]) D (by omega) ⟨⟨μ,lm,sy⟩,_,rfl⟩
     subst E;refine⟨_,_,D',wA ha,(yV (ρ1:=(eW way r N [some (.int (a:Int)),y,some (.int f)])) ?_).trans ((zJ ((yJ (rng 4 _ D a (by omega) rfl)).trans e)).trans jG),⟨c,p,l⟩,_,_,rfl⟩
     rw[Int.zero_add];rfl)
    (λρ D _=>wy (by omega)) N 0 (eW way r N [none,none,some (.int f)]) d (by omega) ⟨⟨μ,Y,sy⟩,_,_,rfl⟩
   subst H;obtain⟨u,B,e6,Z,sB⟩:=L.fin S n1 n8 (ρ:=(eW way r N [y4,y,some (.int f)])) rfl;refine⟨u,B,q9 ((go2 _ _).trans ((zJ ((yL Q).trans jG)).trans ((zJ ((qO ef).trans rfl)).trans ((zJ ((yJ (rng 3 _ d N n8 rfl)).trans e3)).trans (qF (ji e6)))))),sB,Z⟩
def gS (s:qZ n A):∃t B,YF [.ref n] A=.ok (zq t) B/\qu t/\Kn n A B:=by
 obtain⟨c,b,a,f,g⟩:=s;have hm:=wQ a;obtain⟨t,A1,e,⟨C,d,E,h,H⟩,T⟩:=BQ (o:=.lst [.int c,.bl b]) ⟨c,b,rfl,f,g⟩;refine⟨t,A.set n (.lst [.int C,.bl d]),?_,T,⟨Kp.set,C,d,aJ hm,h,H⟩⟩;unfold YF;exact Vp a rfl e E (JV t)
end
def X0 {j:jH}{st:W->Ex}{N:Nat}{I:Nat->En->Hx->Prop}{Q:W->Hx->Prop}
  (p:∀i ρ A,i<N->I i ρ A->∃w,j.at_ A i=some (some w)/\((∃ρ1 A1,st w ρ A=.ok (.nx ρ1) A1/\I (i+1) ρ1 A1)∨∃r A1,st w ρ A=.ok (.rt r) A1/\Q r A1))(d:∀ρ A,I N ρ A->j.at_ A N=some none):
  ∀(f i:Nat)(ρ:En)(A:Hx),i+f=N->I i ρ A->(∃a b,yD j st f i ρ A=.ok (.nx a) b/\I N a b)∨∃r b,yD j st f i ρ A=.ok (.rt r) b/\Q r b:=by
 intro f
 induction f with
 |zero=>
  intro i ρ A h c
  have:i=N:=by omega
  subst this;exact .inl ⟨ρ,A,XZ (d _ _ c),c⟩
 |succ f n=>
  intro i ρ A h c;obtain⟨w,l,H|H⟩:=p i ρ A (by omega) c
  ·obtain⟨ρ1,A1,H,g⟩:=H
   rcases n (i+1) ρ1 A1 (by omega) g with ⟨a,b,e,q⟩|⟨r,b,e,q⟩
   ·exact .inl ⟨a,b,(WH l H).trans e,q⟩
   ·exact .inr ⟨r,b,(WH l H).trans e,q⟩
  ·obtain⟨r,A1,H,g⟩:=H
   refine .inr ⟨r,A1,?_,g⟩;unfold yD;rw[l];dsimp only;rw[H]
   rfl
noncomputable def Yj (r:bX):PyData:=.tuple (r.map .int)
def ZZ (t:bV):PyData:=.tuple (t.map Yj)
theorem WJ {f:W->Option PyData}{g:α->W}{h:α->PyData}(e:∀a,f (g a)=some (h a)):∀l:List α,yN f (l.map g)=some (l.map h)
 |[]=>rfl|a::l=>by
  rw[aL,yN,e a,WJ e l]
  rfl
def CG (A:Hx)(n:Nat)(r:bX):qm A (n+1) (zT r)=some (Yj r):=by
 show(yN (qm A n) (r.map W.int)).map PyData.tuple=_;rw[WJ (h:=PyData.int) (λi=>by cases n<;>rfl)]
 rfl
def WV (A:Hx)(n:Nat)(t:bV):qm A (n+2) (zq t)=some (ZZ t):=by
 show(yN (qm A (n+1)) (t.map zT)).map PyData.tuple=_;rw[WJ (h:=Yj) (CG A n)]
 rfl
def E3 {r:Nat}{t:List (bV)}(h:A[r]? =some (.lst (t.map zq))):qm A 8 (.ref r)=some (.list (t.map ZZ)):=by
 show(match zP (.ref r) A with|some ws=>(yN (qm A 7) ws).map PyData.list|none=>none)=_
 have:zP (.ref r) A=some (t.map zq):=by unfold zP;dsimp only;rw[h]
 rw[this];dsimp only;rw[WJ (h:=ZZ) (WV A 5)]
 rfl
section
variable {k:Nat}{kvs:List (Key×W)}
def Bq {f:Fn}{us:List W}{k:Nat}(hn:qS us=true)(h:f us []=.ok (.ref k) A1)(H:A1[k]? =some (.dct kvs))(hw:qS (kvs.map (·.2))=true):iso f us A=.ok (.ref A.length) (A++[.dct kvs]):=by
 unfold iso;rw[ag hn,h];dsimp only;rw[H];dsimp only;rw[ag hw]
end
theorem XT:∀s t:bV,PyData.eqvAll (s.map Yj) (t.map Yj)=decide (s=t)
 |[],[]=>by simp[PyData.eqvAll]|[],_::_=>by simp[PyData.eqvAll]|_::_,[]=>by simp[PyData.eqvAll]|a::l,b::m=>by
  simp only[aL,PyData.eqvAll,XT l m,Yj,PyData.eqv,XO];rw[Bool.eq_iff_iff];simp
def gV (s t:bV)(A:Hx):jz (zq s) (zq t) A=.ok (.bl (!decide (s=t))) A:=by
 show Zu true _ _ A=_;unfold Zu;rw[WV A 6 s,WV A 6 t];dsimp only;rw[ag rfl,ZZ,ZZ,PyData.eqv,XT]
noncomputable def NS (a b c e:Nat):W:=.tup [.int (a:Int),.int (b:Int),.int (c:Int),.int (e:Int)]
noncomputable def pre (n a b:Nat):List (Nat×Nat):=((List.range a).flatMap λx=>(List.range n).map λy=>(x,y))++(List.range b).map λy=>(a,y)
def kU (n:Nat):List (Nat×Nat):=pre n n 0
section
variable {a b c e:Nat}
def Gw:pre n a (b+1)=pre n a b++[(a,b)]:=by
 unfold pre;rw[bE,aX,<- aN]
 rfl
def Kk:pre n a n=pre n (a+1) 0:=by
 unfold pre;rw[bE,bQ];simp
def Bx {x y:Nat}:(x,y)∈pre n a b↔(x<a/\y<n)∨(x=a/\y<b):=by
 unfold pre;rw[List.mem_append,List.mem_flatMap]
 constructor
 ·rintro(⟨z,h1,d⟩|h)
  ·obtain⟨u,c,H⟩:=cD.mp d
   cases H;exact .inl ⟨cC.mp h1,cC.mp c⟩
  ·obtain⟨u,c,H⟩:=cD.mp h
   cases H;exact .inr ⟨rfl,cC.mp c⟩
 ·rintro(⟨h1,d⟩|⟨rfl,h⟩)
  ·exact .inl ⟨x,cC.mpr h1,cD.mpr ⟨y,cC.mpr d,rfl⟩⟩
  ·exact .inr (cD.mpr ⟨y,cC.mpr h,rfl⟩)
def WU {x y:Nat}:(x,y)∈kU n↔x<n/\y<n:=by
 unfold kU;rw[Bx];omega
def g0 (h:a<=n):∃r,kU n=pre n a 0++r:=by
 obtain⟨d,rfl⟩:∃d,n=a+d:=⟨n-a,by omega⟩
 have:∀d m,∃r,pre m (a+d) 0=pre m a 0++r:=by
  intro d
  induction d with
  |zero=>intro m;exact⟨[],by simp⟩|succ d i=>
   intro m;obtain⟨r,H⟩:=i m;refine⟨r++(List.range m).map λy=>(a+d,y),?_⟩;rw[<- Nat.add_assoc,<- Kk,<- aN,<- H];unfold pre;simp
 exact this d _
def hE (h:a<n)(H:b<=n):∃r,pre n (a+1) 0=pre n a b++r:=by
 rw[<- Kk];obtain⟨d,rfl⟩:∃d,n=b+d:=⟨n-b,by omega⟩
 refine⟨(List.range d).map λy=>(a,b+y),?_⟩;unfold pre;rw[List.range_add,aX,aN,aO];simp
def pre_split (h:c<n)(he:e<n):∃r,kU n=pre n c e++(c,e)::r:=by
 obtain⟨f,g⟩:=g0 (n:=n) (a:=c+1) h;obtain⟨d,H⟩:=hE (n:=n) (a:=c) (b:=e+1) h he;exact⟨d++f,by rw[g,H,Gw];simp⟩
def OL:(pre n a b).length=a * n+b:=by
 unfold pre;rw[ay,ai,aY,List.length_flatMap]
 congr 1
 rw[ba (g:=λ_=>n) (λx _=>by rw[ai,aY])]
 rw[map_const',List.sum_replicate_nat,aY]
variable {w:W}{acc L:List (Nat×Nat)}{p q:Nat×Nat}
abbrev jh (t:bV)(p:Nat×Nat):Int:=at2 t p.1 p.2
def QH (t:bV)(acc:List (Nat×Nat))(p:Nat×Nat):List (Nat×Nat):=if acc.any (λq=>decide (jh t q=jh t p)) then acc else acc++[p]
def kI (t:bV)(L:List (Nat×Nat)):List (Nat×Nat):=L.foldl (QH t) []
def Gg:kI t (L++[p])=QH t (kI t L) p:=by
 unfold kI;rw[foldl_append]
 rfl
def snoc_ind {P:List α->Prop}(h0:P [])(h:∀l a,P l->P (l++[a])):∀l,P l:=λl=>by
 have:∀l:List α,P l.reverse:=λl=>by
  induction l with
  |nil=>exact h0|cons a l i=>rw[List.reverse_cons];exact h _ _ i
 have:=this l.reverse
 rwa[List.reverse_reverse]at this
def DX:(kI t L).length<=L.length:=by
 refine snoc_ind (P:=λL=>(kI t L).length<=L.length) (ar _) (λl p i=>?_) L;rw[Gg,ay,aU];unfold QH
 split
 ·omega
 ·rw[ay,aU];omega
def Pl:∀p∈kI t L,p∈L:=by
 refine snoc_ind (P:=λL=>∀p∈kI t L,p∈L) (λ_ h=>h) (λl p i=>?_) L;intro q H;rw[Gg]at H;unfold QH at H
 split at H
 ·exact a5 _ (i q H)
 ·rcases cG.mp H with h|h
  ·exact a5 _ (i q h)
  ·exact aR _ h
def BD {γ:Type}{f:Nat×Nat->List γ}:(∀p∈L,∀q∈L,jh t p=jh t q->f p=[]->f q=[])->((kI t L).flatMap f).head? =(L.flatMap f).head?:=by
 refine snoc_ind (P:=λL=>(∀p∈L,∀q∈L,jh t p=jh t q->f p=[]->f q=[])->((kI t L).flatMap f).head? =(L.flatMap f).head?) (λ_=>rfl) (λl p i hf=>?_) L;have i:=i λx b y a=>hf x (a5 _ b) y (a5 _ a);rw[Gg,bQ,head?_append,<- i];unfold QH
 split
 ·rename_i c
  obtain⟨r,H,d⟩:=List.any_eq_true.mp c;cases h:((kI t l).flatMap f).head? with
  |some x=>rfl|none=>
   rw[List.head?_eq_none_iff,List.flatMap_eq_nil_iff]at h
   have:=hf r (a5 _ (Pl r H)) p (aR _ (cE.mpr rfl)) (of_decide_eq_true d) (h r H)
   simp[this]
 ·rw[bQ,head?_append]
def yv (t:bV)(p:Nat×Nat):Key×W:=(.inl (jh t p),.tup [.int (p.1:Int),.int (p.2:Int)])
theorem OU {v:Int}:∀acc:List (Nat×Nat),(kz (.inl v) (acc.map (yv t))).isSome=acc.any λq=>decide (jh t q=v)
 |[]=>rfl|q::l=>by
  show(if (Sum.inl (jh t q):Key)=.inl v then some _ else kz (.inl v) (l.map (yv t))).isSome=(decide (jh t q=v) || l.any λq=>decide (jh t q=v))
  by_cases h:jh t q=v
  ·rw[ag (by rw[h]),aB h];rfl
  ·rw[aj (λe=>h (by injection e)),aC h,OU l,Bool.false_or]
def D8 {x3:Option W}(H:acc.length<1000):
  ∃w,J4 ZL zw jn (zE (zc zW (zc qx zj))) [some (zq t),some (.ref 0),some (.int (a:Int)),x3,some (.int (b:Int)),some (.int (at2 t a b))] [.dct (acc.map (yv t))]=.ok w [.dct ((QH t acc (a,b)).map (yv t))]:=by
 have E:J4 ZL zw jn (zE (zc zW (zc qx zj))) [some (zq t),some (.ref 0),some (.int (a:Int)),x3,some (.int (b:Int)),some (.int (at2 t a b))] [.dct (acc.map (yv t))]=ZL (.ref 0) (.int (at2 t a b)) (.tup [.int (a:Int),.int (b:Int)]) [.dct (acc.map (yv t))]:=rfl;rw[E];unfold ZL;show ∃w,(if (acc.map (yv t)).length<qa then(match kz (.inl (at2 t a b)) (acc.map (yv t)) with|some w=>R.ok w [.dct (acc.map (yv t))]|none=>.ok (.tup [.int (a:Int),.int (b:Int)]) [O.dct (acc.map (yv t)++[((Sum.inl (at2 t a b):Key),W.tup [.int (a:Int),.int (b:Int)])])]) else .bad)=.ok w [.dct ((QH t acc (a,b)).map (yv t))]
 rw[ag (by rw[ai];unfold qa;omega)]
 have h:=OU (t:=t) (v:=at2 t a b) acc;unfold QH;cases e:kz (.inl (at2 t a b)) (acc.map (yv t)) with
 |some w=>
  rw[e]at h;rw[ag (show(acc.any λq=>decide (jh t q=jh t (a,b)))=true from h.symm)]
  exact⟨w,rfl⟩
 |none=>
  rw[e]at h;rw[aj (show ¬(acc.any λq=>decide (jh t q=jh t (a,b)))=true from λz=>by have z:=h.trans z;cases z)]
  exact⟨_,by rw[aX];rfl⟩
def BZ (q:qu t):Xy [zq t] []=.ok (.ref 0) [.dct ((kI t (kU t.length)).map (yv t))]:=by
 have n8:=q.n8;have c:(t.map zT).length=t.length:=ai ..;have o:∀a b,a<t.length->b<t.length->(kI t (pre t.length a b)).length<1000:=λa b f r=>by
  have s:=DX (t:=t) (L:=pre t.length a b);rw[OL]at s
  have:a * t.length<=8 * 8:=Nat.mul_le_mul (by omega) n8
  omega
 obtain⟨g,B,e,H,n,l,y4,y,h⟩:=kY (j:=ko (zq t) t.length) (st:=turn (jo 2 3) (zo (qY (kH zQ) (jo 4 5) (zo (yw (J4 ZL zw jn (zE (zc zW (zc qx zj))))) zB)) zB)) (N:=t.length)
  (I:=λa ρ B=>B=[.dct ((kI t (pre t.length a 0)).map (yv t))]/\∃n l y4 y,ρ=[some (zq t),some (.ref 0),n,l,y4,y])
  (λa ρ B f ⟨H,n,l,y4,y,h⟩=>by
   subst H h;have p:=q.sq _ (yz f);have d:((t.getD a []).map W.int).length=t.length:=by rw[ai,p]
   obtain⟨g,B,e,H,i,Y,h⟩:=kY (j:=ko (.tup ((t.getD a []).map W.int)) ((t.getD a []).map W.int).length) (st:=turn (jo 4 5) (zo (yw (J4 ZL zw jn (zE (zc zW (zc qx zj))))) zB)) (N:=t.length)
    (I:=λb ρ B=>B=[.dct ((kI t (pre t.length a b)).map (yv t))]/\∃y4 y,ρ=[some (zq t),some (.ref 0),some (.int (a:Int)),some (zT (t.getD a [])),y4,y])
    (λb ρ B r ⟨H,y4,y,h⟩=>by
     subst H h;obtain⟨w,e⟩:=D8 (a:=a) (b:=b) (x3:=some (zT (t.getD a []))) (o a b f r);rw[<- Gg,<- Gw]at e;exact⟨_,_,_,J7 (int_at (by omega)),(yV rfl).trans ((zJ (Q3 e)).trans jG),rfl,_,_,rfl⟩)
    (λρ B _=>by have:=J1 (A:=B) (ws:=(t.getD a []).map W.int);rw[d]at this ⊢;exact this) t.length 0 [some (zq t),some (.ref 0),some (.int (a:Int)),some (zT (t.getD a [])),y4,y] _ (by omega) ⟨rfl,_,_,rfl⟩
   rw[Kk]at H;subst H h;refine⟨.tup [.int (a:Int),zT (t.getD a [])],[some (zq t),some (.ref 0),some (.int (a:Int)),some (zT (t.getD a [])),i,Y],_,?_,(yV (ρ1:=[some (zq t),some (.ref 0),some (.int (a:Int)),some (zT (t.getD a [])),y4,y]) rfl).trans ((zJ ((yJ (JM (zu rfl))).trans ?_)).trans jG),rfl,_,_,_,_,rfl⟩
   ·have:=J7 (A:=[O.dct ((kI t (pre t.length a 0)).map (yv t))]) (Ke f)
    rw[c]at this;exact this
   ·have:(ko (.tup ((t.getD a []).map W.int)) ((t.getD a []).map W.int).length).len=t.length:=d
    rw[this];exact e)
  (λρ B _=>by have:=J1 (A:=B) (ws:=t.map zT);rw[c]at this;exact this) t.length 0 [some (zq t),some (.ref 0),none,none,none,none] [.dct []] (by omega)
  ⟨rfl,_,_,_,_,rfl⟩
 subst H h;refine q9 ?_;unfold Sg;refine(zJ (qO (w:=.ref 0) (A1:=[.dct []]) rfl)).trans ?_;have hm:kH zm [some (zq t),some (.ref 0),none,none,none,none] [.dct []]=.ok (ko (zq t) t.length) [.dct []]:=by
  have:=JM (m:=qi 0) (ρ:=[some (zq t),some (.ref 0),none,none,none,none]) (A:=[.dct []]) (A1:=[.dct []]) (ws:=t.map zT) (zu rfl)
  rw[c]at this;exact this
 exact(zJ ((yJ hm).trans e)).trans (qF (ji (zu rfl)))
def ND:qS ((acc.map (yv t)).map (·.2))=true:=by
 induction acc with
 |nil=>rfl|cons p l i=>exact i
end
noncomputable abbrev B4:=(Nat×Nat)×(Nat×Nat)
section
variable {a b c e K:Nat}{p q r:Nat×Nat}
abbrev gy (t:bV)(K:Nat)(p:Nat×Nat):bV:=yx t K p.1 p.2
def ZC (t:bV)(K:Nat)(p q:Nat×Nat):Bool:=decide (jh t q=jh t p)&&!decide (gy t K q=gy t K p)
def gn (t:bV)(K:Nat)(p:Nat×Nat):List B4:=((kU t.length).filter (ZC t K p)).map λq=>(p,q)
def QL (t:bV)(K:Nat):List B4:=(kU t.length).flatMap (gn t K)
def bW (x:B4):W:=NS x.1.1 x.1.2 x.2.1 x.2.2
def Mg:Option B4->W
 |none=>.non|some x=>bW x
def W4:gn t K p=[]↔∀q∈kU t.length,ZC t K p q=false:=by
 unfold gn;rw[List.map_eq_nil_iff,List.filter_eq_nil_iff];exact⟨λh q H=>Bool.eq_false_iff.mpr (h q H),λh q H=>Bool.eq_false_iff.mp (h q H)⟩
def Ki:ZC t K p q=false↔(jh t q=jh t p->gy t K q=gy t K p):=by
 unfold ZC;rw[Bool.and_eq_false_iff,decide_eq_false_iff_not,Bool.not_eq_false',ak]
 constructor
 ·rintro(h|h) z
  ·exact absurd z h
  ·exact h
 ·intro h
  by_cases z:jh t q=jh t p
  ·exact .inr (h z)
  ·exact .inl z
def Cn (b:p∈kU t.length)(a:q∈kU t.length)(h:jh t p=jh t q)(h0:gn t K p=[]):gn t K q=[]:=by
 rw[W4]at h0 ⊢;intro r H;rw[Ki];intro z;rw[Ki.mp (h0 r H) (z.trans h.symm),Ki.mp (h0 q a) h.symm]
def AX:((kI t (kU t.length)).flatMap (gn t K)).head? =(QL t K).head?:=BD λ_ p _ H h h0=>Cn p H h h0
def hG (a:c<t.length)(he:e<t.length)(h0:∀q∈pre t.length c e,ZC t K p q=false)(b:ZC t K p (c,e)=true):(gn t K p).head? =some (p,(c,e)):=by
 obtain⟨r,h⟩:=pre_split a he;unfold gn;rw[h,List.filter_append,List.filter_eq_nil_iff.mpr λq H=>Bool.eq_false_iff.mp (h0 q H),bp,List.filter_cons_of_pos b]
 rfl
abbrev U8:Ex:=zo (ja (ku (zi jA G8 zw) (zi jz (zH ZD (zc zm (zc jn (zc gR zj)))) qx)) (zo (qv (zE (zc zW (zc zQ (zc jn (zc gR zj)))))) zB) zB) zB
abbrev KS:Ex:=zo (qY (kH kN) (jo 7 8) U8) zB
def Dw (L:qu t)(hK:qH t=(K:Int))(A:Hx):YC [zq t] A=.ok (Mg (QL t K).head?) A:=by
 have n8:=L.n8;have kb:=wB L;have D:(t.map zT).length=t.length:=ai ..;have ef:=BZ L;generalize P:kI t (kU t.length)=ps at ef;have hin:∀p∈ps,p.1<t.length/\p.2<t.length:=λp S=>WU.mp (Pl (t:=t) p (by rw[P];exact S))
 have J:=AX (t:=t) (K:=K);rw[P]at J;have go:=X0 (j:=Yf (ps.map (yv t))) (st:=turn (J6 1 2 3) (zo (zX 4 (zH ZD (zc zm (zc zW (zc zQ zj))))) (zo (qY (kH zm) (jo 5 6) KS) zB))) (N:=ps.length)
  (Q:=λr B=>B=[]/\∃x,(ps.flatMap (gn t K)).head? =some x/\r=bW x)
  (I:=λi ρ B=>B=[]/\(ps.take i).flatMap (gn t K)=[]/\∃Z X U y4 n l Y y,ρ=[some (zq t),Z,X,U,y4,n,l,Y,y])
  (λi ρ B hi ⟨f,o,Z,X,U,y4,n,l,Y,y,h⟩=>by
   subst f h;obtain⟨ha,hb⟩:=hin ps[i] (aP hi);generalize S:ps[i]=p at ha hb;obtain⟨a,b⟩:=p;dsimp only at ha hb;have hsp:ps=ps.take i++(a,b)::ps.drop (i+1):=by
    rw[<- S,<- bg hi,List.take_append_drop]
   refine⟨.tup [.int (at2 t a b),.tup [.int (a:Int),.int (b:Int)]],?_,?_⟩
   ·show some ((ps.map (yv t))[i]?.map λp=>W.tup [kW p.1,p.2])=_
    rw[ao,aa hi,S]
    rfl
   have hm:kH zm [some (zq t),some (.int (at2 t a b)),some (.int (a:Int)),some (.int (b:Int)),some (zq (yx t K a b)),n,l,Y,y] []=.ok (ko (zq t) t.length) []:=by
    have:=JM (m:=qi 0) (ρ:=[some (zq t),some (.int (at2 t a b)),some (.int (a:Int)),some (.int (b:Int)),some (zq (yx t K a b)),n,l,Y,y]) (A:=[]) (A1:=[]) (ws:=t.map zT) (zu rfl)
    rw[D]at this;exact this
   have e1:zX 4 (zH ZD (zc zm (zc zW (zc zQ zj)))) [some (zq t),some (.int (at2 t a b)),some (.int (a:Int)),some (.int (b:Int)),y4,n,l,Y,y] []=.ok (.nx [some (zq t),some (.int (at2 t a b)),some (.int (a:Int)),some (.int (b:Int)),some (zq (yx t K a b)),n,l,Y,y]) []:=(qO ((qL (qj (zu rfl) (qj (zu rfl) (qj (zu rfl) qI)))).trans (RU L hK ha hb []))).trans rfl;have go:=X0 (j:=ko (zq t) t.length) (st:=turn (jo 5 6) KS) (N:=t.length)
    (Q:=λr B=>B=[]/\∃x,(gn t K (a,b)).head? =some x/\r=bW x)
    (I:=λc ρ B=>B=[]/\(∀q∈pre t.length c 0,ZC t K (a,b) q=false)/\∃n l Y y,ρ=[some (zq t),some (.int (at2 t a b)),some (.int (a:Int)),some (.int (b:Int)),some (zq (yx t K a b)),n,l,Y,y])
    (λc ρ B hc ⟨f,hq0,n,l,Y,y,h⟩=>by
     subst f h;have hrl:=L.sq _ (yz hc);have T:((t.getD c []).map W.int).length=t.length:=by rw[ai,hrl]
     have hl3:(ko (.tup ((t.getD c []).map W.int)) ((t.getD c []).map W.int).length).len=t.length:=T;refine⟨.tup [.int (c:Int),zT (t.getD c [])],?_,?_⟩
     ·have:=J7 (A:=[]) (Ke hc)
      rw[D]at this;exact this
     have go:=X0 (j:=ko (.tup ((t.getD c []).map W.int)) ((t.getD c []).map W.int).length) (st:=turn (jo 7 8) U8) (N:=t.length)
      (Q:=λr B=>B=[]/\∃x,(gn t K (a,b)).head? =some x/\r=bW x)
      (I:=λe ρ B=>B=[]/\(∀q∈pre t.length c e,ZC t K (a,b) q=false)/\∃Y y,ρ=[some (zq t),some (.int (at2 t a b)),some (.int (a:Int)),some (.int (b:Int)),some (zq (yx t K a b)),some (.int (c:Int)),some (zT (t.getD c [])),Y,y])
      (λe ρ B he ⟨f,s,Y,y,h⟩=>by
       subst f h;refine⟨_,J7 (int_at (by omega)),?_⟩
       generalize H:([some (zq t),some (.int (at2 t a b)),some (.int (a:Int)),some (.int (b:Int)),some (zq (yx t K a b)),some (.int (c:Int)),some (zT (t.getD c [])),some (.int (e:Int)),some (.int (at2 t c e))]:En)=d;have ee:zi jA G8 zw d []=.ok (.bl (decide (at2 t c e=at2 t a b))) []:=by subst H;exact(zR (zu rfl) (zu rfl)).trans (QM _ _ [])
       have en:zi jz (zH ZD (zc zm (zc jn (zc gR zj)))) qx d []=.ok (.bl (!decide (yx t K c e=yx t K a b))) []:=by subst H;exact(zR ((qL (qj (zu rfl) (qj (zu rfl) (qj (zu rfl) qI)))).trans (RU L hK hc he [])) (zu rfl)).trans (gV _ _ _)
       have E:∀g:Ex,turn (jo 7 8) g (.tup [.int (e:Int),.int ((t.getD c []).getD e 0)]) [some (zq t),some (.int (at2 t a b)),some (.int (a:Int)),some (.int (b:Int)),some (zq (yx t K a b)),some (.int (c:Int)),some (zT (t.getD c [])),Y,y] []=g d []:=λg=>by subst H;exact yV rfl
       have u:ku (zi jA G8 zw) (zi jz (zH ZD (zc zm (zc jn (zc gR zj)))) qx) d []=.ok (.bl (ZC t K (a,b) (c,e))) []:=gp ee en;cases v:ZC t K (a,b) (c,e) with
       |false=>
        rw[v]at u;refine .inl ⟨d,[],(E _).trans ((zJ ((yL u).trans jG)).trans jG),rfl,λq' M=>?_,_,_,H.symm⟩;rw[Gw]at M;rcases cG.mp M with z|z
        ·exact s q' z
        ·rw[cE.mp z];exact v
       |true=>
        rw[v]at u;refine .inr ⟨NS a b c e,[],(E _).trans (qF ((wF u).trans (qF (ji ?_)))),rfl,((a,b),(c,e)),hG hc he s v,rfl⟩;subst H;exact W8 (qj (zu rfl) (qj (zu rfl) (qj (zu rfl) (qj (zu rfl) qI)))))
      (λρ B _=>by have:=J1 (A:=B) (ws:=(t.getD c []).map W.int);rw[T]at this ⊢;exact this) t.length 0 [some (zq t),some (.int (at2 t a b)),some (.int (a:Int)),some (.int (b:Int)),some (zq (yx t K a b)),some (.int (c:Int)),some (zT (t.getD c [])),Y,y] [] (by omega) ⟨rfl,hq0,_,_,rfl⟩
     have C:=(yJ (tw:=jo 7 8) (m1:=U8) (JM (m:=qi 6) (ρ:=[some (zq t),some (.int (at2 t a b)),some (.int (a:Int)),some (.int (b:Int)),some (zq (yx t K a b)),some (.int (c:Int)),some (zT (t.getD c [])),Y,y]) (A:=[]) (A1:=[]) (ws:=(t.getD c []).map W.int) (zu rfl)));rw[hl3]at C;have E:turn (jo 5 6) KS (.tup [.int (c:Int),zT (t.getD c [])]) [some (zq t),some (.int (at2 t a b)),some (.int (a:Int)),some (.int (b:Int)),some (zq (yx t K a b)),n,l,Y,y] []=KS [some (zq t),some (.int (at2 t a b)),some (.int (a:Int)),some (.int (b:Int)),some (zq (yx t K a b)),some (.int (c:Int)),some (zT (t.getD c [])),Y,y] []:=yV rfl;rcases go with ⟨d,B,e,f,s,y7',y8',h⟩|⟨r,B,e,hQ⟩
     ·subst f h
      rw[Kk]at s;exact .inl ⟨_,[],E.trans ((zJ (C.trans e)).trans jG),rfl,s,_,_,_,_,rfl⟩
     ·exact .inr ⟨r,B,E.trans (qF (C.trans e)),hQ⟩)
    (λρ B _=>by have:=J1 (A:=B) (ws:=t.map zT);rw[D]at this;exact this) t.length 0 [some (zq t),some (.int (at2 t a b)),some (.int (a:Int)),some (.int (b:Int)),some (zq (yx t K a b)),n,l,Y,y] [] (by omega) ⟨rfl,(λq s=>(by rw[show pre t.length 0 0=[] from rfl]at s;cases s)),_,_,_,_,rfl⟩
   have E:∀g:Ex,turn (J6 1 2 3) g (.tup [.int (at2 t a b),.tup [.int (a:Int),.int (b:Int)]]) [some (zq t),Z,X,U,y4,n,l,Y,y] []=g [some (zq t),some (.int (at2 t a b)),some (.int (a:Int)),some (.int (b:Int)),y4,n,l,Y,y] []:=λg=>yV rfl;rcases go with ⟨d,B,e,f,s,y5',y6',y7',y8',h⟩|⟨r,B,e,f,x,C,hr⟩
   ·subst f h
    refine .inl ⟨_,[],(E _).trans ((zJ e1).trans ((zJ ((yJ hm).trans e)).trans jG)),rfl,?_,_,_,_,_,_,_,_,_,rfl⟩;rw[List.take_succ,aa hi,S,bQ,o,bp];show [(a,b)].flatMap _=_;rw[List.flatMap_singleton];exact W4.mpr s
   ·subst f
    refine .inr ⟨r,[],(E _).trans ((zJ e1).trans (qF ((yJ hm).trans e))),rfl,x,?_,hr⟩;rw[hsp,bQ,o,bp,List.flatMap_cons,head?_append,C]
    rfl)
  (λρ B _=>by
   show some ((ps.map (yv t))[ps.length]?.map λp=>W.tup [kW p.1,p.2])=_;rw[aE (by rw[ai];exact ar _)]
   rfl) ps.length 0 [some (zq t),none,none,none,none,none,none,none,none] [] (by omega) ⟨rfl,rfl,_,_,_,_,_,_,_,_,rfl⟩
 have hit:Kd (zH Wd (zc zm zj)) [some (zq t),none,none,none,none,none,none,none,none] []=.ok (Yf (ps.map (yv t))) []:=by
  unfold Kd;dsimp only;have ec:zH Wd (zc zm zj) [some (zq t),none,none,none,none,none,none,none,none] []=.ok (.ref 0) [.dct (ps.map (yv t))]:=(qL (qj (zu rfl) qI)).trans (Bq (gX t) ef rfl ND);rw[ec,zO];exact ag ND
 have hlen:(Yf (ps.map (yv t))).len=ps.length:=ai ..;have w:=yJ (tw:=J6 1 2 3) (m1:=zo (zX 4 (zH ZD (zc zm (zc zW (zc zQ zj))))) (zo (qY (kH zm) (jo 5 6) KS) zB)) hit;rw[hlen]at w;rcases go with ⟨d,B,e,f,o,Z,X,U,y4,n,l,Y,y,h⟩|⟨r,B,e,f,x,C,rfl⟩
 ·subst f h
  rw[take_length]at o;rw[<- J,o];refine ZO (A1:=[]) (gX t) rfl (q9 ?_);unfold Xu;exact(zJ (w.trans e)).trans (qF (ji jb))
 ·subst f
  rw[<- J,C];refine ZO (A1:=[]) (gX t) rfl (q9 ?_);unfold Xu;exact qF (w.trans e)
end
section
variable {a b c e k K:Nat}{w:W}{p q:Nat×Nat}{L:List (Nat×Nat)}
def KH (K:Nat)(f:Nat->List (bV)):Hx:=((List.range K).map λk=>O.lst ((f k).map zq))++[.lst ((List.range K).map λk=>W.ref k)]
variable {f:Nat->List (bV)}
def Gy (h:k<K):(KH K f)[k]? =some (.lst ((f k).map zq)):=by
 unfold KH;rw[ah (by simpa using h)]
 simp[h]
def Nv:(KH K f)[K]? =some (.lst ((List.range K).map λk=>W.ref k)):=by
 unfold KH;rw[aq (by simp)]
 simp
def Av {xs:List (bV)}(h:k<K):(KH K f).set k (.lst (xs.map zq))=KH K (λj=>if j=k then xs else f j):=by
 unfold KH;rw[List.set_append_left _ _ (by simpa using h)]
 congr 1
 apply bx
 ·simp
 ·intro i a H
  rw[List.getElem_set]
  by_cases z:k=i
  ·subst z;simp
  ·rw[aj z]
   simp[Ne.symm z]
def OW (s u:bV):PyData.eqv (ZZ s) (ZZ u)=decide (s=u):=by rw[ZZ,ZZ,PyData.eqv,XT]
def notin_tab {s:bV}{xs:List (bV)}(h:A[k]? =some (.lst (xs.map zq))):Zc (zq s) (.ref k) A=.ok (.bl (!decide (s∈xs))) A:=by
 unfold Zc;rw[WV A 6 s,E3 h];dsimp only
 congr 2
 rw[List.any_map]
 congr 1
 rw[Bool.eq_iff_iff,List.any_eq_true,ak]
 constructor
 ·rintro⟨x,H,h⟩
  rw[Function.comp,OW,ak]at h;exact h ▸ H
 ·intro a
  exact⟨s,a,by rw[Function.comp,OW];exact aB rfl⟩
structure KF (t:bV)(K:Nat)(L:List (Nat×Nat))(f:Nat->List (bV)):Prop where
 of:∀k x,x∈f k->∃p∈L,jh t p=(k:Int)/\x=gy t K p
 on:∀p∈L,gy t K p∈f (jh t p).toNat
 nd:∀k,(f k).Nodup
 ln:∀k,(f k).length<=L.length
def KF.step (h:KF t K L f)(g:((jh t p).toNat:Int)=jh t p)(hn:gy t K p∉f (jh t p).toNat):KF t K (L++[p]) (λj=>if j=(jh t p).toNat then f (jh t p).toNat++[gy t K p] else f j):=by
 refine⟨λk x H=>?_,λq a=>?_,λk=>?_,λk=>?_⟩
 ·split at H
  ·rename_i z
   subst z;rcases cG.mp H with H|H
   ·obtain⟨q,c,b⟩:=h.of _ x H
    exact⟨q,a5 _ c,b⟩
   ·exact⟨p,aR _ (cE.mpr rfl),g.symm,cE.mp H⟩
  ·obtain⟨q,c,b⟩:=h.of _ x H
   exact⟨q,a5 _ c,b⟩
 ·rcases cG.mp a with a|a
  ·have:=h.on q a
   split
   ·rename_i z;rw[z]at this;exact a5 _ this
   ·exact this
  ·rw[cE.mp a,ag rfl]
   exact aR _ (cE.mpr rfl)
 ·split
  ·rw[List.nodup_append]
   refine⟨h.nd _,List.nodup_cons.mpr ⟨not_mem_nil,List.nodup_nil⟩,λx H y d e=>?_⟩;rw[cE.mp d]at e;exact hn (e ▸ H)
  ·exact h.nd k
 ·rw[ay,aU]
  have c:=h.ln k;have b:=h.ln (jh t p).toNat
  split
  ·rw[ay,aU];omega
  ·omega
def KF.skip (h:KF t K L f)(hn:gy t K p∈f (jh t p).toNat):KF t K (L++[p]) f:=
 ⟨λk x a=>let ⟨q,h1,b⟩:=h.of k x a;⟨q,a5 _ h1,b⟩,λq H=>by
  rcases cG.mp H with H|H
  ·exact h.on q H
  ·rw[cE.mp H];exact hn,h.nd,λk=>by rw[ay,aU];have:=h.ln k;omega⟩
abbrev Te:Ex:=zo (zX 4 (zH YE (zc zm (zc zW (zc zQ zj))))) (zo (ja (zi Zc qx (zi zD zw (zi zD (zi zD zm zW) zQ))) (zo (yw (j9 yA (zi zD zw (zi zD (zi zD zm zW) zQ)) qx)) zB) zB) zB)
def AF {y4:Option W}(i:qu t)(l:qH t=(K:Int))(d:a<t.length)(j:b<t.length)(h:KF t K L f)(w:L.length<1000):
  ∃n,Te [some (zq t),some (.ref K),some (.int (a:Int)),some (.int (b:Int)),y4] (KH K f)=.ok (.nx [some (zq t),some (.ref K),some (.int (a:Int)),some (.int (b:Int)),some (zq (yx t K a b))]) (KH K n)/\KF t K (L++[(a,b)]) n:=by
 obtain⟨Q,q⟩:=Qt i l d j;have E:zX 4 (zH YE (zc zm (zc zW (zc zQ zj)))) [some (zq t),some (.ref K),some (.int (a:Int)),some (.int (b:Int)),y4] (KH K f)=.ok (.nx [some (zq t),some (.ref K),some (.int (a:Int)),some (.int (b:Int)),some (zq (yx t K a b))]) (KH K f):=
  (qO ((qL (qj (zu rfl) (qj (zu rfl) (qj (zu rfl) qI)))).trans (FI i l d j _))).trans rfl
 generalize H:([some (zq t),some (.ref K),some (.int (a:Int)),some (.int (b:Int)),some (zq (yx t K a b))]:En)=ρ at E;have u:zi zD zw (zi zD (zi zD zm zW) zQ) ρ (KH K f)=.ok (.ref (at2 t a b).toNat) (KH K f):=by
  subst H;refine(zR (zu rfl) ((zR ((zR (zu rfl) (zu rfl)).trans (Q5 d)) (zu rfl)).trans (Kh (by rw[i.sq _ (yz d)];exact j)))).trans ?_
  show zD (.ref K) (.int (at2 t a b)) _=_;rw[<- Q];refine wR Nv ?_;rw[aI,ao,aT q]
  rfl
 have r:qi 4 ρ (KH K f)=.ok (zq (yx t K a b)) (KH K f):=by subst H;exact zu rfl
 have e:=(zR (g:=Zc) r u).trans (notin_tab (s:=yx t K a b) (Gy q))
 by_cases c:yx t K a b∈f (at2 t a b).toNat
 ·rw[aB c]at e
  exact⟨f,(zJ E).trans ((zJ ((yL e).trans jG)).trans (by subst H;exact jG)),h.skip (p:=(a,b)) c⟩
 ·rw[aC c]at e
  have v:=h.ln (at2 t a b).toNat;have o:=(JS (g:=yA) u (Gy q) r).trans (Wv (Gy q) (by rw[ai];omega))
  rw[<- List.map_singleton,<- aX,Av q]at o;refine⟨_,(zJ E).trans ((zJ ((wF e).trans ((zJ (Q3 o)).trans jG))).trans (by subst H;exact jG)),h.step (p:=(a,b)) Q c⟩
def E7 (q:qu t)(C:qH t=(K:Int)):∃f,QR [zq t] []=.ok (.ref K) (KH K f)/\KF t K (kU t.length) f:=by
 have n8:=q.n8;have Q:=wB q;have hm:=ZJ (m:=zH kX (zc zm zj)) (ρ:=[some (zq t),none,none,none,none]) (A:=[]) (k:=(K:Int)) ((qL (qj (zu rfl) qI)).trans ((YT q []).trans (by rw[C]))) (g9 (by omega))
 rw[aI]at hm;obtain⟨l,acc,B,e,_,g,d⟩:=YI (nl:=1) (cap:=[]) (tw:=zC 0) (ifs:=qc (.bl true)) (em:=zK (qb zj)) (N:=K)
  (I:=λi ρ acc B=>(∃y,ρ=[y])/\B=List.replicate i (.lst [])/\acc=(List.range i).map λc=>W.ref c) hm rfl
  (λi ρ acc B M ⟨⟨y,h⟩,g,d⟩=>by
   subst h d g;refine⟨_,_,wA M,rfl,.inl ⟨_,_,_,List.replicate (i+1) (.lst []),rfl,YR (y:=.ref i) ?_ (by rw[ai,aY];unfold qa;omega),⟨_,rfl⟩,rfl,by rw[bE,aX];rfl⟩⟩
   refine(yq qI).trans ?_;rw[bj,List.replicate_succ'])
  (λρ acc B _=>wy (by omega)) ⟨⟨none,rfl⟩,rfl,rfl⟩
 subst g d;have P:qt (zM 1 [] (qJ (zH kX (zc zm zj))) (zC 0) zS (zK (qb zj))) [some (zq t),none,none,none,none] []=.ok (.ref K) (KH K λ_=>[]):=by
  rw[gC e,bj]
  congr 2
  apply bx
  ·simp
  ·intro i T S;simp
 have v:∀a b,a<t.length->b<t.length->(pre t.length a b).length<1000:=λa b s r=>by
  rw[OL]
  have:a * t.length<=8 * 8:=Nat.mul_le_mul (by omega) n8
  omega
 have o:∀(x2 x3 x4:Option W)(B:Hx),qJ (mQ qE (qg zm)) [some (zq t),some (.ref K),x2,x3,x4] B=.ok (j8 0 t.length) B:=λx2 x3 x4 B=>by
  have hm:=ZJ (len_tab (t:=t) (i:=0) (ρ:=[some (zq t),some (.ref K),x2,x3,x4]) (A:=B) rfl) (g9 (n:=t.length) (by omega))
  rw[aI]at hm;exact hm
 obtain⟨l,B,E,f,g,hf,u,Y,y4,h⟩:=kY (j:=j8 0 t.length) (st:=turn (zC 2) (zo (qY (qJ (mQ qE (qg zm))) (zC 3) Te) zB)) (N:=t.length)
  (I:=λa ρ B=>∃f,B=KH K f/\KF t K (pre t.length a 0) f/\∃u Y y4,ρ=[some (zq t),some (.ref K),u,Y,y4])
  (λa ρ B s ⟨f,g,hf,u,Y,y4,h⟩=>by
   subst g h;obtain⟨l,B,E,w,g,H,J,D,h⟩:=kY (j:=j8 0 t.length) (st:=turn (zC 3) Te) (N:=t.length)
    (I:=λb ρ B=>∃f,B=KH K f/\KF t K (pre t.length a b) f/\∃Y y4,ρ=[some (zq t),some (.ref K),some (.int (a:Int)),Y,y4])
    (λb ρ B r ⟨f,g,hf,Y,y4,h⟩=>by
     subst g h;obtain⟨w,e,H⟩:=AF (y4:=y4) q C s r hf (v a b s r);rw[<- Gw]at H;exact⟨.int (0+(b:Int)),_,_,wA r,(yV (ρ1:=[some (zq t),some (.ref K),some (.int (a:Int)),some (.int (b:Int)),y4]) (by rw[Int.zero_add];rfl)).trans e,w,rfl,H,_,_,rfl⟩)
    (λρ B _=>wy (by omega)) t.length 0 [some (zq t),some (.ref K),some (.int (a:Int)),Y,y4] (KH K f) (by omega) ⟨f,rfl,hf,_,_,rfl⟩
   rw[Kk]at H;subst g h;exact⟨.int (0+(a:Int)),_,_,wA s,(yV (ρ1:=[some (zq t),some (.ref K),some (.int (a:Int)),Y,y4]) (by rw[Int.zero_add];rfl)).trans ((zJ ((yJ (o _ _ _ _)).trans E)).trans jG),w,rfl,H,_,_,_,rfl⟩)
  (λρ B _=>wy (by omega)) t.length 0 [some (zq t),some (.ref K),none,none,none] (KH K λ_=>[]) (by omega)
  ⟨_,rfl,⟨λk x L=>(by cases L),λp z=>(by rw[show pre t.length 0 0=[] from rfl]at z;cases z),λ_=>List.nodup_nil,λ_=>bK _⟩,_,_,_,rfl⟩
 subst g h;refine⟨f,?_,hf⟩;unfold QR Xq;refine q9 ?_;unfold T3;exact(zJ (qO P)).trans ((zJ ((yJ (o _ _ _ _)).trans E)).trans (qF (ji (zu rfl))))
def CL:QL t K=[]↔∀p∈kU t.length,∀q∈kU t.length,jh t q=jh t p->gy t K q=gy t K p:=by
 unfold QL;rw[List.flatMap_eq_nil_iff];exact⟨λh p a q H=>Ki.mp (W4.mp (h p a) q H),λh p a=>W4.mpr λq H=>Ki.mpr (h p a q H)⟩
def EX (r:qu t)(J:qH t=(K:Int))(A:Hx):QS [zq t] A=.ok (.bl (QL t K).isEmpty) A:=by
 have X:=wB r;obtain⟨f,Q,hf⟩:=E7 r J;refine ZO (A1:=KH K f) (gX t) rfl (q9 ?_);unfold Sr;have S:qd (zH QR (zc zm zj)) [some (zq t)] []=qd (qc (.ref K)) [some (zq t)] (KH K f):=by
  unfold qd;rw[(qL (qj (zu rfl) qI)).trans Q]
  rfl
 have U:=YX (cap:=[]) (ρ:=[some (zq t)]) (A:=KH K f) (m:=qc (.ref K)) (me:=mQ qE (qg zm)) (g:=λw=>match w with|.ref j=>.int ((f j).length:Int)|_=>.non) jb Nv (by simp;unfold qa;omega) (λw hw=>by
  obtain⟨k,H,rfl⟩:=cD.mp hw;have H:=cC.mp H;refine(yF (kF (w:=.ref k) (zu rfl) (by unfold zP;dsimp only;rw[Gy H]))).trans ?_
  unfold qE;rw[ai])
 have T:zM 1 [] (qd (zH QR (zc zm zj))) (zC 0) zS (zK (mQ qE (qg zm))) [some (zq t)] []=.ok (((List.range K).map λk=>((f k).length:Int)).map W.int) (KH K f):=by
  have:zM 1 [] (qd (zH QR (zc zm zj))) (zC 0) zS (zK (mQ qE (qg zm))) [some (zq t)] []=zM 1 [] (qd (qc (.ref K))) (zC 0) zS (zK (mQ qE (qg zm))) [some (zq t)] (KH K f):=by
   unfold zM;rw[S]
  rw[this,U,aO,aO]
  rfl
 have n:((List.range K).map λk=>((f k).length:Int))≠[]:=by
  intro z
  have:=congrArg List.length z
  simp at this;omega
 refine qF (ji ((zR ((yF T).trans (VE n)) jb).trans ((QM _ _ _).trans ?_)))
 congr 2
 rw[Bool.eq_iff_iff,ak,List.isEmpty_iff,CL];have B:∀k,k<K->∃p∈kU t.length,jh t p=(k:Int):=λk H=>by
  obtain⟨a,b,P,N,e⟩:=V3 r (v:=k) (by omega)
  exact⟨(a,b),WU.mpr ⟨P,N⟩,e⟩
 constructor
 ·intro E p i q s u
  have c:=hf.on p i;have d:=hf.on q s;rw[u]at d;have H:(jh t p).toNat<K:=(Qt r J (WU.mp i).1 (WU.mp i).2).2;have I:((f (jh t p).toNat).length:Int)<=1:=by
   rw[<- E];exact Y5 (cD.mpr ⟨_,cC.mpr H,rfl⟩)
  cases h:f (jh t p).toNat with
  |nil=>rw[h]at c;cases c|cons x l=>
   rw[h]at I c d;cases l with
   |nil=>rw[cE.mp c,cE.mp d]|cons y l=>simp at I;omega
 ·intro E
  have o:∀k,k<K->(f k).length=1:=λk H=>by
   obtain⟨p,i,L⟩:=B k H;have D:=hf.on p i;rw[L,aI]at D;have C:∀x∈f k,x=gy t K p:=λx M=>by
    obtain⟨q,s,eq,rfl⟩:=hf.of k x M;exact E p i q s (eq.trans L.symm)
   have nd:=hf.nd k;cases h:f k with
   |nil=>rw[h]at D;cases D|cons x l=>cases l with
    |nil=>rfl|cons y l=>
     rw[h]at nd C
     have:=C x (ax ..)
     have:=C y (au _ (ax ..))
     have:=(List.nodup_cons.mp nd).1
     exact absurd (by simp_all) this
  have hm:=YW n;obtain⟨k,H,e⟩:=cD.mp hm;rw[<- e,o k (cC.mp H)]
  rfl
end
def QE (r:R W):Option (List (bV)):=match r with
 |.ok (.ref n) A=>match A[n]? with
  |some (.lst us)=>Zs A us|_=>none
 |_=>none
abbrev pO (p:bV):O:=.lst (p.map jB)
theorem RJ:∀{qs:List (Nat×List W)}{m:Nat}{L:List (bV)},(∀i,i<qs.length->A[m+i]? =some (.lst (qs.getD i (0,[])).2))->Zs A ((List.range' m qs.length).map W.ref)=some L->qs.map (λq=>O.lst q.2)=L.map pO
 |[],_,_,_,h=>by cases h;rfl|q::qs,m,L,H,h=>by
  have h0:A[m]? =some (.lst q.2):=H 0 (zero_lt_succ _);rw[aV,bT,aL]at h;unfold Zs at h;rw[h0]at h;dsimp only at h
  split at h
  ·rename_i ks r E e
   cases h
   have:=RJ (qs:=qs) (m:=m+1) (λi a=>by
    have:=H (i+1) (by simpa using a)
    rw[show m+(i+1)=m+1+i by omega]at this
    simpa using this) e
   rw[aL,aL,this,Vt E]
  ·cases h
def PJ {f:Fn}{L:List (bV)}(h:QE (we f ws [])=some L)(A:Hx):we f ws A=.ok (.ref (A.length+L.length)) (A++L.map pO++[yH A.length L.length]):=by
 unfold we at h ⊢
 by_cases hn:qS ws=true
 ·rw[ag hn]at h ⊢
  cases hf:f ws [] with
  |ok w A1=>
   rw[hf]at h;cases w with
   |ref n=>
    dsimp only at h ⊢;cases hm:A1[n]? with
    |none=>rw[hm]at h;cases h|some o=>cases o with
     |lst rs=>
      rw[hm]at h;dsimp only at h ⊢;cases hi:Zm A1 rs with
      |none=>rw[hi]at h;cases h|some qs=>
       rw[hi]at h;dsimp only at h ⊢
       by_cases nd:(qs.map (·.1)).Nodup
       ·rw[ag nd]at h ⊢
        have e:qs.map (λq=>O.lst q.2)=L.map pO:=by
         unfold QE at h;dsimp only at h;rw[show([]++qs.map (λp=>O.lst p.2)++[yH ([]:Hx).length qs.length])[([]:Hx).length+qs.length]? =some (yH 0 qs.length) by
          rw[bp,aq (by simp)]
          simp]at h
         unfold yH at h;dsimp only at h;refine RJ (A:=[]++qs.map (λp=>O.lst p.2)++[yH 0 qs.length]) (m:=0) (λi hi=>?_) (by rw[<- bJ];simpa[yH] using h)
         rw[bp,zero_add,ah (by simpa using hi),ao,ae,aa hi]
         rfl
        have E:qs.length=L.length:=by have:=congrArg List.length e;simpa using this
        rw[e,E]
       ·rw[aj nd]at h;cases h
     |_=>rw[hm]at h;cases h
   |_=>cases h
  |exc y A1=>rw[hf]at h;cases h|bad=>rw[hf]at h;cases h
 ·rw[aj hn]at h;cases h
noncomputable def hH (k:Int)(L:List (bV)):List (bV):=L.map (·++[[k]])++L.flatMap λp=>(List.range p.length).map λi=>p.take i++[p.getD i []++[k]]++p.drop (i+1)
def PL:Nat->List (bV)
 |0=>[[]]|1=>[[]]|n+2=>hH ((n+1:Nat):Int) (PL (n+1))
abbrev SP (K:Nat):List (bV):=j4 (O:=yd) (PL K)
noncomputable def j6 (K:Nat)(p:bV):bX:=(p.zipIdx 1).foldl (λl q=>q.1.foldl (λl k=>l.set k.toNat (q.2:Int)) l) (List.replicate K 0)
def Yp (p:bV):List (Key×W):=(p.zipIdx 1).foldl (λd q=>q.1.foldl (λd k=>wj d (.inl k) (.int (q.2:Int))) d) [(.inl 0,.int 0)]
def N4 (d:List (Key×W))(k:Int):ck:=match kz (.inl k) d with
 |some (.int v)=>some v|_=>none
def Tf (K:Nat)(p:bV):Bool:=(j6 K p).length==K&&(p.all λq=>decide (q.length<=8)&&q.all λk=>decide (1<=k)&&decide (k<(K:Int)))&&decide (p.length<K)&&
 ((List.range K).all λk=>(decide ((j6 K p).getD k 0=0)==decide (k=0))&&decide (0<=(j6 K p).getD k 0)&&decide ((j6 K p).getD k 0<=p.length)&&N4 (Yp p) k==some ((j6 K p).getD k 0))&&((List.range (p.length+1)).all λv=>(j6 K p).contains (v:Int))
def hJ:((List.range 5).all λk=>QE (QQ [.int ((k+1:Nat):Int)] [])==some (PL (k+1)))=true:=by decide +kernel
def hU:QE (QQ [.int 6] [])=some (PL 6):=by decide +kernel
def hV:((List.range 5).all λk=>QE (gY [.int ((k+1:Nat):Int)] [])==some (SP (k+1)))=true:=by decide +kernel
def hW:QE (gY [.int 6] [])=some (SP 6):=by decide +kernel
def hX:((List.range 6).all λk=>decide (PL (k+1)).Nodup&&decide ((PL (k+1)).length<64)&&(PL (k+1)).all (Tf (k+1)))=true:=by decide +kernel
noncomputable def yG (t:bV)(l:bX):bV:=t.map λr=>r.map λv=>l.getD v.toNat 0
structure Zw (K:Nat)(p:bV):Prop where
 len:(j6 K p).length=K
 part:∀q∈p,q.length<=8/\∀k∈q,1<=k/\k<(K:Int)
 few:p.length<K
 zero:∀k,k<K->((j6 K p).getD k 0=0↔k=0)
 lo:∀k,k<K->0<=(j6 K p).getD k 0/\(j6 K p).getD k 0<=p.length
 val:∀k,k<K->kz (.inl (k:Int)) (Yp p)=some (.int ((j6 K p).getD k 0))
 all:∀v,v<=p.length->∃k,k<K/\(j6 K p).getD k 0=(v:Int)
def hZ {K:Nat}{p:bV}(h:Tf K p=true):Zw K p:=by
 unfold Tf at h;simp only[aw,all_eq_true,ak,aK,mem_range,List.contains_iff_mem]at h;obtain⟨⟨⟨⟨g,c⟩,f⟩,a⟩,d⟩:=h;refine⟨g,λq b=>⟨(c q b).1,λk H=>(c q b).2 k H⟩,f,λk H=>?_,λk H=>⟨(a k H).1.1.2,(a k H).1.2⟩,λk H=>?_,λv i=>?_⟩
 ·have:=(a k H).1.1.1
  rw[decide_eq_decide]at this;exact this
 ·have:=(a k H).2
  unfold N4 at this
  split at this
  ·rename_i v e
   rw[e];cases this
   rfl
  ·cases this
 ·have:=d v (by omega)
  obtain⟨k,H,e⟩:=bo this;exact⟨k,by omega,by rw[ae,aa H,e];rfl⟩
section
variable {C:Hx}{a b c e k K d:Nat}{w:W}{p:bV}
def Kf (H:qu t)(h:a<t.length)(d:b<t.length):at2 (yG t l) a b=l.getD (at2 t a b).toNat 0:=by
 have c:=H.sq _ (yz h);unfold at2 yG;rw[ae,ae,ao,aa h];have e:t.getD a []=t[a]:=by rw[ae,aa h];rfl
 rw[e]at c ⊢;show((t[a].map _)[b]?).getD 0=_;rw[ao,aa (by omega),ae (l:=t[a]),aa (by omega)]
 rfl
def Y0 (h:qu t)(d:qH t=(K:Int))(c:a<t.length)(H:b<t.length):(at2 t a b).toNat<K/\((at2 t a b).toNat:Int)=at2 t a b:=⟨(Qt h d c H).2,(Qt h d c H).1⟩
def Px {m:Nat}(d:qu t)(p:qH t=(K:Int))(w:m<K)(hzero:∀k,k<K->(l.getD k 0=0↔k=0))(o:∀k,k<K->0<=l.getD k 0/\l.getD k 0<=(m:Int))(j:∀v,v<=m->∃k,k<K/\l.getD k 0=(v:Int)):qu (yG t l)/\qH (yG t l)=((m+1:Nat):Int):=by
 have B:=Nd d;have hlen:(yG t l).length=t.length:=ai ..;have g:∀r∈yG t l,r.length=(yG t l).length:=λr s=>by
  obtain⟨q,y,rfl⟩:=cD.mp s;rw[ai,hlen];exact d.sq q y
 have i:∀v∈(yG t l).flatten,∃a b,a<t.length/\b<t.length/\v=l.getD (at2 t a b).toNat 0:=λv f=>by
  obtain⟨a,b,H,h,e⟩:=Qo g f;rw[hlen]at H h;exact⟨a,b,H,h,by rw[<- e,Kf d H h]⟩
 have n:∀v,v<=m->∃a b,a<t.length/\b<t.length/\at2 (yG t l) a b=(v:Int):=λv f=>by
  obtain⟨k,C,e⟩:=j v f;obtain⟨a,b,H,h,E⟩:=V3 d (v:=k) (by omega)
  exact⟨a,b,H,h,by rw[Kf d H h,E,aI,e]⟩
 have T:qu (yG t l):=by
  refine⟨by rw[hlen];exact d.n1,by rw[hlen];exact d.n8,g,λr s v f=>?_,λa b H h=>?_,λa b H h=>?_,λk ⟨v,f,z⟩=>?_⟩
  ·obtain⟨a,b,H,h,rfl⟩:=i v (List.mem_flatten.mpr ⟨r,s,f⟩)
   have:=o _ (Y0 d p H h).1
   rw[hlen];omega
  ·rw[hlen]at H h
   rw[Kf d H h,hzero _ (Y0 d p H h).1,<- d.dg a b H h]
   have:=(Y0 d p H h).2
   omega
  ·rw[hlen]at H h
   rw[Kf d H h,Kf d h H,d.sy a b H h]
  ·obtain⟨a,b,H,h,rfl⟩:=i v f
   have:=o _ (Y0 d p H h).1
   obtain⟨c,e,u,he,x⟩:=n k (by omega)
   obtain⟨r,s,_,hm⟩:=Y7 g (a:=c) (b:=e) (by rw[hlen];exact u) (by rw[hlen];exact he)
   rw[x]at hm;exact hm
 refine⟨T,?_⟩;obtain⟨a,b,H,h,x⟩:=i _ (W5 T);have D:=o _ (Y0 d p H h).1;obtain⟨c,e,u,he,E⟩:=n m (ar _);have A:=Gf T (a:=c) (b:=e) (by rw[hlen];exact u) (by rw[hlen];exact he)
 rw[E]at A;omega
def W0 (H:qu t)(a:qH t=(K:Int))(h:Zw K p):qu (yG t (j6 K p))/\qH (yG t (j6 K p))=((p.length+1:Nat):Int):=Px H a h.few h.zero h.lo h.all
def CU (d:List (Key×W))(k:Key)(v:W):(wj d k v).length<=d.length+1:=by
 unfold wj
 split
 ·rw[ai];omega
 ·rw[ay];exact ar _
def U7 (d:List (Key×W))(q:List Int×Nat):List (Key×W):=q.1.foldl (λd k=>wj d (.inl k) (.int (q.2:Int))) d
def QX {β:Type}{f:β->α->β}{l:List α}{x:β}(h:i<l.length):(l.take (i+1)).foldl f x=f ((l.take i).foldl f x) l[i]:=by
 rw[List.take_succ,aa h,foldl_append]
 rfl
def Am {kvs:List (Key×W)}{k:Int}{v:W}(h:A[d]? =some (.dct kvs))(H:kvs.length<1000):Zl (.ref d) (.int k) v A=.ok () (A.set d (.dct (wj kvs (.inl k) v))):=by
 unfold Zl;show(match A[d]? with|some (.dct kvs)=>if kvs.length<qa then R.ok () (A.set d (.dct (wj kvs (.inl k) v))) else .bad|_=>.bad)=_
 rw[h];dsimp only;rw[ag (by unfold qa;omega)]
def Ve {o':O}:(B++[o]).set B.length o'=B++[o']:=by rw[List.set_append_right _ _ (ar _),Nat.sub_self];rfl
def RQ {g:W->W->W->Hx->R Unit}{m mo mi:Ev}{A2 b a:Hx}{v o j:W}(d:m ρ A=.ok v A1)(c:mo ρ A1=.ok o A2)(H:mi ρ A2=.ok j b)(h:g o j v b=.ok () a):yC g m mo mi ρ A=.ok (.nx ρ) a:=by
 unfold yC;rw[d,zO,c,zO,H,zO,h]
 rfl
def OQ {q:bX}{m:Ev}(h:m ρ A=.ok (jB q) A):qd m ρ A=.ok ⟨λA i=>(zP (jB q) A).map λws=>ws[i]?,q.length⟩ A:=by
 have:=QZ (m:=m) (ρ:=ρ) (A:=A) (ws:=q.map W.int) h
 rw[ai]at this;exact this
abbrev Mp:Ex:=zo (qY (qd qx) (zC 5) (zo (yC Zl zQ zW jn) zB)) zB
def Co (o:B[i]? =some (pO p))(J:p.length<=8)(u:∀q∈p,q.length<=8):∃Y y4 y,qY (Gi (qi 1)) (jo 3 4) Mp [some (zq t),some (.ref i),some (.ref B.length),none,none,none] (B++[.dct [(.inl 0,.int 0)]])=.ok (.nx [some (zq t),some (.ref i),some (.ref B.length),Y,y4,y]) (B++[.dct (Yp p)]):=by
 have D:i<B.length:=wQ o;have z:(p.zipIdx 1).length=p.length:=List.length_zipIdx;have a:∀X:O,(B++[X])[i]? =some (pO p):=λX=>ye o;have H:∀X:O,zP (.ref i) (B++[X])=some (p.map jB):=λX=>by unfold zP;dsimp only;rw[a X]
 obtain⟨n,x,e,l,Y,y4,y,h⟩:=kY (j:=Jc (.ref i) p.length) (st:=turn (jo 3 4) Mp) (N:=p.length)
  (I:=λj ρ C=>(C=B++[.dct (((p.zipIdx 1).take j).foldl U7 [(.inl 0,.int 0)])]/\(((p.zipIdx 1).take j).foldl U7 [(.inl 0,.int 0)]).length<=1+8 * j)/\∃Y y4 y,ρ=[some (zq t),some (.ref i),some (.ref B.length),Y,y4,y])
  (λj ρ C c ⟨⟨g,v⟩,Y,y4,y,h⟩=>by
   subst g h;generalize f:((p.zipIdx 1).take j).foldl U7 [(.inl 0,.int 0)]=d0 at v;have s:=u _ (aP c);have E:(p.zipIdx 1)[j]'(by rw[z];exact c)=(p[j],j+1):=by simp[add_comm]
   obtain⟨n,x,e,⟨l,b⟩,r,h⟩:=kY (j:=⟨λA i=>(zP (jB p[j]) A).map λws=>ws[i]?,p[j].length⟩) (st:=turn (zC 5) (zo (yC Zl (qi 3) (qi 2) (qi 5)) zB)) (N:=p[j].length)
    (I:=λm ρ C=>(C=B++[.dct ((p[j].take m).foldl (λd k=>wj d (.inl k) (.int ((j+1:Nat):Int))) d0)]/\((p[j].take m).foldl (λd k=>wj d (.inl k) (.int ((j+1:Nat):Int))) d0).length<=d0.length+m)/\∃y,ρ=[some (zq t),some (.ref i),some (.ref B.length),some (.int ((j+1:Nat):Int)),some (jB p[j]),y])
    (λm ρ C hm ⟨⟨g,b⟩,y,h⟩=>by
     subst g h;refine⟨.int p[j][m],[some (zq t),some (.ref i),some (.ref B.length),some (.int ((j+1:Nat):Int)),some (jB p[j]),some (.int p[j][m])],_,?_,(yV (ρ1:=[some (zq t),some (.ref i),some (.ref B.length),some (.int ((j+1:Nat):Int)),some (jB p[j]),some (.int p[j][m])]) rfl).trans ((zJ (RQ (zu rfl) (zu rfl) (zu rfl) (Am jx (by omega)))).trans jG),⟨?_,?_⟩,_,rfl⟩
     ·show some ((p[j].map W.int)[m]?)=_
      rw[ao,aa hm]
      rfl
     ·rw[Ve,QX hm]
     ·rw[QX hm]
      have:=CU ((p[j].take m).foldl (λd k=>wj d (.inl k) (.int ((j+1:Nat):Int))) d0) (.inl p[j][m]) (.int ((j+1:Nat):Int))
      omega)
    (λρ C _=>by
     show some ((p[j].map W.int)[p[j].length]?)=_;rw[aE (by rw[ai];exact ar _)]) p[j].length 0 [some (zq t),some (.ref i),some (.ref B.length),some (.int ((j+1:Nat):Int)),some (jB p[j]),y] (B++[.dct d0]) (by omega) ⟨⟨rfl,by simp⟩,_,rfl⟩
   rw[take_length]at l b;subst l h;have hit:=OQ (q:=p[j]) (m:=qi 4) (ρ:=[some (zq t),some (.ref i),some (.ref B.length),some (.int ((j+1:Nat):Int)),some (jB p[j]),y]) (A:=B++[.dct d0]) (zu rfl);refine⟨.tup [.int ((j+1:Nat):Int),jB p[j]],_,_,?_,(yV (ρ1:=[some (zq t),some (.ref i),some (.ref B.length),some (.int ((j+1:Nat):Int)),some (jB p[j]),y]) rfl).trans ((zJ ((yJ hit).trans e)).trans jG),⟨?_,?_⟩,_,_,_,rfl⟩
   ·unfold Jc
    dsimp only;rw[H];dsimp only;unfold atEnd;rw[ao,aa c]
    rfl
   ·rw[QX (by rw[z];exact c),f,E]
    rfl
   ·rw[QX (by rw[z];exact c),f,E]
    show List.length (p[j].foldl (λd k=>wj d (.inl k) (.int ((j+1:Nat):Int))) d0)<=_;omega)
  (λρ C ⟨⟨g,_⟩,_⟩=>by
   subst g;unfold Jc;dsimp only;rw[H];dsimp only;unfold atEnd;rw[aE (by rw[ai];exact ar _)]
   dsimp only;rw[ag (ai ..)]) p.length 0 [some (zq t),some (.ref i),some (.ref B.length),none,none,none] (B++[.dct [(.inl 0,.int 0)]]) (by omega) ⟨⟨rfl,by simp⟩,_,_,_,rfl⟩
 subst h;refine⟨Y,y4,y,(yJ (j:=Jc (.ref i) p.length) ?_).trans (e.trans ?_)⟩
 ·unfold Gi
  rw[zu (w:=.ref i) rfl,zO];rw[H];show R.ok (Jc (.ref i) (p.map jB).length) _=_;rw[ai]
 ·rw[l.1,List.take_of_length_le (by rw[z];exact ar _)]
  rfl
def Ul {i0:Nat}{cs ds:b9}(H:qu t)(h0:ρ[i0]? =some (some (zq t)))(e:∀(r:bX)(v:Nat),(v:Int)<qH t->me (some (.int (v:Int))::ds.map λi=>((some (zT r)::cs.map λi=>(ρ[i]?).join)[i]?).join) A=.ok (.int (l.getD v 0)) A):
  mQ jm (zM 1 cs (qd (qi i0)) (zC 0) zS (zK (mQ jm (zM 1 ds (qd zm) (zC 0) zS (zK me))))) ρ A=.ok (zq (yG t l)) A:=by
 have n8:=H.n8;have E:=JO (cap:=cs) (A:=A) (ρ:=ρ) (ws:=t.map zT) (me:=mQ jm (zM 1 ds (qd zm) (zC 0) zS (zK me))) (g:=λw=>match w with|.tup ws=>.tup (ws.map λw=>match w with|.int v=>.int (l.getD v.toNat 0)|_=>.non)|_=>.non) (zu h0) (by rw[ai];unfold qa;omega) (λw hw=>by
  obtain⟨r,a,rfl⟩:=cD.mp hw;have d:=H.sq r a;exact Zi (JO (cap:=ds) (ws:=r.map W.int) (me:=me) (g:=λw=>match w with|.int v=>.int (l.getD v.toNat 0)|_=>.non) (zu (i:=0) rfl) (by rw[ai];unfold qa;omega) (λw hw=>by
   obtain⟨v,b,rfl⟩:=cD.mp hw;have c:=H.lo r a v b;have h:v<qH t:=by
    have j:=Y5 b;have f:=Y5 (cD.mpr ⟨r,a,rfl⟩:kQ r∈t.map kQ);unfold qH;omega
   obtain⟨k,rfl⟩:=aZ c.1;exact e r k h)))
 refine(Zi E).trans ?_;rw[aO];unfold zq yG;rw[aO]
 congr 2
 refine ba λr _=>?_;show W.tup ((r.map W.int).map _)=zT _;unfold zT;rw[aO,aO]
 rfl
def h7 (H:qu t)(b:qH t=(K:Int))(h:Zw K p)(hd:A[d]? =some (.dct (Yp p))):Wo [zq t,.ref d] A=.ok (zq (yG t (j6 K p))) A:=by
 unfold Wo XM;refine q9 ?_;unfold Rj;refine qF (ji (Ul H rfl λ_ k a=>?_));refine(zR (zu (i:=1) rfl) (zu (i:=0) rfl)).trans ?_;show Kr (.ref d) (.int (k:Int)) A=_;unfold Kr;show(match A[d]? with|some (.dct kvs)=>(match kz (.inl (k:Int)) kvs with|some w=>R.ok w A|none=>.bad)|_=>.bad)=_
 rw[hd];dsimp only;rw[h.val k (by omega)]
def CS (H:qu t)(c:qH t=(K:Int))(h:Zw K p)(b:A[i]? =some (pO p)):Y4 [zq t,.ref i] A=.ok (zq (yG t (j6 K p))) (A++[.dct (Yp p)]):=by
 have d:=wB H;have w:=h.few;obtain⟨Y,y4,y,e⟩:=Co (t:=t) b (by omega) (λq a=>(h.part q a).1)
 unfold Y4 Vq;refine q9 ?_;unfold OK;have E:G7 (qc (.int 0)) (qc (.int 0)) [some (zq t),some (.ref i),none,none,none,none] A=.ok (.ref A.length) (A++[.dct [(.inl 0,.int 0)]]):=by
  unfold G7;rw[jb,zO,jb,zO];show(match some (Sum.inl 0:Key),(A++[O.dct []])[A.length]? with|some k,some (.dct [])=>R.ok (W.ref A.length) ((A++[O.dct []]).set A.length (.dct [(k,.int 0)]))|_,_=>.bad)=_
  rw[jx];show R.ok (W.ref A.length) ((A++[O.dct []]).set A.length (.dct [(.inl 0,.int 0)]))=_;rw[Ve]
 refine(zJ (qO E)).trans ((zJ e).trans (qF (ji ((qL (qj (zu rfl) (qj (zu rfl) qI))).trans (h7 H c h jx)))))
noncomputable def U0 (l:bX)(q:List Int×Nat):bX:=q.1.foldl (λl k=>l.set k.toNat (q.2:Int)) l
theorem Vw {v:Int}:∀(q l:bX),(q.foldl (λl k=>l.set k.toNat v) l).length=l.length
 |[],l=>rfl|k::q,l=>by rw[foldl_cons,Vw q];exact bP
theorem map_set {k:Nat}{v:Int}:(l.map W.int).set k (.int v)=(l.set k v).map W.int:=by rw[List.map_set]
def h9 {k:Nat}{v:Int}(h:A[n]? =some (.lst (l.map W.int)))(H:k<l.length)(a:l.length<=8):yu (.ref n) (.int (k:Int)) (.int v) A=.ok () (A.set n (.lst ((l.set k v).map W.int))):=by
 refine(Vs h (by rw[ai];exact H)).trans ?_
 rw[map_set]
abbrev My:Ex:=zo (yC yu (zi qB zQ zV) zW qx) zB
abbrev Ms:Ex:=zo (qY (qd (zi zD zw zQ)) (zC 4) My) zB
def HN (D:B[i]? =some (pO p))(h:Zw K p)(J:K<=8):∃y y4,qY (qJ (mQ qE (qg zw))) (zC 3) Ms [some (zq t),some (.ref i),some (.ref B.length),none,none] (B++[.lst ((List.replicate K (0:Int)).map W.int)])=.ok (.nx [some (zq t),some (.ref i),some (.ref B.length),y,y4]) (B++[.lst ((j6 K p).map W.int)]):=by
 have r:=h.few;have z:(p.zipIdx 1).length=p.length:=List.length_zipIdx;have a:∀X:O,(B++[X])[i]? =some (pO p):=λX=>ye D;obtain⟨f,M,e,⟨d,_⟩,y,y4,H⟩:=kY (j:=j8 0 p.length) (st:=turn (zC 3) Ms) (N:=p.length)
  (I:=λj ρ C=>(C=B++[.lst ((((p.zipIdx 1).take j).foldl U0 (List.replicate K 0)).map W.int)]/\(((p.zipIdx 1).take j).foldl U0 (List.replicate K 0)).length=K)/\∃y y4,ρ=[some (zq t),some (.ref i),some (.ref B.length),y,y4])
  (λj ρ C b ⟨⟨g,o⟩,y,y4,H⟩=>by
   subst g H;generalize c:((p.zipIdx 1).take j).foldl U0 (List.replicate K 0)=d0 at o;have x:=h.part _ (aP b);have E:(p.zipIdx 1)[j]'(by rw[z];exact b)=(p[j],j+1):=by simp[add_comm]
   obtain⟨f,M,e,d,Y,H⟩:=kY (j:=⟨λA i=>(zP (jB p[j]) A).map λws=>ws[i]?,p[j].length⟩) (st:=turn (zC 4) My) (N:=p[j].length)
    (I:=λm ρ C=>C=B++[.lst (((p[j].take m).foldl (λl k=>l.set k.toNat ((j+1:Nat):Int)) d0).map W.int)]/\∃y4,ρ=[some (zq t),some (.ref i),some (.ref B.length),some (.int (j:Int)),y4])
    (λm ρ C hm ⟨g,y4,H⟩=>by
     subst g H;have P:=x.2 _ (aP hm);obtain⟨k,s⟩:=aZ (show 0<=p[j][m] by omega)
     have hlen:=Vw (v:=((j+1:Nat):Int)) (p[j].take m) d0;refine⟨.int p[j][m],[some (zq t),some (.ref i),some (.ref B.length),some (.int (j:Int)),some (.int p[j][m])],_,?_,(yV (ρ1:=[some (zq t),some (.ref i),some (.ref B.length),some (.int (j:Int)),some (.int p[j][m])]) rfl).trans ((zJ (RQ (v:=.int ((j+1:Nat):Int)) ((zR (zu rfl) jb).trans rfl) (zu rfl) (zu rfl) (by rw[s];exact h9 (k:=k) jx (by rw[hlen];omega) (by rw[hlen];omega)))).trans jG),?_,_,rfl⟩
     ·show some ((p[j].map W.int)[m]?)=_
      rw[ao,aa hm]
      rfl
     ·rw[Ve,QX hm,s]
      rfl)
    (λρ C _=>by
     show some ((p[j].map W.int)[p[j].length]?)=_;rw[aE (by rw[ai];exact ar _)]) p[j].length 0 [some (zq t),some (.ref i),some (.ref B.length),some (.int (j:Int)),y4] (B++[.lst (d0.map W.int)]) (by omega) ⟨rfl,_,rfl⟩
   rw[take_length]at d;subst d H;have hit:=OQ (q:=p[j]) (m:=zi zD zw zQ) (ρ:=[some (zq t),some (.ref i),some (.ref B.length),some (.int (j:Int)),y4]) (A:=B++[.lst (d0.map W.int)]) ((zR (zu rfl) (zu rfl)).trans (wR (a _) (by rw[ao,aa b];rfl)))
   refine⟨.int (0+(j:Int)),_,_,wA b,(yV (ρ1:=[some (zq t),some (.ref i),some (.ref B.length),some (.int (j:Int)),y4]) (by rw[Int.zero_add];rfl)).trans ((zJ ((yJ hit).trans e)).trans jG),⟨?_,?_⟩,_,_,rfl⟩
   ·rw[QX (by rw[z];exact b),c,E]
    rfl
   ·rw[QX (by rw[z];exact b),c,E]
    show List.length (p[j].foldl _ d0)=_;rw[Vw];exact o)
  (λρ C _=>wy (by omega)) p.length 0 [some (zq t),some (.ref i),some (.ref B.length),none,none] (B++[.lst ((List.replicate K (0:Int)).map W.int)]) (by omega) ⟨⟨rfl,by simp⟩,_,_,rfl⟩
 subst H;refine⟨y,y4,(yJ (j:=j8 0 p.length) ?_).trans (e.trans ?_)⟩
 ·have u:zP (.ref i) (B++[O.lst ((List.replicate K (0:Int)).map W.int)])=some (p.map jB):=by unfold zP;dsimp only;rw[a]
  have L:mQ qE (qg zw) [some (zq t),some (.ref i),some (.ref B.length),none,none] (B++[O.lst ((List.replicate K (0:Int)).map W.int)])=.ok (.int (p.length:Int)) (B++[O.lst ((List.replicate K (0:Int)).map W.int)]):=by
   rw[yF (kF (w:=.ref i) (zu rfl) u)];unfold qE;rw[ai]
  have hm:=ZJ L (g9 (n:=p.length) (by omega))
  rw[aI]at hm;exact hm
 ·rw[d,List.take_of_length_le (by rw[z];exact ar _)]
  rfl
def ia (H:qu t)(b:qH t=(K:Int))(h:Zw K p)(a:A[i]? =some (pO p)):∃B,Qe [zq t,.ref i] A=.ok (zq (yG t (j6 K p))) B/\Ext A B:=by
 have n8:=H.n8;have c:=wB H;have x1:Ext A (A++[.lst [.int 0]]):=Ext.one;obtain⟨y,y4,e⟩:=HN (t:=t) (x1.at a) h (by omega)
 have E:zi je (qb (zc zL zj)) (zH kX (zc zm zj)) [some (zq t),some (.ref i),none,none,none] A=.ok (.ref (A++[O.lst [.int 0]]).length) (A++[.lst [.int 0]]++[.lst ((List.replicate K (0:Int)).map W.int)]):=by
  refine(zR (yq (qj jb qI)) ((qL (qj (zu rfl) qI)).trans ((YT H _).trans (by rw[b])))).trans ?_
  unfold je;dsimp only;rw[jx];dsimp only;rw[ag (by rw[g9 (by omega),aI];simp;unfold qa;omega),aI,rep1,map_const',aY,List.map_replicate]
 generalize A++[O.lst [.int 0]]=A1 at e E x1;have hn:(A1++[O.lst ((j6 K p).map W.int)])[A1.length]? =some (.lst ((j6 K p).map W.int)):=jx;refine⟨A1++[.lst ((j6 K p).map W.int)],?_,x1.trans Ext.one⟩;generalize A1.length=m at e E hn;generalize A1++[O.lst ((j6 K p).map W.int)]=A2 at e hn;unfold Qe XQ;refine q9 ?_;unfold Rb;refine(zJ (qO E)).trans ((zJ e).trans (qF (ji ?_)));refine Ul H rfl λ_ k d=>(zR (zu (i:=1) rfl) (zu (i:=0) rfl)).trans (wR hn ?_);rw[ao,aa (by rw[h.len];omega),ae,aa (by rw[h.len];omega)]
 rfl
end
noncomputable abbrev Pg:=bV
section
variable {C:Hx}{e k K m:Nat}{w:W}{p:Pg}{L:List Pg}{q:Pg->Bool}
def ib (H:1<=K)(h:K<=6):QE (QQ [.int (K:Int)] [])=some (PL K):=by
 by_cases e:K=6
 ·subst e;exact hU
 ·have:=cF.mp hJ (K-1) (cC.mpr (by omega))
  rw[show K-1+1=K by omega]at this
  exact aK.mp this
def ic (H:1<=K)(h:K<=6):QE (gY [.int (K:Int)] [])=some (SP K):=by
 by_cases e:K=6
 ·subst e;exact hW
 ·have:=cF.mp hV (K-1) (cC.mpr (by omega))
  rw[show K-1+1=K by omega]at this
  exact aK.mp this
def Uj (a:1<=K)(H:K<=6):(PL K).Nodup/\(PL K).length<64/\∀p∈PL K,Zw K p:=by
 have:=cF.mp hX (K-1) (cC.mpr (by omega))
 rw[show K-1+1=K by omega,aw,aw,ak,ak]at this
 exact⟨this.1.1,this.1.2,λp h=>hZ (cF.mp this.2 p h)⟩
def Fm:j4 (O:=yd) (L.filter q)=(j4 (O:=yd) L).filter q:=
 VJ (O:=yd) ((g8 _).trans ((g8 (O:=yd) L).filter q).symm) (Wl _) ((Wl (O:=yd) L).filter q)
def Rx:(((List.range L.length).filter λi=>q (L.getD i [])).map λi=>L.getD i [])=L.filter q:=by
 have h:L=(List.range L.length).map λi=>L.getD i []:=(GA L).symm
 conv=>rhs;rw[h]
 rw[List.filter_map]
 rfl
structure Ls (L:List Pg)(a0 r:Nat)(C:Hx):Prop where
 r:C[r]? =some (yH a0 L.length)
 at_:∀i,i<L.length->C[a0+i]? =some (pO (L.getD i []))
def Ls.mono {a0 r:Nat}(h:Ls L a0 r A)(x:Ext A B):Ls L a0 r B:=⟨x.at h.r,λi H=>x.at (h.at_ i H)⟩
def Ls.new:Ls L A.length (A.length+L.length) (A++L.map pO++[yH A.length L.length]):=by
 refine⟨?_,λi h=>?_⟩
 ·rw[aq (by simp)]
  simp
 ·rw[aN,aq (by omega),show A.length+i-A.length=i by omega,ah (by simpa using h),ao,ae,aa h]
  rfl
def OI {a0 r:Nat}{ifs:Ev}(h:Ls L a0 r C)(j:L.length<1000)(hm:mi ρ A=.ok ⟨λA i=>(zP (.ref r) A).map λws=>ws[i]?,L.length⟩ C)
  (f:∀i B,i<L.length->Ext C B->∃b,ifs (some (.ref (a0+i))::cap.map λi=>(ρ[i]?).join) B=.ok (.bl (q (L.getD i []))) b/\Ext B b):
  ∃B,zM 1 cap mi (zC 0) ifs (zK zm) ρ A=.ok (((List.range L.length).filter λi=>q (L.getD i [])).map λi=>W.ref (a0+i)) B/\Ext C B:=by
 obtain⟨a,acc,B,e,_,H,x⟩:=YI (nl:=1) (cap:=cap) (mi:=mi) (ρ:=ρ) (A:=A) (A1:=C) (tw:=zC 0) (ifs:=ifs) (em:=zK zm) (N:=L.length)
  (I:=λi a acc B=>(∃y,a=y::cap.map λi=>(ρ[i]?).join)/\acc=((List.range i).filter λi=>q (L.getD i [])).map (λi=>W.ref (a0+i))/\Ext C B) hm rfl
  (λi a acc B g ⟨⟨y,d⟩,H,x⟩=>by
   subst d H;obtain⟨b,e,X⟩:=f i B g x;have hw:((zP (.ref r) B).map λws=>ws[i]?)=some (some (W.ref (a0+i))):=O9 (x.at h.r) (by rw[ao,aT g];rfl)
   have hlen:(((List.range i).filter λi=>q (L.getD i [])).map (λi=>W.ref (a0+i))).length<qa:=by
    rw[ai]
    have:=bG (λi=>q (L.getD i [])) (List.range i)
    rw[aY]at this;unfold qa;omega
   refine⟨W.ref (a0+i),some (.ref (a0+i))::cap.map (λi=>(ρ[i]?).join),hw,rfl,?_⟩;rw[bE,List.filter_append,aX];cases c:q (L.getD i []) with
   |true=>
    rw[c]at e;refine .inl ⟨b,_,_,b,e,YR (zu rfl) hlen,⟨_,rfl⟩,?_,x.trans X⟩;rw[show([i].filter λi=>q (L.getD i []))=[i] from List.filter_cons_of_pos (p:=λi=>q (L.getD i [])) c]
    rfl
   |false=>
    rw[c]at e;refine .inr ⟨b,e,⟨_,rfl⟩,?_,x.trans X⟩;rw[show([i].filter λi=>q (L.getD i []))=[] from List.filter_cons_of_neg (p:=λi=>q (L.getD i [])) (by rw[c];intro z;cases z)]
    simp)
  (λa acc B ⟨_,_,x⟩=>Nj (x.at h.r) (by simp)) ⟨⟨none,rfl⟩,rfl,Ext.refl⟩
 subst H;exact⟨B,e,x⟩
def VH {a0 r:Nat}{f:Ev}(h:f ρ A=.ok (.ref r) C)(H:C[r]? =some (yH a0 m)):qd f ρ A=.ok ⟨λA i=>(zP (.ref r) A).map λws=>ws[i]?,m⟩ C:=by
 have:=W7 h (show C[r]? =some (.lst ((List.range m).map λi=>W.ref (a0+i))) from H)
 rw[ai,aY]at this;exact this
def ie (p:Pg):Jr (p.map jB)=some p:=by
 induction p with
 |nil=>rfl|cons x p i=>
  have h:intsOf (x.map W.int)=some x:=by
   clear i
   induction x with
   |nil=>rfl|cons v x i=>rw[aL,intsOf,i]
  rw[aL];unfold jB Jr;rw[h,show Jr (p.map λk=>W.tup (k.map W.int))=some p from i]
theorem Om {a0:Nat}:∀{is:b9},(∀i∈is,A[a0+i]? =some (pO (L.getD i [])))->Zs A (is.map λi=>W.ref (a0+i))=some (is.map λi=>L.getD i [])
 |[],_=>rfl|i::is,h=>by
  rw[aL];unfold Zs;rw[h i (ax ..)];dsimp only;rw[ie,Om λj H=>h j (au _ H)]
  rfl
def CO {f:Fn}{rs:List W}{ps:List (Nat×List W)}(hn:qS ws=true)(h:f ws []=.ok (.ref n) A1)(a:A1[n]? =some (.lst rs))(H:Zm A1 rs=some ps)(nd:(ps.map (·.1)).Nodup)(A:Hx):
  we f ws A=.ok (.ref (A.length+ps.length)) (A++ps.map (λp=>O.lst p.2)++[yH A.length ps.length]):=by
 unfold we;rw[ag hn,h];dsimp only;rw[a];dsimp only;rw[H];dsimp only;rw[ag nd]
def ig (p:Pg):qS (p.map jB)=true:=by
 induction p with
 |nil=>rfl|cons x p i=>
  show((jB x).nr&&qS (p.map jB))=true;rw[i,show(jB x).nr=true from Oq x]
  rfl
theorem OF {f:Pg->Nat}:∀{ks:List Pg},(∀k∈ks,A[f k]? =some (pO k))->Zm A (ks.map λk=>W.ref (f k))=some (ks.map λk=>(f k,k.map jB))
 |[],_=>rfl|k::ks,h=>by
  rw[aL];unfold Zm;rw[h k (ax ..)];dsimp only;rw[ag (ig k),OF λx H=>h x (au _ H)]
  rfl
def sorted_out {f:Fn}{a0:Nat}(hn:qS ws=true)(o:∀i,i<L.length->C[a0+i]? =some (pO (L.getD i [])))(nd:L.Nodup)(g:L.length<64)
  (h:∀w t,Za (.ref C.length) (C++[.lst (((List.range L.length).filter λi=>q (L.getD i [])).map λi=>W.ref (a0+i))])=.ok w t->f ws []=.ok w t)(A:Hx):
  we f ws A=.ok (.ref (A.length+(j4 (O:=yd) (L.filter q)).length)) (A++(j4 (O:=yd) (L.filter q)).map pO++[yH A.length (j4 (O:=yd) (L.filter q)).length]):=by
 generalize s:((List.range L.length).filter λi=>q (L.getD i []))=is at h;have hf:(is.map λi=>L.getD i [])=L.filter q:=by rw[<- s];exact Rx
 have l:∀i∈is,i<L.length:=λi h=>by rw[<- s]at h;exact cC.mp (List.mem_filter.mp h).1
 have p:=Om (A:=C++[.lst (is.map λi=>W.ref (a0+i))]) (L:=L) (a0:=a0) (is:=is) λi h=>ye (o i (l i h));rw[hf]at p;have n:(L.filter q).Nodup:=nd.filter q;have hlen:(L.filter q).length<64:=Nat.lt_of_le_of_lt (bG ..) g;have z:Za (.ref C.length) (C++[.lst (is.map λi=>W.ref (a0+i))])=.ok (.ref (C++[O.lst (is.map λi=>W.ref (a0+i))]).length) (C++[.lst (is.map λi=>W.ref (a0+i))]++[.lst ((j4 (O:=yd) (L.filter q)).map λk=>(is.map λi=>W.ref (a0+i)).getD ((L.filter q).idxOf k) .non)]):=by
  unfold Za;dsimp only;rw[jx];dsimp only;rw[p];dsimp only;rw[ag ⟨hlen,n⟩]
 have h:=h _ _ z;have v:(L.filter q).length=is.length:=by rw[<- hf,ai]
 have H:∀k∈j4 (O:=yd) (L.filter q),(is.map λi=>W.ref (a0+i)).getD ((L.filter q).idxOf k) .non=W.ref (a0+is.getD ((L.filter q).idxOf k) 0)/\is.getD ((L.filter q).idxOf k) 0<L.length/\L.getD (is.getD ((L.filter q).idxOf k) 0) []=k:=λk b=>by
  have d:k∈L.filter q:=(g8 _).mem_iff.mp b;have j:(L.filter q).idxOf k<(L.filter q).length:=List.idxOf_lt_length_iff.mpr d;have a:(L.filter q).idxOf k<is.length:=by omega
  have E:is.getD ((L.filter q).idxOf k) 0=is[(L.filter q).idxOf k]:=by rw[ae,aa a];rfl
  refine⟨by rw[E,ae,ao,aa a];rfl,by rw[E];exact l _ (aP a),?_⟩
  rw[E];have r:(is.map λi=>L.getD i [])[(L.filter q).idxOf k]'(by rw[ai];exact a)=(L.filter q)[(L.filter q).idxOf k]:=by simp only[hf]
  rw[List.getElem_map,List.getElem_idxOf]at r;exact r
 have D:((j4 (O:=yd) (L.filter q)).map λk=>(is.map λi=>W.ref (a0+i)).getD ((L.filter q).idxOf k) .non)=(j4 (O:=yd) (L.filter q)).map λk=>W.ref (a0+is.getD ((L.filter q).idxOf k) 0):=ba λk b=>(H k b).1;rw[D]at h;have B:=CO hn h jx (OF (f:=λk=>a0+is.getD ((L.filter q).idxOf k) 0) λk b=>ye (ye (by
  have:=o _ (H k b).2.1
  rw[(H k b).2.2]at this;exact this))) (by
  rw[aO];have N:(j4 (O:=yd) (L.filter q)).Nodup:=(g8 _).nodup_iff.mpr n;refine List.pairwise_map.mpr (List.Pairwise.imp_of_mem (λ {x y} j u c e=>c ?_) N);have e:a0+is.getD ((L.filter q).idxOf x) 0=a0+is.getD ((L.filter q).idxOf y) 0:=e;rw[<- (H x j).2.2,<- (H y u).2.2,show is.getD ((L.filter q).idxOf x) 0=is.getD ((L.filter q).idxOf y) 0 by omega]) A
 rw[B,ai,aO]
 rfl
end
section
variable {C:Hx}{b c e k K m:Nat}{w:W}{p:Pg}{L:List Pg}
def KW (t:bV)(K:Nat)(p:Pg):Bool:=(QL (yG t (j6 K p)) (p.length+1)).isEmpty
abbrev XP (t:bV)(K:Nat):List Pg:=j4 (O:=yd) ((PL K).filter (KW t K))
def mem_getD {x:List Pg}(h:i<x.length):x.getD i []∈x:=by rw[ae,aa h];exact aP h
def ij (H:1<=K)(h:K<=6)(A:Hx):QQ [.int (K:Int)] A=.ok (.ref (A.length+(PL K).length)) (A++(PL K).map pO++[yH A.length (PL K).length]):=PJ (f:=Xm) (ib H h) A
def BJ (H:1<=K)(h:K<=6)(A:Hx):gY [.int (K:Int)] A=.ok (.ref (A.length+(SP K).length)) (A++(SP K).map pO++[yH A.length (SP K).length]):=PJ (f:=Xo) (ic H h) A
def DS (H:qu t)(a:qH t=(K:Int))(h:Zw K p)(A:Hx):YC [zq (yG t (j6 K p))] A=.ok (Mg (QL (yG t (j6 K p)) (p.length+1)).head?) A:=
 Dw (W0 H a h).1 (W0 H a h).2 A
def E9 (H:qu t)(b:qH t=(K:Int))(d:K<=6)(A:Hx):JE [zq t] A=.ok (.ref (A.length+(XP t K).length)) (A++(XP t K).map pO++[yH A.length (XP t K).length]):=by
 have j:=wB H;obtain⟨nd,c,ok⟩:=Uj (K:=K) (by omega) d
 have h:=Ls.new (L:=PL K) (A:=[]);have l:=ij (K:=K) (by omega) d []
 generalize ([]:Hx).length+(PL K).length=r at l h;generalize ([]:Hx)++(PL K).map pO++[yH ([]:Hx).length (PL K).length]=C at l h;generalize ([]:Hx).length=a0 at h;obtain⟨B,e,x⟩:=OI (q:=KW t K) (ρ:=[some (zq t),some (.int (K:Int))]) (A:=[]) (cap:=[0]) (mi:=qd (zH QQ (zc zw zj))) (ifs:=zi (Yu false) (zH YC (zc (zH Y4 (zc zw (zc zm zj))) zj)) Z9) h (by omega)
  (VH ((qL (qj (zu rfl) qI)).trans l) h.r)
  (λi B a x=>by
   have p:=ok _ (mem_getD a);refine⟨B++[.dct (Yp ((PL K).getD i []))],?_,Ext.one⟩;refine(zR ((qL (qj ((qL (qj (zu rfl) (qj (zu rfl) qI))).trans (CS H b p ((h.mono x).at_ i a))) qI)).trans (DS H b p _)) jb).trans ?_;unfold KW;cases QL (yG t (j6 K ((PL K).getD i []))) (((PL K).getD i []).length+1)<;>rfl)
 refine sorted_out (C:=B) (f:=λws A=>(kO ws A).nox) (ws:=[zq t]) (gX t) (λi a=>x.at (h.at_ i a)) nd c (λw n g=>?_) A;refine Qr (CC ?_);unfold K2;refine(zJ (Q3 ((qL (qj (zu rfl) qI)).trans (RI H [])))).trans ?_;refine(zJ (qO (Qr ((qL (qj (zu rfl) qI)).trans ((Vz H []).trans (by rw[b])))))).trans ?_
 refine(zJ (ρ1:=[some (zq t),some (.int (K:Int))]) (A1:=[]) ((yL (Qr ((zR (zu rfl) jb).trans (show KU (.int (K:Int)) (.int 6) []=.ok (.bl false) [] by show R.ok (W.bl (decide ((6:Int)<(K:Int)))) []=_;rw[aC (by omega)])))).trans jG)).trans ?_
 exact Qr (qF (ji ((fe (gC e)).trans g)))
abbrev Mo:Ev:=qt (zM 1 [3] (qd (zH gY (zc (zH kX (zc zQ zj)) zj))) (zC 0) (zH QS (zc (zH Qe (zc zw (zc zm zj))) zj)) (zK zm))
structure Ds (X:List Pg)(r:Nat)(C:Hx):Prop where
 ex:∃is:b9,C[r]? =some (.lst (is.map W.ref))/\is.length=X.length/\∀i,i<X.length->C[is.getD i 0]? =some (pO (X.getD i []))
def Ds.mono {X:List Pg}{r:Nat}(h:Ds X r A)(x:Ext A B):Ds X r B:=let ⟨is,h1,b,a⟩:=h.ex;⟨is,x.at h1,b,λi H=>x.at (a i H)⟩
def ik (a:qu t)(d:qH t=(K:Int))(g:K<=6)(j:ρ[3]? =some (some (zq t)))(A:Hx):∃r B,Mo ρ A=.ok (.ref r) B/\Ds (XP t K) r B/\Ext A B:=by
 have w:=wB a;obtain⟨nd,f,ok⟩:=Uj (K:=K) (by omega) g
 have H:=Ls.new (L:=SP K) (A:=A);have l:=BJ (K:=K) (by omega) g A
 have x0:Ext A (A++(SP K).map pO++[yH A.length (SP K).length]):=⟨_,aN ..⟩;generalize A.length+(SP K).length=r at l H;generalize A++(SP K).map pO++[yH A.length (SP K).length]=C at l H x0;generalize A.length=a0 at H;have o:∀p∈SP K,Zw K p:=λp b=>ok p ((g8 (O:=yd) (PL K)).mem_iff.mp b);have S:(SP K).length<64:=by rw[(g8 (O:=yd) (PL K)).length_eq];exact f
 obtain⟨B,E,x⟩:=OI (q:=KW t K) (ρ:=ρ) (A:=A) (cap:=[3]) (mi:=qd (zH gY (zc (zH kX (zc zQ zj)) zj))) (ifs:=zH QS (zc (zH Qe (zc zw (zc zm zj))) zj)) H (by omega)
  (VH ((qL (qj ((qL (qj (zu j) qI)).trans ((YT a A).trans (by rw[d]))) qI)).trans l) H.r)
  (λi B c x=>by
   have b:=o _ (mem_getD c);obtain⟨n,e,X⟩:=ia a d b ((H.mono x).at_ i c);refine⟨n,?_,X⟩;have h0:([3].map λi=>(ρ[i]?).join)=[some (zq t)]:=by show [(ρ[3]?).join]=_;rw[j];rfl
   rw[h0];exact(qL (qj ((qL (qj (zu rfl) (qj (zu rfl) qI))).trans e) qI)).trans (EX (W0 a d b).1 (W0 a d b).2 n))
 refine⟨_,_,gC E,?_,(x0.trans x).trans Ext.one⟩;generalize s:((List.range (SP K).length).filter λi=>KW t K ((SP K).getD i []))=is;have hf:(is.map λi=>(SP K).getD i [])=XP t K:=by rw[<- s,Rx];exact Fm.symm
 have c:∀i∈is,i<(SP K).length:=λi h=>by rw[<- s]at h;exact cC.mp (List.mem_filter.mp h).1
 have hlen:is.length=(XP t K).length:=by rw[<- hf,ai]
 refine⟨is.map (a0 + ·),by rw[aO];exact jx,by rw[ai,hlen],λi h=>?_⟩
 have h':i<is.length:=by omega
 have v:(is.map (a0 + ·)).getD i 0=a0+is[i]:=by rw[ae,ao,aa h'];rfl
 have u:(XP t K).getD i []=(SP K).getD is[i] []:=by rw[<- hf,ae,ao,aa h'];rfl
 rw[v,u];exact ye (x.at (H.at_ _ (c _ (aP h'))))
noncomputable def Yk:bX:=[0,1,2,2,2,2,2,2]
def il (s:qZ 0 [o]):∃t B,X1 [.ref 0] [o]=.ok (zq t) B/\qZ 0 B/\qu t/\qH t<=6:=by
 obtain⟨t,B,e,H,k⟩:=gS s;have g:=wB H;obtain⟨K,f⟩:=aZ (show 0<=qH t by omega)
 have b:zX 1 (zH YF (zc zm zj)) [some (.ref 0),none] [o]=.ok (.nx [some (.ref 0),some (zq t)]) B:=(qO ((qL (qj (zu rfl) qI)).trans e)).trans rfl;have E:zi Jz (zH kX (zc zw zj)) Yv [some (.ref 0),some (zq t)] B=.ok (.bl (decide (qH t<7))) B:=(zR ((qL (qj (zu rfl) qI)).trans (YT H B)) jb).trans rfl
 by_cases a:qH t<7
 ·rw[aB a]at E
  refine⟨t,B,q9 ?_,k.st,H,by omega⟩
  unfold XU;exact(zJ b).trans (qF ((wF E).trans (qF (ji (zu rfl)))))
 ·rw[aC a]at E
  have hd:∀k,k<8->(Yk.getD k 0=0↔k=0)/\0<=Yk.getD k 0/\Yk.getD k 0<=2:=by decide
  obtain⟨T,d⟩:=Px (l:=Yk) (m:=2) H f (by omega) (λk h=>(hd k (by omega)).1) (λk h=>(hd k (by omega)).2) (λv c=>⟨v,by omega,by
   have:v=0∨v=1∨v=2:=by omega
   rcases this with rfl|rfl|rfl<;>rfl⟩)
  refine⟨yG t Yk,B,q9 ?_,k.st,T,by rw[d];decide⟩
  unfold XU;refine(zJ b).trans ((zJ ((yL E).trans jG)).trans (qF (ji (Ul (i0:=1) H rfl λ_ v c=>?_))));refine(zR (zu (i:=0) (w:=.int (v:Int)) rfl) (jb (w:=.int 2))).trans ?_
  have:∀v:Nat,v<8->(if (2:Int)<(v:Int) then 2 else(v:Int))=Yk.getD v 0:=by decide
  show R.ok (W.int (if (2:Int)<(v:Int) then 2 else(v:Int))) B=_;rw[this v (by omega)]
def ip (s:qZ n A):∃t B,QU [.ref n] A=.ok (zq t) B/\qu t/\qH t<=6/\Kn n A B:=by
 obtain⟨c,b,a,g,i⟩:=s;have hm:=wQ a;obtain⟨t,A1,e,⟨C,d,E,h,H⟩,f,j⟩:=il (o:=.lst [.int c,.bl b]) ⟨c,b,rfl,g,i⟩;refine⟨t,A.set n (.lst [.int C,.bl d]),?_,f,j,⟨Kp.set,C,d,aJ hm,h,H⟩⟩;unfold QU;exact Vp a rfl e E (JV t)
def X2 {f:Fn}{x y:W}{us vs:List W}{ty:Ty}(H:zP x A=some us)(h:zP y A=some vs)(a:us.length=vs.length)(T:yk x A=some ty)(t:yk y A=some ty)(d:ty=.tup∨ty=.lst)(l:us.length<=1000)(hf:∀i,i<us.length->f [us.getD i .non,vs.getD i .non] A=.ok (.bl true) A):qU 2 (ZG f) [x,y] A=.ok (.bl true) A:=by
 refine q9 ?_;unfold ZG;have E:mQ qE (qg (qi 0)) [some x,some y] A=.ok (.int us.length) A:=yF (kF (w:=x) (A1:=A) (zu rfl) H);have e:mQ qE (qg (qi 1)) [some x,some y] A=.ok (.int us.length) A:=(yF (kF (w:=y) (A1:=A) (zu rfl) h)).trans (by unfold qE;rw[a])
 have I:GI .tup .lst (qi 1) [some x,some y] A=.ok (.bl true) A:=by
  unfold GI;rw[zu (w:=y) rfl,zO,t];rcases d with rfl|rfl<;>rfl
 have n1:∀c,zi jz (kM c (qi 0)) (kM c (qi 1)) [some x,some y] A=.ok (.bl false) A:=λc=>(zR (Gr (w:=x) (zu rfl) T) (Gr (w:=y) (zu rfl) t)).trans ((Mx _ _ _).trans (by rw[br];rfl))
 refine qF ((wF (A1:=A) I).trans ?_);refine(zJ (ρ1:=[some x,some y]) (A1:=A) ((yL (A1:=A) ((Um (A1:=A) (n1 .tup)).trans (n1 .lst))).trans jG)).trans ?_;refine(zJ (ρ1:=[some x,some y]) (A1:=A) ((yL (A1:=A) ((zR E e).trans ((Mm _ _ _).trans (by rw[aB rfl];rfl)))).trans jG)).trans (qF (ji ?_))
 have z:Ju (qi 0) (qi 1) [some x,some y] A=.ok (Jn x y us.length) A:=by
  unfold Ju;rw[zu (w:=x) rfl,zO,zu (w:=y) rfl,zO,H,h]
 have j:=Hy (A:=A) (cap:=[]) (ρ:=[some x,some y]) (me:=zH f (zc (qi 0) (zc (qi 1) zj))) (N:=us.length) (u:=λi=>us.getD i .non) (v:=λi=>vs.getD i .non) (g:=λ_=>.bl true) z rfl l
  (λi b=>by
   show(match zP x A,zP y A with|some us,some vs=>some (zip2 us[i]? vs[i]?)|_,_=>none)=_
   rw[H,h];show some (zip2 us[i]? vs[i]?)=_;rw[ae,ae,aa b,aa (show i<vs.length by omega)];rfl)
  (by
   show(match zP x A,zP y A with|some U,some vs=>some (zip2 U[us.length]? vs[us.length]?)|_,_=>none)=_
   rw[H,h];show some (zip2 us[us.length]? vs[us.length]?)=_;rw[aE (ar _),aE (show vs.length<=us.length by omega)];rfl)
  (λi b=>(qL (ws:=[us.getD i .non,vs.getD i .non]) (A1:=A) rfl).trans (hf i b))
 exact(yF j).trans (Y6 (p:=λ_=>true) λ_ _=>rfl)
def iq {r s:Nat}(a:A[r]? =some (pO p))(H:A[s]? =some (pO p))(d:p.length<=8)(c:∀q∈p,q.length<=8):XG [.ref r,.ref s] A=.ok (.bl true) A:=by
 refine X2 (us:=p.map jB) (vs:=p.map jB) (ty:=.lst) (by unfold zP;dsimp only;rw[a]) (by unfold zP;dsimp only;rw[H]) rfl (by unfold yk;dsimp only;rw[a]) (by unfold yk;dsimp only;rw[H]) (.inr rfl) (by rw[ai];omega) λi h=>?_
 rw[ai]at h;rw[ae,ao,aa h];show XA [jB p[i],jB p[i]] A=_;have l:=c _ (aP h);refine X2 (us:=p[i].map W.int) (vs:=p[i].map W.int) (ty:=.tup) rfl rfl rfl rfl rfl (.inl rfl) (by rw[ai];omega) λj b=>?_
 rw[ai]at b;rw[ae,ao,aa b];exact FY _ A
def ir {X:List Pg}{r s a0:Nat}(h:Ls X a0 r A)(h':Ds X s A)(c:X.length<=100)(hok:∀p∈X,p.length<=8/\∀q∈p,q.length<=8):Qf [.ref r,.ref s] A=.ok (.bl true) A:=by
 obtain⟨is,d,b,D⟩:=h'.ex;have a:A[r]? =some (.lst ((List.range X.length).map λi=>W.ref (a0+i))):=h.r;refine X2 (us:=(List.range X.length).map λi=>W.ref (a0+i)) (vs:=is.map W.ref) (ty:=.lst) (by unfold zP;dsimp only;rw[a]) (by unfold zP;dsimp only;rw[d]) (by simp[b]) (by unfold yk;dsimp only;rw[a]) (by unfold yk;dsimp only;rw[d]) (.inr rfl) (by simp;omega) λi H=>?_
 have H:i<X.length:=by simpa using H
 rw[ae,ao,aT H,ae,ao,aa (show i<is.length by omega)]
 have e:=D i H;rw[ae (l:=is),aa (show i<is.length by omega)]at e
 have o:=hok _ (mem_getD H);exact iq (h.at_ i H) e o.1 o.2
end
section
variable {K N q k:Nat}{C:Hx}{w x bad:W}{PF:jP}{X:List Pg}
def iu (A:Hx):kx LS 0 [x] A=kO [x] A:=by
 rw[OM (t:=JY kO) rfl];unfold JY GQ;dsimp only;exact qL (ws:=[x]) (A1:=A) rfl
def iw (A:Hx):kx LS 1 [x] A=kO [x] A:=by
 rw[OM (t:=JX kO) rfl];unfold JX GQ;dsimp only;exact qL (ws:=[x]) (A1:=A) rfl
def iy (h:w6 A w):kO [w] A=.exc "NoTable" A:=by
 refine X9 ?_;unfold K2;exact YQ (BR ((qL (ws:=[w]) (A1:=A) rfl).trans (Ez h)))
noncomputable def Qy:bV:=(List.range 8).map λ(a:Nat)=>(List.range 8).map λ(b:Nat)=>Builtin.bitXor (a:Int) (b:Int)
def R1:qu Qy:=OD (by decide +kernel)
def EE:qH Qy=8:=by decide +kernel
def AE (A:Hx):mQ jm (zM 1 [] (qJ yS) (zC 0) zS (zK (mQ jm (zM 1 [0] (qJ yS) (zC 0) zS (zK (zi ZY zw zm)))))) ρ A=.ok (zq Qy) A:=by
 have E:∀a:Nat,a<8->mQ jm (zM 1 [0] (qJ yS) (zC 0) zS (zK (zi ZY zw zm))) [some (.int (0+(a:Int)))] A=.ok (zT ((List.range 8).map λ(b:Nat)=>Builtin.bitXor (a:Int) (b:Int))) A:=λa H=>by
  have e:=Qg (cap:=[0]) (mi:=qJ yS) (j:=j8 0 8) (me:=zi ZY zw zm) (ρ:=[some (.int (0+(a:Int)))]) (A:=A) (N:=8) (item:=λi=>.int (0+(i:Int))) (g:=λ(b:Nat)=>.int (Builtin.bitXor (a:Int) (b:Int))) rfl rfl (by unfold qa;omega) (λi h=>wA h) (wy (by omega)) (λb c=>by
   rw[Int.zero_add,Int.zero_add];exact(zR (zu rfl) (zu rfl)).trans rfl)
  refine(Zi e).trans ?_;unfold zT;rw[aO]
  rfl
 have e:=Qg (cap:=[]) (mi:=qJ yS) (j:=j8 0 8) (me:=mQ jm (zM 1 [0] (qJ yS) (zC 0) zS (zK (zi ZY zw zm)))) (ρ:=ρ) (A:=A) (N:=8) (item:=λi=>.int (0+(i:Int))) (g:=λ(a:Nat)=>zT ((List.range 8).map λ(b:Nat)=>Builtin.bitXor (a:Int) (b:Int))) rfl rfl (by unfold qa;omega) (λi h=>wA h) (wy (by omega)) (λa H=>E a H)
 refine(Zi e).trans ?_;unfold zq Qy;rw[aO]
 rfl
def iz (A:Hx):kO [zq Qy] A=.exc "TooMany" A:=by
 refine X9 ?_;unfold K2;refine(zJ (Q3 ((qL (qj (zu rfl) qI)).trans (RI R1 A)))).trans ?_;refine(zJ (qO (Qr ((qL (qj (zu rfl) qI)).trans ((Vz R1 A).trans (by rw[EE])))))).trans ?_
 refine YQ ((wF (A1:=A) (Qr rfl)).trans (YQ ?_))
 rfl
abbrev Td:Ex:=zo (yw (j9 yA gR (zE zj))) zB
def F7 {x0 x1 x2 x3 x4 x5 x7 x8 x9:Option W}{r a0:Nat}(h:Ls X a0 r C)(h0:A.length<=a0)(q:a0+X.length<=r)(n:Ext A C)(t:X.length<=100)(hok:∀p∈X,p.length<=8):∃y B,zo (qY (qd kN) (zC 7) Td) (zo (yw (j9 yA kN (qb zj))) zB) [x0,x1,x2,x3,x4,x5,some (.ref r),x7,x8,x9] C=.ok (.nx [x0,x1,x2,x3,x4,x5,some (.ref r),y,x8,x9]) B/\Ext A B:=by
 obtain⟨l,B,e,⟨H,d,x⟩,y,a⟩:=kY (j:=⟨λA i=>(zP (.ref r) A).map λws=>ws[i]?,X.length⟩) (st:=turn (zC 7) Td) (N:=X.length)
  (I:=λi ρ B=>(B[r]? =some (yH a0 X.length)/\(∀j,i<=j->j<X.length->B[a0+j]? =some (pO (X.getD j [])))/\Ext A B)/\∃y,ρ=[x0,x1,x2,x3,x4,x5,some (.ref r),y,x8,x9])
  (λi ρ B c ⟨⟨H,d,x⟩,y,a⟩=>by
   subst a;have f:=d i (ar _) c;have s:=hok _ (mem_getD c);refine⟨W.ref (a0+i),_,_,O9 H (by rw[ao,aT c];rfl),(yV (ρ1:=[x0,x1,x2,x3,x4,x5,some (.ref r),some (.ref (a0+i)),x8,x9]) rfl).trans ((zJ (Q3 ((JS (zu rfl) f (W8 qI)).trans (Wv f (by rw[ai];omega))))).trans jG),⟨?_,λj g b=>?_,x.set (by omega)⟩,_,rfl⟩
   ·rw[aH (by omega)];exact H
   ·rw[aH (by omega)];exact d j (by omega) b)
  (λρ B ⟨⟨H,_⟩,_⟩=>Nj H (by simp)) X.length 0 [x0,x1,x2,x3,x4,x5,some (.ref r),x7,x8,x9] C (by omega) ⟨⟨h.r,λj _ g=>h.at_ j g,n⟩,_,rfl⟩
 subst a;have o:=wQ H;refine⟨y,_,(zJ ((yJ (VH (m:=X.length) (zu rfl) h.r)).trans e)).trans ((zJ (Q3 ((JS (zu rfl) H (yq qI)).trans (Wv (ye H) (by simp;omega))))).trans jG),(x.trans Ext.one).set (by omega)⟩
abbrev U9:Ex:=zo (zX 6 (zH JE (zc zQ zj))) (zo (ja (wG (zH Qf (zc kN (zc qx zj)))) (zo (qv KY) zB) zB) (zo (qY (qd kN) (zC 7) Td) (zo (yw (j9 yA kN (qb zj))) zB)))
def Dv {x0 x1 x2 x5 x6 x7 x8 x9:Option W}{r:Nat}(c:qu t)(g:qH t=(K:Int))(d:K<=6)(hd:Ds (XP t K) r A):∃Y y B,U9 [x0,x1,x2,some (zq t),some (.ref r),x5,x6,x7,x8,x9] A=.ok (.nx [x0,x1,x2,some (zq t),some (.ref r),x5,Y,y,x8,x9]) B/\Ext A B:=by
 have i:=wB c;obtain⟨nd,b,ok⟩:=Uj (K:=K) (by omega) d
 have h:∀p∈XP t K,Zw K p:=λp H=>ok p (List.mem_filter.mp ((g8 (O:=yd) _).mem_iff.mp H)).1;have hlen:(XP t K).length<64:=by
  rw[(g8 (O:=yd) _).length_eq];exact Nat.lt_of_le_of_lt (bG ..) b
 have s:=E9 c g d A;have a:=Ls.new (L:=XP t K) (A:=A);have X:Ext A (A++(XP t K).map pO++[yH A.length (XP t K).length]):=⟨_,aN ..⟩;generalize A++(XP t K).map pO++[yH A.length (XP t K).length]=C at s a X;obtain⟨y,B,e,x⟩:=F7 (x0:=x0) (x1:=x1) (x2:=x2) (x3:=some (zq t)) (x4:=some (.ref r)) (x5:=x5) (x7:=x7) (x8:=x8) (x9:=x9) a (ar _) (ar _) X (by omega) (λp H=>by have:=(h p H).few;omega)
 refine⟨some (.ref (A.length+(XP t K).length)),y,B,?_,x⟩;refine(zJ (qO ((qL (qj (zu rfl) qI)).trans s))).trans ?_;exact(zJ ((yL (Qn (k:=true) ((qL (qj (zu rfl) (qj (zu rfl) qI))).trans (ir a (hd.mono X) (by omega) λp H=>⟨by have:=(h p H).few;omega,λq f=>((h p H).part q f).1⟩)))).trans jG)).trans e
abbrev BL (P:Addr)(PF:jP):Ex:=zo (zX 2 (zH JH (zc zm (zc zw zj)))) (zo (zX 3 (zH QU (zc zW zj))) (zo (zX 4 Mo) (zo (qY (qJ qy) (zC 5) U9) (zo (QG (zE (zc (mQ jm (zM 1 [] (qJ yS) (zC 0) zS (zK (mQ jm (zM 1 [0] (qJ yS) (zC 0) zS (zK (zi ZY zw zm))))))) (zc (zH QO (zc zW zj)) zj))) (jo 8 9)) (zo (ja (zi jz (Qs (gG kO) PF (Qx RF) (zc (gJ 1 j0 P 0 (PF 0)) zj)) (qb (zc (qc (.int 11)) zj))) (zo (qv KY) zB) zB) (zo (ja (zi jz (Qs (gG kO) PF (Qx RF) (zc (gJ 1 j0 P 1 (PF 1)) zj)) (qb (zc zL zj))) (zo (qv KY) zB) zB) zB))))))
def CY {k:Nat}{x2 x3 x4 x5 x6 x7 x8 x9:Option W}(h0:A[0]? =some (.ro (ns.map W.int)))(C:A[1]? =some (.tab j0 Pt)):∃P M y4 b Y y L J B,BL Pt PF [some (.ref 0),some (.int (k:Int)),x2,x3,x4,x5,x6,x7,x8,x9] A=.ok (.nx [some (.ref 0),some (.int (k:Int)),P,M,y4,b,Y,y,L,J]) B/\B[0]? =some (.ro (ns.map W.int))/\B[1]? =some (.tab j0 Pt):=by
 obtain⟨o,Z,U⟩:=BC h0 k;have hA:=wQ C;have a0:=ye (u:=o) h0;have a1:=ye (u:=o) C;generalize hn:A.length=n at*;generalize A++[o]=A1 at*;obtain⟨t,A2,e2,q,h6,k2⟩:=ip U;have kb:=wB q;obtain⟨K,z⟩:=aZ (show 0<=qH t by omega)
 have H:K<=6:=by omega
 obtain⟨r,D,e3,hd,p⟩:=ik (ρ:=[some (.ref 0),some (.int (k:Int)),some (.ref n),some (zq t),x4,x5,x6,x7,x8,x9]) q z H rfl A2;have k3:=k2.trans (Kn.ext k2.st p);obtain⟨E,A4,e4,l,b,Y,y,h⟩:=kY (j:=j8 0 2) (st:=turn (zC 5) U9) (N:=2) (I:=λ_ ρ B=>Ext D B/\∃b Y y,ρ=[some (.ref 0),some (.int (k:Int)),some (.ref n),some (zq t),some (.ref r),b,Y,y,x8,x9])
  (λi ρ B S ⟨x,b,Y,y,h⟩=>by
   subst h;obtain⟨z6,z7,B',e,Q⟩:=Dv (x0:=some (.ref 0)) (x1:=some (.int (k:Int))) (x2:=some (.ref n)) (x5:=some (.int (0+(i:Int)))) (x6:=Y) (x7:=y) (x8:=x8) (x9:=x9) q z H (hd.mono x);exact⟨_,_,B',wA S,(yV rfl).trans e,x.trans Q,_,_,_,rfl⟩)
  (λρ B _=>wy (by omega)) 2 0 [some (.ref 0),some (.int (k:Int)),some (.ref n),some (zq t),some (.ref r),x5,x6,x7,x8,x9] D (by omega) ⟨Ext.refl,_,_,_,rfl⟩
 subst h;have w:=k3.trans (Kn.ext k3.st l);obtain⟨bad,v,e5,T,k5⟩:=f6 w.st;have d:=w.trans k5;have b0:=d.kp.get a0 (by omega)
 have s:=d.kp.get a1 (by omega)
 generalize h:([some (.ref 0),some (.int (k:Int)),some (.ref n),some (zq t),some (.ref r),b,Y,y,some (zq Qy),some bad]:En)=ρ;obtain⟨A6,e6,X⟩:=RD (k:=0) (g:=11) (PF:=PF) (ρ:=ρ) (t:=JY kO) s rfl (NU (i:=8) (a:=zq Qy) (by subst h;rfl)) ((iu v).trans (iz v)) Iu
 obtain⟨A7,e7,f⟩:=RD (k:=1) (g:=0) (PF:=PF) (ρ:=ρ) (t:=JX kO) (X.at s) rfl (NU (i:=9) (a:=bad) (by subst h;rfl)) ((iw A6).trans (iy (T.mono X.ky))) Im
 have c:=X.trans f;refine⟨some (.ref n),some (zq t),some (.ref r),b,Y,y,some (zq Qy),some bad,A7,?_,c.at b0,c.at s⟩;refine(zJ (qO ((qL (ws:=[.ref 0,.int k]) (A1:=A) rfl).trans Z))).trans ?_;refine(zJ (qO ((qL (ws:=[.ref n]) (A1:=A1) rfl).trans e2))).trans ?_;refine(zJ (qO e3)).trans ?_;refine(zJ ((yJ (j:=j8 0 2) (ZJ (k:=2) jb (by decide))).trans e4)).trans ?_
 refine(zJ (ρ1:=ρ) (A1:=v) (CW (W8 (qj (AE A4) (qj ((qL (qj (zu rfl) qI)).trans e5) qI))) (by subst h;rfl))).trans ?_
 exact(zJ ((yL e6).trans jG)).trans ((zJ ((yL e7).trans jG)).trans (by subst h;exact jG))
end
def UD (P:Addr)(PF:jP):Fn:=qU 10 (Ug QO QU kX Qe gY Qf JH QS JE kO RF P PF)
def DJ:Na j0 UD:=λns K P PF=>by
 have s:zP (.ref 0) [.ro (ns.map W.int),.tab j0 P]=some (ns.map W.int):=rfl;have E:mQ qE (qg zm) [some (.ref 0),none,none,none,none,none,none,none,none,none] [.ro (ns.map W.int),.tab j0 P]=.ok (.int ns.length) [.ro (ns.map W.int),.tab j0 P]:=by
  rw[yF (kF (w:=.ref 0) (A1:=[.ro (ns.map W.int),.tab j0 P]) (zu rfl) s)];unfold qE;rw[ai]
 have em:zi Uh zV (zi ZQ (mQ qE (qg zm)) qy) [some (.ref 0),none,none,none,none,none,none,none,none,none] [.ro (ns.map W.int),.tab j0 P]=
   .ok (.int (if (if (2:Int)<ns.length then 2 else(ns.length:Int)) > 1 then(if (2:Int)<ns.length then 2 else(ns.length:Int)) else 1)) [.ro (ns.map W.int),.tab j0 P]:=
  (zR (jb (w:=.int 1)) ((zR E (jb (w:=.int 2))).trans rfl)).trans rfl
 generalize p:(if (if (2:Int)<ns.length then 2 else(ns.length:Int)) > 1 then(if (2:Int)<ns.length then 2 else(ns.length:Int)) else 1)=v at em;have H:jI v=true:=by
  have:0<=v/\v<1000:=by
   rw[<- p]
   split<;>split<;>omega
  obtain⟨k,rfl⟩:=aZ this.1;exact Hs (by omega)
 obtain⟨o,B,e,_⟩:=kY (j:=j8 0 v.toNat) (st:=turn (zC 1) (BL P PF)) (N:=v.toNat) (I:=λ_ ρ B=>B[0]? =some (.ro (ns.map W.int))/\B[1]? =some (.tab j0 P)/\∃n f d y4 c b a Y y,ρ=[some (.ref 0),n,f,d,y4,c,b,a,Y,y])
  (λi ρ B q ⟨h0,r,n,f,d,y4,c,b,a,Y,y,h⟩=>by
   subst h;obtain⟨J,D,C,A,x,u,Z,z,t,e,l,g⟩:=CY (PF:=PF) (k:=i) (x2:=f) (x3:=d) (x4:=y4) (x5:=c) (x6:=b) (x7:=a) (x8:=Y) (x9:=y) h0 r;refine⟨_,_,t,wA q,(yV (ρ1:=[some (.ref 0),some (.int (i:Int)),f,d,y4,c,b,a,Y,y]) ?_).trans e,l,g,_,_,_,_,_,_,_,_,_,rfl⟩;rw[Int.zero_add];rfl)
  (λρ B _=>wy (by omega)) v.toNat 0 [some (.ref 0),none,none,none,none,none,none,none,none,none] [.ro (ns.map W.int),.tab j0 P] (by omega) ⟨rfl,rfl,_,_,_,_,_,_,_,_,_,rfl⟩
 refine⟨B,q9 ?_⟩;unfold Ug;exact(zJ ((yJ (ZJ em H)).trans e)).trans (qF (ji jb))
section
variable {K:Frag}
def Lq (Z:Zz K h mg){PG:jP}{lam:Nat->Fn}(H:∀k,Jj P w K mg base 7 (PG k) (lam k)):zN P w K mg base 8 "_law_refused" 1 ((qU 4 (YD PG lam))):=by
 obtain⟨f,fd,F,a⟩:=Z.T.LH;exact(LQ (k:=7) Z.B Z.C Z.T.zb0 F (a8 Z.X Z.G a) (ar _) H)
def iA (Z:Zz K h mg)(F:wL K "law" "law" J9 f fd)(hn:nsIn K mainGlobals "law"=some (some (.ref f)))(H:tabIn K "law"=some (c,Pt))(a:BMain mg base)(C:CodeHd base c Pt):yY P w K mg base gr 9 f fd ["_law_script"] (spT K 1 (UD Pt)):=
 o_law (k:=8) (j:=6) (kk:=8) Z.B F hn H a C (M9 Z).up (Fh Z).up (YG Z).up (Hn Z).up (Lr Z).up (Ht Z).up (Iz Z).up (LX Z).up (M5 Z).up (by decide)
  (fS (k:=6) Z.B (λbase=>(Tw Z).up)) (λbase PG L=>(Lq Z L).imp λus A _=>A9 us A)
def all_mk {l:PySem.W.OpenLaw}{i:Addr}(X:K.In h)(Gl:h.Ns mainGlobals mg)(b:mg "law"=some (.ref i))(T:Tx K)(H:∃c,tabIn K "law"=some (c,Pt)/\codeHdIn K c Pt=true):
  ∃fd:FuncData,(∀(s:Shared)(v:Value),BindsTo s fd ⟨[v],[]⟩ [("_law_script",v)])/\∀base:Heap,K.In base->base.Ns mainGlobals mg->BMain mg base->yY l.prog w K mg base gr 9 i fd ["_law_script"] (spT K 1 (UD Pt)):=by
 obtain⟨c,H,d⟩:=H;obtain⟨f,fd,F,a⟩:=T.zbA;have e:=b.symm.trans (a8 X Gl a);cases e;obtain⟨p,n,kV,doc,pm,an,C,ct,o,rfl,lk,g⟩:=id F.ex;exact⟨_,λs v=>.of_eq rfl,λbase j nb B=>iA (zz X Gl T) F a H B (codeHd_of_K j d)⟩
end
end G
namespace PySem.W.Fast
def tw13341891277787984551:Nat:=0
def tw13922991392957577471:Nat:=0
def tw8093256012468387232:Nat:=0
def tw13526368297156970587:Nat:=0
def tw13611270296337780630:Nat:=0
def tw17543510823073761460:Nat:=0
def tw8668039220249352257:Nat:=0
def tw10241619306873458917:Nat:=0
def tw15368582366845577354:Nat:=0
def tw10862506325510391147:Nat:=0
def tw8423058469565375662:Nat:=0
def tw12229124106385697800:Nat:=0
def tw4978039027029198593:Nat:=0
def tw6625422371218728973:Nat:=0
def tw16144867227310976377:Nat:=0
def tw5639290401957462977:Nat:=0
def tw7320306842276070069:Nat:=0
def tw11292930766093596991:Nat:=0
def tw13435230744208107866:Nat:=0
def tw7268274792825231949:Nat:=0
def tw7077242152938246773:Nat:=0
def tw2512002394774349118:Nat:=0
def tw15425849653003360420:Nat:=0
def tw9107809025135937917:Nat:=0
def tw2084762290226026541:Nat:=0
def tw16925869467780034790:Nat:=0
def tw8376867963787456273:Nat:=0
def tw14472925834484851979:Nat:=0
def tw7017992935055161362:Nat:=0
def tw7719036064216529968:Nat:=0
def tw13812716143883552218:Nat:=0
def tw3701581248290010223:Nat:=0
def tw16011231120935287729:Nat:=0
def tw16818458083644598235:Nat:=0
def tw2849144459231141379:Nat:=0
def tw4503910005357506791:Nat:=0
def tw8928127734560545509:Nat:=0
def tw15211208326335351362:Nat:=0
def tw10442217683875975112:Nat:=0
def tw13904975531032850880:Nat:=0
def tw18177682490054877169:Nat:=0
def tw1369927123368093938:Nat:=0
end PySem.W.Fast
open PySem PySem.W PyProof.Rows
set_option maxRecDepth 100000 in
set_option maxHeartbeats 0 in
theorem PySem.Challenge.cw_nearkinds_k71_partings_that_keep_steady_holds : PySem.Challenge.rw_nearkinds_k71_partings_that_keep_steady.Holds := by
 w_on;o_law;k_head;(case hw=>w_witness2)
 k_fill
 refine' Mi.zbO (l:=PySem.Challenge.rw_nearkinds_k71_partings_that_keep_steady) (k:=9) (x := "_law_script") G.DJ rfl rfl ⟨rfl,by decide,by decide⟩ (λw h Y=>PySem.W.km_in_of Y) (λw h Y=>PySem.W.km_tabs_of Y _ (ax ..)) ?ht ?hKP ?F
 case ht=>exact λp=>by kernel_rfl
 case hKP=>exact λp=>by kernel_rfl
 case F=>
  intro w mg fa h KX Gl hmg ht;have T:G.Tx (L2.Mn KX):=by
   dsimp only [L2.Mn]
   apply G.Tx.mk<;>first | (refine' Mi.zcy ?a ?l ?c ?k;(case a=>k_is);(case l=>k_is);(case c=>k_is);(case k=>k_is)) | (refine' Mi.zcv ?a;(case a=>k_is)) | k_is|kernel_rfl
  exact G.all_mk KX Gl hmg T ht
