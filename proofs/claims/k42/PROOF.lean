import PyProof.Rows.All
import Wide.All
import OpenK.AllK
import Wide.FinOn
import Lean
import PyProof.EqAt
import PyProof.EqKinds
import PyProof.TupleCall
import OpenK.KOwn
import PyProof.Rows.FStr
import PyProof.FString
import PyProof.NsDelKeeps
import KE.KIsAll
import PyProof.ExcArgs
import KE.KLam
import KE.KNestM
import PyProof.Rows.SetFrom
import PyProof.ListMulRoad
import PyProof.FactsAll.set_1
import PyProof.FactsAll.set_2
import PyProof.CollectIter
import PyProof.TupleIter
import PyProof.CollectWalk
import PyProof.Rows.SortShell
import PyProof.SumAny
import PyProof.ListOps
import KE.KDictList
import PyProof.NoPylong
import KE.KUnpack
import KE.KSortTup
import KE.KIntText
import PyProof.Rows.TupDisplay
import PyProof.AttrMiss
import PyProof.IsiH_list
import KE.KDictOf
import PySem.Challenge.RW_nearkinds_k42_tables_that_turn_to_themse
noncomputable section
open PySem.W (Frag)
open List (any_cons count_cons drop_length ext_getElem? filter_append find?_cons flatMap_cons flatMap_nil forIn_cons forIn_nil head?_append length_drop length_nil length_set lookup_cons map_nil mem_cons mem_filter mem_map mem_of_mem_drop nodup_range not_mem_nil of_mem_zip range'_succ range_eq_range' reverse_cons sum_append take_append_drop take_length take_zero)
open Nat (add_comm le_add_right lt_or_ge lt_trans mul_comm mul_le_mul ne_of_gt sub_self succ_mul zero_add zero_le)
open Int (ediv_one emod_nonneg)
open Bool (false_eq_true not_eq_true')
open Option (any_eq_true getD_none isSome_some)
open PySem.W (CodeHd callWith_K cellsFrom_some codeHdIn codeHd_of_K codeIn envX fnOf hideAll hideAll_none hideAll_size instObj keepIn kitAny kitOne kitx_bool kitx_dict kitx_float kitx_int kitx_list kitx_none kitx_str kitx_tuple kla_fn kla_obj km_tabs_of lookIn methodObj nsIn of_hideAll plainGet tabIn tabObj)
open PySem.F (args_tuple_add_2 entry_tuple_add slot_tuple_add)
abbrev aa:=@List.getD_eq_getElem?_getD
abbrev ae:=@List.getElem?_eq_getElem
abbrev af:=@PySem.Heap.get?_push_of_some
abbrev ag:=@List.getElem?_append_left
abbrev ah:=@Bool.and_eq_true
abbrev ai:=@decide_eq_true_iff
abbrev aj:=@if_pos
abbrev ak:=@List.length_map
abbrev ao:=@if_neg
abbrev aq:=@Nat.le_refl
abbrev ar:=@List.getElem?_append_right
abbrev au:=@List.mem_cons_of_mem
abbrev av:=@List.length_append
abbrev aw:=@List.size_toArray
abbrev ax:=@List.getElem?_map
abbrev ay:=@PySem.Heap.get?_push_size
abbrev az:=@List.getElem?_set_ne
abbrev aA:=@List.getElem?_eq_none
abbrev aB:=@List.mem_cons_self
abbrev aC:=@List.getElem?_set_self
abbrev aD:=@Bool.false_ne_true
abbrev aE:=@Nat.lt_of_lt_of_le
abbrev aF:=@Option.some.inj
abbrev aG:=@Int.toNat_natCast
abbrev aH:=@beq_iff_eq
abbrev aI:=@decide_eq_true
abbrev aJ:=@List.getElem_mem
abbrev aK:=@decide_eq_false
abbrev aL:=@PySem.Heap.lt_size
abbrev aM:=@List.length_range
abbrev aN:=@List.append_assoc
abbrev aO:=@List.map_append
abbrev aP:=@PySem.W.mg_of
abbrev aQ:=@Nat.ne_of_lt
abbrev aR:=@List.mem_append_right
abbrev aS:=@List.map_cons
abbrev aT:=@List.all_eq_true
abbrev aU:=@PySem.W.mg_none_of
abbrev aV:=@Nat.lt_irrefl
abbrev aW:=@List.length_singleton
abbrev aX:=@List.map_congr_left
abbrev aY:=@List.getElem?_range
abbrev aZ:=@List.flatMap_append
abbrev a3:=@List.map_map
abbrev a4:=@Nat.le_trans
abbrev a5:=@Int.eq_ofNat_of_zero_le
abbrev a6:=@List.range_succ
abbrev a7:=@List.append_nil
abbrev a8:=@List.mem_append_left
abbrev a9:=@List.flatten_cons
abbrev ba:=@List.replicate_succ
abbrev bb:=@List.getElem_of_mem
abbrev bc:=@List.filterMap_cons
abbrev bf:=@List.nil_append
abbrev bg:=@List.mem_of_getElem?
abbrev bh:=@Nat.lt_succ_of_lt
abbrev bj:=@Bool.or_eq_true
abbrev bo:=@List.length_cons
abbrev bp:=@List.drop_eq_getElem_cons
abbrev bq:=@PySem.Heap.size_push
abbrev br:=@PySem.Heap.get?_update_other
abbrev bt:=@Array.length_toList
abbrev bw:=@List.getElem?_replicate
abbrev bx:=@Nat.lt_succ_self
abbrev bz:=@Nat.le_of_lt
abbrev bA:=@PySem.W.kia_one
abbrev bB:=@List.length_replicate
abbrev bC:=@List.length_take
abbrev bD:=@List.ext_getElem
abbrev bE:=@List.countP_cons
abbrev bF:=@PySem.W.hideAll_get
abbrev bG:=@Int.emod_lt_of_pos
abbrev bH:=@beq_self_eq_true
abbrev bI:=@List.take_of_length_le
abbrev bJ:=List (List Int)
abbrev bK:=List Int
abbrev bL:=List PySem.Value
abbrev bM:=List PySem.Addr
abbrev bN:=List (PySem.Addr×PySem.Obj)
abbrev bP:=List Nat
abbrev bQ:=Option PySem.Value
abbrev bR:=List PySem.Str
abbrev bS:=PySem.Value->PySem.Shared->Prop
abbrev bU:=List PySem.Expr
abbrev bV:=Option Int
abbrev bZ:=PySem.Str->Option PySem.Value
abbrev b0:=List PySem.Env
abbrev b8:=List (PySem.Str×PySem.Addr)
abbrev b9:=List PySem.Keyword
abbrev cb:=Option PySem.Addr
abbrev cc:=List PySem.Stmt
abbrev cf:=@PySem.wpAny_bind
abbrev cg:=@PySem.wpAny_pure
abbrev ck:=@List.getElem?_eq_some_iff
abbrev cm:=@List.mem_cons
abbrev cn:=@List.all_eq_true
abbrev cj:=@List.mem_range
abbrev cu:=@List.mem_map
abbrev cw:=@List.mem_singleton
abbrev cx:=@List.mem_append
set_option Elab.async false
set_option linter.all false
set_option maxRecDepth 1000000
set_option maxHeartbeats 4000000
variable {XP:(PySem.Str->Option PySem.Value)->PySem.Heap->Prop}{D Pt a b c:PySem.Addr}{osl:Array (Option PySem.Value)}{items:Array PySem.Value}{op:PySem.CmpOp}{env:PySem.Env}{e elt iter tg:PySem.Expr}{fd:PySem.FuncData}{base h h':PySem.Heap}{pins:List (PySem.Addr×PySem.Obj)}{ks t:bJ}{cells:List (PySem.Str×PySem.Addr)}{fp φ:List PySem.Addr}{gens gs:List PySem.Comprehension}{elts es ifs:List PySem.Expr}{ns:bK}{cap:bP}{body:List PySem.Stmt}{N ps:List PySem.Str}{its us:List PySem.Value}{M:PySem.Model}{i j kk n t':Nat}{apos cpos p pos tpos:PySem.Pos}{P:PySem.Program}{sc scope:PySem.Scope}{s s':PySem.Shared}{qual x:PySem.Str}{mg:PySem.Str->Option PySem.Value}{α:Type}{u:PySem.Value}{E Q:PySem.Value->PySem.Shared->Prop}{w:PySem.World}
namespace L2
open PySem PySem.Spec PyProof.Rows
noncomputable abbrev Key:=Sum Int Str
noncomputable def JE:Key->Value->Bool
 |.inl k,v=>Value.isInt k v|.inr x,v=>Value.isStrOf x v
noncomputable def cy (w:World):Key->Int
 |.inl k=>hashInt k|.inr x=>hashStr w x
theorem Zw:∀{k:Key}{v:Value},JE k v=true->(∃i t,k=Sum.inl i/\v=Value.int i t)∨(∃x t,k=Sum.inr x/\v=Value.str x t)
 |.inl i,v,h=>by
  obtain⟨t,e⟩:=Value.isInt_shape (k:=i) (v:=v) h;exact .inl ⟨i,t,rfl,e⟩
 |.inr x,v,h=>by
  obtain⟨t,e⟩:=Value.isStrOf_shape (x:=x) (v:=v) h;exact .inr ⟨x,t,rfl,e⟩
def BS (i:Int)(t:Tok):JE (.inl i) (.int i t)=true:=by simp[JE,Value.isInt]
def BW (x:Str)(t:Tok):JE (.inr x) (.str x t)=true:=by simp[JE,Value.isStrOf]
def cA (a b:Int):decide ((Sum.inl a:Key)=Sum.inl b)=(a==b):=by
 by_cases e:a=b
 ·subst e;simp
 ·have h:¬(Sum.inl a:Key)=Sum.inl b:=λq=>e (Sum.inl.inj q)
  rw[aK h];exact(beq_eq_false_iff_ne.mpr e).symm
def cB (a b:Str):decide ((Sum.inr a:Key)=Sum.inr b)=decide (a=b):=by
 by_cases e:a=b
 ·subst e;simp
 ·have h:¬(Sum.inr a:Key)=Sum.inr b:=λq=>e (Sum.inr.inj q)
  rw[aK h,aK e]
def cC (a:Int)(b:Str):decide ((Sum.inl a:Key)=Sum.inr b)=false:=aK (λq=>nomatch q)
def cD (a:Str)(b:Int):decide ((Sum.inr a:Key)=Sum.inl b)=false:=aK (λq=>nomatch q)
def yX (prog:Program)(w:World):PySem.KeyKind prog w Key where
 is:=JE
 hash:=cy w
 inj:=λv a b f c=>by
  rcases Zw f with ⟨i,t,rfl,rfl⟩|⟨x,t,rfl,rfl⟩
  ·rcases Zw c with ⟨j,u,rfl,e⟩|⟨y,u,rfl,e⟩
   ·injection e with E _;rw[E]
   ·exact nomatch e
  ·rcases Zw c with ⟨j,u,rfl,e⟩|⟨y,u,rfl,e⟩
   ·exact nomatch e
   ·injection e with E _;rw[E]
 byValue:=λk v h=>by
  rcases Zw h with ⟨i,t,rfl,rfl⟩|⟨x,t,rfl,rfl⟩<;>rfl
 pyHash:=λH h=>by
  rcases Zw H with ⟨i,t,rfl,rfl⟩|⟨x,t,rfl,rfl⟩
  ·exact wpAny_pyHash_int h
  ·exact wpAny_pyHash_str h
 eqBool:=λd H h=>by
  rcases Zw d with ⟨i,t,rfl,rfl⟩|⟨x,t,rfl,rfl⟩
  ·rcases Zw H with ⟨j,u,rfl,rfl⟩|⟨y,u,rfl,rfl⟩
   ·rw[cA]at h;exact wpAny_eqBool_int h
   ·rw[cC]at h;exact SeqAt.EqAt.int_str i t y u _ _ _ _ h
  ·rcases Zw H with ⟨j,u,rfl,rfl⟩|⟨y,u,rfl,rfl⟩
   ·rw[cD]at h;exact SeqAt.EqAt.str_int x t j u _ _ _ _ h
   ·rw[cB]at h;exact wpAny_eqBool_str h
 «strs»:=λk x t v h=>by
  rcases Zw h with ⟨i,u,rfl,e⟩|⟨y,u,rfl,e⟩
  ·exact nomatch e
  ·injection e with E _
   subst E;cases v<;>rfl
def C6 (prog:Program)(w:World)(k:Key)(v:Value):(yX prog w).is k v=JE k v:=rfl
def Cf (prog:Program)(w:World)(i:Int)(t:Tok):(yX prog w).is (.inl i) (.int i t)=true:=BS i t
def Cp (prog:Program)(w:World)(x:Str)(t:Tok):(yX prog w).is (.inr x) (.str x t)=true:=BW x t
inductive V where
 |non|bl (b:Bool)|int (i:Int)|str (x:Str)|byt (b:Array UInt8)|flt (b:UInt64)|ref (a:Addr)|ty (n:String)
 deriving DecidableEq
noncomputable def RelV:V->Value->Prop
 |.non,u=>u=Value.none|.bl b,u=>u=Value.bool b|.int i,u=>∃t,u=Value.int i t|.str x,u=>∃t,u=Value.str x t|.byt b,u=>∃t,u=Value.bytes b t|.flt b,u=>∃t,u=Value.float b t|.ref a,u=>u=Value.ref a|.ty n,u=>u=Value.type n
abbrev Vals:List V->List Value->Prop:=Paired RelV
theorem Vals.length {xs:List V}(r:Vals xs us):xs.length=us.length:=Paired.length r
theorem Vals.get:∀{xs:List V}{us:bL}{i:Nat}{x:V},Vals xs us->xs[i]? =some x->∃u,us[i]? =some u/\RelV x u
 |_,_,_,_,.nil,e=>by simp at e|_,_,0,_,.cons r _,e=>by simp at e;subst e;exact⟨_,rfl,r⟩|_,_,i+1,x,.cons _ t,e=>by
  obtain⟨u,h1,h2⟩:=Vals.get (i:=i) (x:=x) t (by simpa using e)
  exact⟨u,by simpa using h1,h2⟩
theorem Vals.set {x:V}(r:RelV x u):∀{xs:List V}{us:bL}(i:Nat),Vals xs us->Vals (xs.set i x) (us.set i u)
 |_,_,_,.nil=>.nil|_,_,0,.cons _ t=>.cons r t|_,_,i+1,.cons q t=>.cons q (Vals.set r i t)
theorem Vals.append:∀{xs ys:List V}{us ws:bL},Vals xs us->Vals ys ws->Vals (xs++ys) (us++ws)
 |_,_,_,_,.nil,s=>s|_,_,_,_,.cons r t,s=>.cons r (Vals.append t s)
theorem Vals.take:∀{xs:List V}{us:bL}(n:Nat),Vals xs us->Vals (xs.take n) (us.take n)
 |_,_,0,_=>.nil|_,_,_+1,.nil=>.nil|_,_,n+1,.cons r t=>.cons r (Vals.take n t)
theorem Vals.drop:∀{xs:List V}{us:bL}(n:Nat),Vals xs us->Vals (xs.drop n) (us.drop n)
 |_,_,0,r=>r|_,_,_+1,.nil=>.nil|_,_,n+1,.cons _ t=>Vals.drop n t
def Vals.none_of:∀{xs:List V}{us:bL}{i:Nat},Vals xs us->xs[i]? =none->us[i]? =none:=λ {xs us i} r e=>by
 have h1:=r.length;have h2:xs.length<=i:=List.getElem?_eq_none_iff.mp e;exact List.getElem?_eq_none_iff.mpr (by omega)
def Qz:Option V->Option Value->Prop
 |some v,some u=>RelV v u|none,none=>True|_,_=>False
def KV {κ:Type}:List (κ×V)->List (κ×Value)->Prop:=Paired λ(p:κ×V) (q:κ×Value)=>p.1=q.1/\RelV p.2 q.2
noncomputable def kV:Key->V
 |.inl i=>.int i|.inr x=>.str x
inductive HO where
 |lst (xs:List V)
 |tup (xs:List V)
 |dK (kvs:List (Key×V))|dT (kvs:List (List Key×V))
 |set (S:Int->Bool) (n:Nat)
 |ins (C dx:Addr) (fs:List (Str×V))
 |own (x:Addr)
 |xd (fs:List (Str×V))
 |met (f x:Addr)
 |rng (lo hi:Int)
 |frz (o:Obj) (u:HO)
 |tbl (ps:Array Value)
 |ext (φ:Heap->Prop)
noncomputable abbrev Hp:=Addr->Option HO
noncomputable def upd (H:Hp)(a:Addr)(o:HO):Hp:=λb=>if b=a then some o else H b
def j5 {H:Hp}{o:HO}:upd H a o a=some o:=by unfold upd;rw[aj rfl]
def qz {H:Hp}{o:HO}(h:b≠a):upd H a o b=H b:=by unfold upd;rw[ao h]
def YE {H:Hp}{o u:HO}(h:H a=some o)(h':H b=some u)(d:o≠u):a≠b:=by
 intro e;subst e;rw[h]at h';exact d (aF h')
def kT {H:Hp}{o:HO}(h:H a=some o)(h':H b=none):a≠b:=by
 intro e;subst e;rw[h]at h';cases h'
def ZG (h:Heap)(a:Addr)(items:Array Value):Prop:=∃o,h.get? a=some o/\(o.cls=.type "tuple" /\ o.dict=none)/\∃n,o.data=.seq items n
def ZG.tup {h:Heap}{a:Addr}{items:Array Value}(x:ZG h a items):IsTup h a items:=let ⟨o,e,c,d⟩:=x;⟨o,e,c.1,d⟩
def ZG.new (h:Heap)(items:Array Value):ZG (h.push { cls:=.type "tuple",data:=.seq items }) h.objs.size items:=⟨_,ay h rfl,⟨rfl,rfl⟩,0,rfl⟩
section
variable (P:Program)(w:World)
def jv (H:Hp)(h:Heap)(a:Addr):HO->Prop
 |.lst xs=>xs.length<=sizeLine/\∃(its:bL) (n:Nat),Vals xs its/\h.get? a=some { cls:=.type "list",data:=.seq its.toArray n }
 |.tup xs=>xs.length<=sizeLine/\∃its:bL,Vals xs its/\ZG h a its.toArray|.dK kvs=>kvs.length<=sizeLine/\(a==sysModules)=false/\∃vs,KV kvs vs/\h.DictOf (yX P w) a vs|.dT kvs=>kvs.length<=sizeLine/\(a==sysModules)=false/\∃xs:List (List Key×Addr×Value),
   Paired (λ(p:List Key×V) (q:List Key×Addr×Value)=>p.1=q.1/\H q.2.1=some (.tup (p.1.map kV))/\RelV p.2 q.2.2) kvs xs/\
   ∃o e E,h.get? a=some o/\o.ExactDict/\o.data=.dict e E/\e.toList=xs.map (entryOfKey (tupleKind (yX P w)))/\(xs.map (·.1)).Nodup
 |.set S n=>h.SetOf (intKind P w) a S n|.ins C d fs=>H d=some (.own a)/\fs.length<=1000/\d≠a/\h.get? a=some (instObj C d)/\
   ∃M,h.Ns1 d M/\(∀f,Qz (fs.lookup f) (M f))/\PySem.Within M (fs.map (·.1))
 |.own _=>∃o,h.get? a=some o|.xd fs=>∃M,h.Ns1 a M/\∀f,Qz (fs.lookup f) (M f)|.rng lo i=>∃t u v,h.get? a=some { cls:=.type "range",data:=.fields #[.int lo t,.int i u,.int 1 v] }
 |.frz o u=>h.get? a=some o/\jv H h a u|.tbl ps=>h.get? a=some { cls:=.none,data:=.fields ps }|.met f x=>h.get? a=some (methodObj (.ref f) (.ref x))|.ext φ=>φ h/\(∃o,h.get? a=some o)/\∀h1 h2:Heap,φ h1->(∀o,h1.get? a=some o->h2.get? a=some o)->φ h2
def jy (H:Hp)(h:Heap):Prop:=∀a o,H a=some o->jv P w H h a o
end
section
variable {H H':Hp}{o:HO}
theorem jv.lt (x:jv P w H h a o):a<h.objs.size:=by
 cases o with
 |lst xs=>obtain⟨_,_,_,_,e⟩:=x;exact aL e|tup xs=>obtain⟨_,_,_,p⟩:=x;exact p.tup.lt|dK kvs=>obtain⟨_,_,_,_,o,_,_,e,_⟩:=x;exact aL e|dT kvs=>obtain⟨_,_,_,_,o,_,_,e,_⟩:=x;exact aL e|set S n=>obtain⟨o,_,_,_,e,_⟩:=x;exact aL e|ins C d fs=>obtain⟨_,_,_,e,_⟩:=x;exact aL e|own y=>obtain⟨_,e⟩:=x;exact aL e|xd fs=>obtain⟨_,⟨_,_,_,e,_⟩,_⟩:=x;exact aL e|rng lo i=>obtain⟨_,_,_,e⟩:=x;exact aL e|frz ob u=>obtain⟨e,_⟩:=x;exact aL e|tbl ps=>exact aL (show h.get? a=some _ from x)|met f y=>exact aL (show h.get? a=some _ from x)|ext φ=>obtain⟨_,⟨_,e⟩,_⟩:=x;exact aL e
theorem Paired.mapP {β:Type}{F G:α->β->Prop}:∀{L:List α}{l:List β},Paired F L l->(∀a b,F a b->G a b)->Paired G L l
 |_,_,.nil,_=>.nil|_,_,.cons r t,f=>.cons (f _ _ r) (Paired.mapP t f)
def jv.stay (x:jv P w H h a o)(k:∀b u,(b=a∨H b=some (.own a))->h.get? b=some u->h'.get? b=some u)
  (ho:∀b,H b=some (.own a)->H' b=some (.own a))(l:∀b xs,H b=some (.tup xs)->H' b=some (.tup xs)):jv P w H' h' a o:=by
 induction o with
 |lst xs=>obtain⟨z,i,n,r,e⟩:=x;exact⟨z,i,n,r,k _ _ (.inl rfl) e⟩|tup xs=>obtain⟨z,i,r,ob,e,c⟩:=x;exact⟨z,i,r,ob,k _ _ (.inl rfl) e,c⟩|dK kvs=>obtain⟨z,y,vs,r,ob,E,g,e,c⟩:=x;exact⟨z,y,vs,r,ob,E,g,k _ _ (.inl rfl) e,c⟩|dT kvs=>
  obtain⟨z,y,xs,r,ob,E,g,e,c⟩:=x;exact⟨z,y,xs,Paired.mapP r λp q z=>⟨z.1,l _ _ z.2.1,z.2.2⟩,ob,E,g,k _ _ (.inl rfl) e,c⟩
 |set S n=>obtain⟨ob,E,g,t,e,c⟩:=x;exact⟨ob,E,g,t,k _ _ (.inl rfl) e,c⟩|ins C D fs=>
  obtain⟨d,z,ne,e,M,⟨j,E,g,s,c⟩,r⟩:=x;exact⟨ho _ d,z,ne,k _ _ (.inl rfl) e,M,⟨j,E,g,k _ _ (.inr d) s,c⟩,r⟩
 |own y=>obtain⟨ob,e⟩:=x;exact⟨ob,k _ _ (.inl rfl) e⟩|xd fs=>obtain⟨M,⟨j,E,g,e,c⟩,r⟩:=x;exact⟨M,⟨j,E,g,k _ _ (.inl rfl) e,c⟩,r⟩|rng lo A=>obtain⟨t,u,v,e⟩:=x;exact⟨t,u,v,k _ _ (.inl rfl) e⟩|frz ob u I=>obtain⟨e,q⟩:=x;exact⟨k _ _ (.inl rfl) e,I q⟩|tbl ps=>
  have e:h.get? a=some { cls:=.none,data:=.fields ps }:=x;show h'.get? a=some { cls:=.none,data:=.fields ps };exact k a _ (.inl rfl) e
 |met f y=>
  have e:h.get? a=some (methodObj (.ref f) (.ref y)):=x;show h'.get? a=some (methodObj (.ref f) (.ref y));exact k a _ (.inl rfl) e
 |ext φ=>obtain⟨p,⟨o,e⟩,st⟩:=x;exact⟨st _ _ p λo q=>k _ _ (.inl rfl) q,⟨o,k _ _ (.inl rfl) e⟩,st⟩
theorem jy.lt (x:jy P w H h)(e:H a=some o):a<h.objs.size:=(x a o e).lt
def jy.fresh (x:jy P w H h)(e:h.objs.size<=a):H a=none:=by
 cases q:H a with
 |none=>rfl|some u=>exact absurd (aE (x.lt q) e) (aV _)
def jy.kept (x:jy P w H h)(k:∀b u,h.get? b=some u->h'.get? b=some u):jy P w H h':=λa o e=>
 (x a o e).stay (λb u _ q=>k b u q) (λ_ q=>q) λ_ _ q=>q
def jy.laid (x:jy P w H h)(k:∀b u,h.get? b=some u->h'.get? b=some u)(p:h.objs.size<=a)(new:jv P w (upd H a o) h' a o):jy P w (upd H a o) h':=λb u e=>by
 have hn:=x.fresh p
 by_cases d:b=a
 ·subst d;rw[j5]at e;cases e;exact new
 ·rw[qz d]at e
  exact(x b u e).stay (λc v _ q=>k c v q) (λc q=>by rw[qz (kT q hn)];exact q) λc xs q=>by rw[qz (kT q hn)];exact q
end
def Rd (H:Hp)(a:Addr)(u:HO):Prop:=H a=some u∨∃o,H a=some (.frz o u)
def Rd.ok {H:Hp}{u:HO}(r:Rd H a u)(x:jy P w H h):jv P w H h a u:=by
 rcases r with r|⟨o,r⟩
 ·exact x a u r
 ·obtain⟨_,q⟩:=x a _ r
  exact q
noncomputable def WR:Option HO->Prop
 |some (.lst _)=>True|some (.dK _)=>True|some (.dT _)=>True|some (.set _ _)=>True|some (.ins _ _ _)=>True|some (.ext _)=>True|_=>False
section
variable {H:Hp}{x e:Addr}{o':HO}
def jy.write (ok:jy P w H h)(M:WR (H x))(he:e=x∨H e=some (.own x))(k:∀b u,b≠e->h.get? b=some u->h'.get? b=some u)(o:∃u,h'.get? e=some u)
  (new:jv P w (upd H x o') h' x o'):jy P w (upd H x o') h':=λb u q=>by
 have n:∀c y,H c=some (.own y)->c≠x:=λc y r z=>by subst z;rw[r]at M;exact M
 have N:∀c xs,H c=some (.tup xs)->c≠x:=λc xs r z=>by subst z;rw[r]at M;exact M
 by_cases f:b=x
 ·subst f;rw[j5]at q;cases q;exact new
 ·rw[qz f]at q
  by_cases a:b=e
  ·have Q:H b=some (.own x):=by
    rcases he with z|z
    ·exact absurd (a.trans z) f
    ·rw[a];exact z
   rw[q]at Q;cases Q;obtain⟨v,g⟩:=o;exact⟨v,by rw[a];exact g⟩
  ·refine(ok b u q).stay (λc v d r=>k c v ?_ r) (λc r=>by rw[qz (n c b r)];exact r) λc xs r=>by rw[qz (N c xs r)];exact r
   rcases d with rfl|d
   ·exact a
   ·rintro rfl
    rcases he with z|z
    ·exact n c b d z
    ·rw[d]at z;cases z;exact f rfl
end
structure Un (fs ex:bM)(H H':Hp)(h h':Heap):Prop where
 keep:∀b o,h.get? b=some o->H b=none->b∉fs->b∉ex->h'.get? b=some o
 slot:∀b o,h.get? b=some o->H b=none->b∈fs->b∉ex->∃sl,h'.get? b=some { o with slots:=sl }
 free:∀b o,h.get? b=some o->H b=none->b∉ex->H' b=none
 there:∀b o,h.get? b=some o->b∉ex->∃o',h'.get? b=some o'
 tups:∀b xs,H b=some (.tup xs)->H' b=some (.tup xs)
 frzs:∀b o u,H b=some (.frz o u)->H' b=some (.frz o u)
 tbls:∀b ps,H b=some (.tbl ps)->∃more,H' b=some (.tbl (ps++more))
section
variable {fs ex:bM}{H H1:Hp}{h1:Heap}{x e:Addr}{o:HO}
def Un.any (u:Un fs ex H H1 h h1){ob:Obj}(q:h.get? b=some ob)(n:H b=none)(x:b∉ex):∃sl,h1.get? b=some { ob with slots:=sl }:=by
 by_cases a:b∈fs
 ·exact u.slot b ob q n a x
 ·exact⟨ob.slots,u.keep b ob q n a x⟩
def Un.kept (k:∀b u,h.get? b=some u->h'.get? b=some u):Un fs ex H H h h':=
 ⟨λb ob q _ _ _=>k b ob q,λb ob q _ _ _=>⟨ob.slots,k b ob q⟩,λ_ _ _ n _=>n,λb ob q _=>⟨ob,k b ob q⟩,λ_ _ q=>q,λ_ _ _ q=>q,λ_ ps q=>⟨#[],by rw[q];simp⟩⟩
def Un.refl:Un fs ex H H h h:=Un.kept λ_ _ q=>q
def Un.laid (k:∀b u,h.get? b=some u->h'.get? b=some u)(p:h.objs.size<=a)(hn:H a=none):Un fs ex H (upd H a o) h h' where
 keep:=λb u q _ _ _=>k b u q
 slot:=λb u q _ _ _=>⟨u.slots,k b u q⟩
 free:=λb u q n _=>by rw[qz (aQ (aE (aL q) p))];exact n
 there:=λb u q _=>⟨u,k b u q⟩
 tups:=λb xs q=>by rw[qz (kT q hn)];exact q
 frzs:=λb u xs q=>by rw[qz (kT q hn)];exact q
 tbls:=λb ps q=>⟨#[],by rw[qz (kT q hn),q];simp⟩
def Un.write (M:WR (H x))(he:e=x∨H e=some (.own x))(k:∀b u,b≠e->h.get? b=some u->h'.get? b=some u)(c:∃u,h'.get? e=some u):Un fs ex H (upd H x o) h h':=by
 have d:∀b,H b=none->b≠x:=λb n z=>by subst z;rw[n]at M;exact M
 have f:∀b,H b=none->b≠e:=λb n z=>by
  subst z;rcases he with r|r
  ·exact d b n r
  ·rw[n]at r;cases r
 have hm:∀b u,H b=some u->¬WR (some u)->b≠x:=λb u q nm z=>by subst z;rw[q]at M;exact nm M
 refine⟨λb u q n _ _=>k b u (f b n) q,λb u q n _ _=>⟨u.slots,k b u (f b n) q⟩,λb u q n _=>by rw[qz (d b n)];exact n,λb u q _=>?_,
  λb xs q=>by rw[qz (hm b _ q λz=>z)];exact q,λb u xs q=>by rw[qz (hm b _ q λz=>z)];exact q,λb ps q=>⟨#[],by rw[qz (hm b _ q λz=>z),q];simp⟩⟩
 by_cases a:b=e
 ·subst a;exact c
 ·exact⟨u,k b u a q⟩
end
noncomputable def Vm (h:Heap)(H:Hp):bM:=(List.range h.objs.size).filter λa=>(H a).isSome
def ZT (h:Heap)(H:Hp):Heap:=hideAll h (Vm h H)
def Ai (h:Heap)(H:Hp):(ZT h H).objs.size=h.objs.size:=hideAll_size _ _
def cF {H:Hp}{o:Obj}(e:h.get? b=some o)(n:H b=none):(ZT h H).get? b=some o:=
 bF _ e λhm=>by
  have q:(H b).isSome=true:=(List.mem_filter.mp hm).2;rw[n]at q;simp at q
def cG {H:Hp}{o:Obj}(e:(ZT h H).get? b=some o):h.get? b=some o/\H b=none:=by
 have E:h.get? b=some o:=of_hideAll (Vm h H) e;refine⟨E,?_⟩;cases q:H b with
 |none=>rfl|some x=>
  have hm:b∈Vm h H:=List.mem_filter.mpr ⟨cj.mpr (aL E),by simp[q]⟩
  have z:(ZT h H).get? b=none:=hideAll_none (Vm h H) hm;rw[z]at e;cases e
structure Mod (K:Frag)(mg:bZ)(base:Heap):Prop where
 kin:K.In base
 glob:base.Ns mainGlobals mg
 blt:∃mb,base.Ns builtinsNs mb/\∀x:Str,x ≠ "__name__" -> mb x=bootBuiltins x
 nolimit:base.NoLimit
structure Cx where
 prog:Program
 w:World
 K:Frag
 mg:Str->Option Value
 base:Heap
 A:Around
 N:bR
 s0:Shared
 H0:Hp
 env:Env
 outer:b0
 stack:b0
 ex:bM
 fn:Str->Bool
 calm:Bool
 pn:bN
 xe:Value->Shared->Prop
noncomputable def qR (l:b0):bM:=l.filterMap (·.frame)
abbrev Cx.fs (X:Cx):bM:=qR X.outer
def W6 (sc:Scope)(x:Str):Prop:=sc.names.lookup x=some .local∨sc.names.lookup x=some .cell∨sc.names.lookup x=some .free
def Loc (sc:Scope)(x:Str):Prop:=sc.names.lookup x=some .local∨sc.names.lookup x=some .cell
def Look (env:Env)(h:Heap)(m:bZ)(x:Str)(u:Value):Prop:=
 (env.kindOf x=some .local/\m x=some u)∨((env.kindOf x=some .cell∨env.kindOf x=some .free)/\∃c,env.cells.lookup x=some c/\h.IsCell c (some u))
structure Cx.Ok (X:Cx):Prop where
 mod:Mod X.K X.mg X.base
 kind:X.env.scope.kind=.function
 glob:X.env.globals=mainGlobals
 blt:X.env.builtins=builtinsNs
 above:X.s0.heap.objs.size<=X.env.locals
 inj:∀x y c,X.env.cells.lookup x=some c->X.env.cells.lookup y=some c->x=y
 has:∀x,(X.env.kindOf x=some .cell∨X.env.kindOf x=some .free)->∃c,X.env.cells.lookup x=some c
 cab:∀x c,X.fn x=true->X.env.cells.lookup x=some c->X.s0.heap.objs.size<=c
 hd:X.calm=true->X.A.handled=none
 frames:X.A.frames=some X.stack
 stk:X.stack=X.outer∨(X.stack=X.env::X.outer/\X.env.frame=some X.env.locals)
 exf:∀b∈X.ex,b≠X.env.locals/\∀x c,X.env.cells.lookup x=some c->c≠b
 bs:∀b o,X.base.get? b=some o->X.s0.heap.get? b=some o/\X.H0 b=none
 bsz:X.base.objs.size<=X.s0.heap.objs.size
 noex:∀b o,X.base.get? b=some o->b∉X.ex
 exfs:∀b∈X.ex,b∉X.fs
 funs:X.s0.heap.FunFrames X.base X.outer
 frf:∀b∈X.fs,X.H0 b=none
structure Inv (X:Cx)(pins:bN)(σ:List (Option V))(H:Hp)(s:Shared):Prop where
 ok:X.Ok
 os:s.os=X.s0.os
 bare:AllBare s.gens
 base:Un X.fs X.ex X.H0 H X.s0.heap s.heap
 loc:∃m,s.heap.Ns X.env.locals m/\∀(i:Nat)(x:Str)(v:V),X.N[i]? =some x->σ[i]? =some (some v)->W6 X.env.scope x->∃u,RelV v u/\Look X.env s.heap m x u
 cell:∀x c,X.env.cells.lookup x=some c->∃v,s.heap.IsCell c v
 free:H X.env.locals=none
 freeC:∀x c,X.env.cells.lookup x=some c->H c=none
 pin:∀p∈X.pn++pins,s.heap.get? p.1=some p.2/\H p.1=none/\p.1≠X.env.locals/\p.1∉X.fs/\∀v,p.2.data≠.cell v
 hok:jy X.prog X.w H s.heap
 len:σ.length=X.N.length
section
variable {X:Cx}{σ:List (Option V)}{H H':Hp}
def Cx.Ok.nofr (ok:X.Ok){o:Obj}(e:X.base.get? b=some o):b∉X.fs:=λh=>by
 have:=(ok.funs.mem h).1
 rw[e]at this;cases this
theorem Inv.bs (I:Inv X pins σ H s):∀b o,X.base.get? b=some o->s.heap.get? b=some o/\H b=none:=λb o e=>
 ⟨I.base.keep b o (I.ok.bs b o e).1 (I.ok.bs b o e).2 (I.ok.nofr e) (I.ok.noex b o e),I.base.free b o (I.ok.bs b o e).1 (I.ok.bs b o e).2 (I.ok.noex b o e)⟩
def Inv.bk (I:Inv X pins σ H s):∀b o,X.base.get? b=some o->s.heap.get? b=some o:=λb o e=>(I.bs b o e).1
theorem Inv.mod (I:Inv X pins σ H s):Mod X.K X.mg X.base:=I.ok.mod
def Inv.kIn (I:Inv X pins σ H s):X.K.In s.heap:=I.ok.mod.kin.keeps I.bk
theorem Inv.lt (I:Inv X pins σ H s):X.env.locals<s.heap.objs.size:=let ⟨_,hn,_⟩:=I.loc;hn.lt
def Inv.sz (I:Inv X pins σ H s):X.s0.heap.objs.size<=s.heap.objs.size:=a4 I.ok.above (bz I.lt)
def Inv.nofs (I:Inv X pins σ H s)(h:s.heap.objs.size<=a):a∉X.fs:=λb=>by
 obtain⟨_,o,ho,_⟩:=I.ok.funs.mem b;exact absurd (aE (aL ho) (a4 I.sz h)) (aV _)
def Inv.cne (I:Inv X pins σ H s):∀x c,X.env.cells.lookup x=some c->c≠X.env.locals:=λx c e z=>by
 obtain⟨v,o,ho,hd⟩:=I.cell x c e;obtain⟨m,⟨o',E,p,h,a,_⟩,_⟩:=I.loc;rw[z,h]at ho;cases ho;rw[a]at hd;cases hd
theorem Inv.funs (I:Inv X pins σ H s):s.heap.FunFrames X.base X.outer:=by
 have all:∀(l:b0),(∀b∈qR l,b∈X.fs)->X.s0.heap.FunFrames X.base l->s.heap.FunFrames X.base l:=by
  intro l
  induction l with
  |nil=>intro _ _;trivial|cons env r i=>
   intro c hl;obtain⟨f,⟨L,o,hf,hn,ho,hd⟩,d⟩:=hl;have a:L∈X.fs:=c L (by unfold qR;rw[bc,hf];exact aB)
   obtain⟨sl,e⟩:=I.base.slot L o ho (I.ok.frf L a) a λz=>I.ok.exfs L z a;exact⟨f,⟨L,_,hf,hn,e,hd⟩,i (λb h=>c b (by unfold qR;rw[bc,hf];exact au _ h)) d⟩
 exact all X.outer (λ_ h=>h) I.ok.funs
theorem Inv.stack (I:Inv X pins σ H s):s.heap.FunFrames X.base X.stack:=by
 rcases I.ok.stk with e|⟨e,hf⟩
 ·rw[e];exact I.funs
 ·rw[e]
  obtain⟨m,hn,_⟩:=I.loc;refine .cons (by rw[I.ok.kind];decide) hf hn ?_ I.funs
  exact Heap.get?_none_of_le (a4 I.ok.bsz I.ok.above)
def Inv.stkSub (I:Inv X pins σ H s):∀b∈qR X.stack,b∈X.env.locals::X.fs:=λb h=>by
 rcases I.ok.stk with e|⟨e,hf⟩
 ·rw[e]at h;exact au _ h
 ·rw[e]at h
  unfold qR at h;rw[bc,hf]at h;exact h
def Inv.stkFree (I:Inv X pins σ H s):∀b∈qR X.stack,H b=none:=λb h=>by
 rcases cm.mp (I.stkSub b h) with e|h
 ·rw[e];exact I.free
 ·obtain⟨_,o,ho,_⟩:=I.ok.funs.mem h
  exact I.base.free b o ho (I.ok.frf b h) λz=>I.ok.exfs b z h
def Inv.step {g':Array GenState}{d':Drawn}{ch:bM}(I:Inv X pins σ H s)
  (a:∀b∈ch,(b∈X.ex∨X.s0.heap.objs.size<=b)/\b≠X.env.locals/\(∀x c,X.env.cells.lookup x=some c->c≠b)/\∀p∈X.pn++pins,p.1≠b)
  (keep:∀b o,b≠X.env.locals->b∉X.fs->b∉ch->s.heap.get? b=some o->H b=none->h'.get? b=some o)
  (slot:∀b o,b≠X.env.locals->b∈X.fs->b∉ch->s.heap.get? b=some o->H b=none->∃sl,h'.get? b=some { o with slots:=sl })(free:∀b o,b∉ch->s.heap.get? b=some o->H b=none->H' b=none)
  (there:∀b o,b∉ch->s.heap.get? b=some o->∃o',h'.get? b=some o')
  (tups:∀b xs,H b=some (.tup xs)->H' b=some (.tup xs))(frzs:∀b o u,H b=some (.frz o u)->H' b=some (.frz o u))(tbls:∀b ps,H b=some (.tbl ps)->∃more,H' b=some (.tbl (ps++more)))
  (ns:∀m,s.heap.Ns X.env.locals m->h'.Ns X.env.locals m)(hok:jy X.prog X.w H' h')(A:AllBare g'):
  Inv X pins σ H' { s with heap:=h',gens:=g',drawn:=d',toks:=t' }:=by
 have L:∀b o,X.s0.heap.get? b=some o->b≠X.env.locals:=λb o e=>aQ (aE (aL e) I.ok.above);have C:∀b o,X.s0.heap.get? b=some o->b∉X.ex->b∉ch:=λb o e h f=>by
  rcases(a b f).1 with z|z
  ·exact h z
  ·exact absurd (aE (aL e) z) (aV _)
 have cellK:∀x c,X.env.cells.lookup x=some c->∀v,s.heap.IsCell c v->h'.IsCell c v:=λx c e v ⟨o,ho,hd⟩=>by
  have N:c∉ch:=λz=>(a c z).2.2.1 x c e rfl
  by_cases y:c∈X.fs
  ·obtain⟨sl,q⟩:=slot c o (I.cne x c e) y N ho (I.freeC x c e)
   exact⟨_,q,hd⟩
  ·exact⟨o,keep c o (I.cne x c e) y N ho (I.freeC x c e),hd⟩
 refine⟨I.ok,I.os,A,⟨λb o e n f h=>?_,λb o e n f h=>?_,λb o e n h=>?_,λb o e h=>?_,λb xs e=>tups b xs (I.base.tups b xs e),λb o xs e=>frzs b o xs (I.base.frzs b o xs e),λb ps e=>?_⟩,?_,λx c e=>?_,?_,λx c e=>?_,λp t=>?_,hok,I.len⟩
 ·exact keep b o (L b o e) f (C b o e h) (I.base.keep b o e n f h) (I.base.free b o e n h)
 ·obtain⟨sl,E⟩:=I.base.slot b o e n f h
  obtain⟨S,g⟩:=slot b _ (L b o e) f (C b o e h) E (I.base.free b o e n h);exact⟨S,g⟩
 ·obtain⟨o',E⟩:=I.base.there b o e h
  exact free b o' (C b o e h) E (I.base.free b o e n h)
 ·obtain⟨o',E⟩:=I.base.there b o e h
  exact there b o' (C b o e h) E
 ·obtain⟨m1,E⟩:=I.base.tbls b ps e
  obtain⟨m2,g⟩:=tbls b _ E;exact⟨m1++m2,by rw[g,Array.append_assoc]⟩
 ·obtain⟨m,hn,hl⟩:=I.loc
  refine⟨m,ns m hn,λi x v E g B=>?_⟩;obtain⟨u,r,l⟩:=hl i x v E g B;refine⟨u,r,?_⟩;rcases l with l|⟨k,c,e,z⟩
  ·exact .inl l
  ·exact .inr ⟨k,c,e,cellK x c e _ z⟩
 ·obtain⟨v,z⟩:=I.cell x c e
  exact⟨v,cellK x c e v z⟩
 ·obtain⟨m,⟨o,_,_,ho,_⟩,_⟩:=I.loc
  exact free _ o (λz=>(a _ z).2.1 rfl) ho I.free
 ·obtain⟨v,o,ho,hd⟩:=I.cell x c e
  exact free c o (λz=>(a c z).2.2.1 x c e rfl) ho (I.freeC x c e)
 ·obtain⟨e,n,ne,j,d⟩:=I.pin p t
  have N:p.1∉ch:=λz=>(a p.1 z).2.2.2 p t rfl;exact⟨keep p.1 p.2 ne j N e n,free p.1 p.2 N e n,ne,j,d⟩
def Inv.un (I:Inv X pins σ H s)(u:Un X.fs [] H H' s.heap h')(hok:jy X.prog X.w H' h'):Inv X pins σ H' { s with heap:=h',toks:=t' }:=by
 obtain⟨m,⟨o,f,p,ho,r⟩,_⟩:=id I.loc;obtain⟨sl,L⟩:=u.any ho I.free (by simp)
 exact I.step (g':=s.gens) (d':=s.drawn) (ch:=[]) (λ_ z=>nomatch z) (λb o _ a _ e n=>u.keep b o e n a (by simp)) (λb o _ a _ e n=>u.slot b o e n a (by simp)) (λb o _ e n=>u.free b o e n (by simp)) (λb o _ e=>u.there b o e (by simp)) u.tups u.frzs u.tbls (λM hm=>by
  obtain⟨o',E,c,h,d⟩:=hm;rw[ho]at h;cases h;exact⟨_,E,c,L,d⟩) hok I.bare
def Inv.call {g':Array GenState}{d':Drawn}{ch:bM}(I:Inv X pins σ H s)(u:Un (qR X.stack) ch H H' s.heap h')(hok:jy X.prog X.w H' h')(i:AllBare g')
  (d:∀b∈ch,(b∈X.ex∨X.s0.heap.objs.size<=b)/\b≠X.env.locals/\(∀x c,X.env.cells.lookup x=some c->c≠b)/\∀p∈X.pn++pins,p.1≠b):
  Inv X pins σ H' { s with heap:=h',gens:=g',drawn:=d',toks:=t' }:=by
 obtain⟨m,⟨o,l,q,ho,r⟩,_⟩:=id I.loc;obtain⟨sl,L⟩:=u.any ho I.free λz=>(d _ z).2.1 rfl;exact I.step (ch:=ch) d (λb o L j h e n=>u.keep b o e n (λz=>(cm.mp (I.stkSub b z)).elim L j) h) (λb o _ _ h e n=>u.any e n h) (λb o h e n=>u.free b o e n h) (λb o h e=>u.there b o e h) u.tups u.frzs u.tbls (λM hm=>by
  obtain⟨o',E,f,a,g⟩:=hm;rw[ho]at a;cases a;exact⟨_,E,f,L,g⟩) hok i
def Inv.turned {it:Addr}(I:Inv X pins σ H s)(k:∀b o,b≠it->s.heap.get? b=some o->h'.get? b=some o)(hn:H it=none)(L:it≠X.env.locals)
  (h1:it∈X.ex∨X.s0.heap.objs.size<=it)(h2:∀x c,X.env.cells.lookup x=some c->c≠it)(d:∀p∈X.pn++pins,p.1≠it):Inv X pins σ H { s with heap:=h',toks:=t' }:=by
 have N:∀b u,H b=some u->b≠it:=λb u e z=>by rw[z,hn]at e;cases e
 refine I.step (g':=s.gens) (d':=s.drawn) (ch:=[it]) (λb a=>?_) (λb o _ _ h e _=>k b o (λz=>h (by simp[z])) e) (λb o _ _ h e _=>⟨o.slots,k b o (λz=>h (by simp[z])) e⟩) (λ_ _ _ _ n=>n)
  (λb o h e=>⟨o,k b o (λz=>h (by simp[z])) e⟩) (λ_ _ e=>e) (λ_ _ _ e=>e) (λb ps e=>⟨#[],by rw[e];simp⟩) (λm hm=>?_) (λb u e=>?_) I.bare
 ·have e:b=it:=by simpa using a
  subst e;exact⟨h1,L,h2,d⟩
 ·obtain⟨o,E,f,ho,r⟩:=hm
  exact⟨o,E,f,k _ o (Ne.symm L) ho,r⟩
 ·refine(I.hok b u e).stay (λc v h q=>k c v ?_ q) (λ_ q=>q) λ_ _ q=>q
  rcases h with z|z
  ·rw[z];exact N b u e
  ·exact N c _ z
def Inv.tok (I:Inv X pins σ H s)(t:Nat):Inv X pins σ H { s with toks:=t }:=I.un (h':=s.heap) (t':=t) Un.refl I.hok
theorem Inv.kept (I:Inv X pins σ H s)(k:∀b u,s.heap.get? b=some u->h'.get? b=some u):Inv X pins σ H { s with heap:=h',toks:=t' }:=I.un (Un.kept k) (I.hok.kept k)
theorem Inv.laid {o:HO}(I:Inv X pins σ H s)(k:∀b u,s.heap.get? b=some u->h'.get? b=some u)(h:s.heap.objs.size<=a)(new:jv X.prog X.w (upd H a o) h' a o):
  Inv X pins σ (upd H a o) { s with heap:=h',toks:=t' }:=I.un (Un.laid k h (I.hok.fresh h)) (I.hok.laid k h new)
theorem Inv.write {x e:Addr}{o:HO}(I:Inv X pins σ H s)(M:WR (H x))(he:e=x∨H e=some (.own x))(k:∀b u,b≠e->s.heap.get? b=some u->h'.get? b=some u)(h:∃u,h'.get? e=some u)
  (new:jv X.prog X.w (upd H x o) h' x o):Inv X pins σ (upd H x o) { s with heap:=h',toks:=t' }:=I.un (Un.write M he k h) (I.hok.write M he k h new)
def Inv.pins_of {P:bN}(I:Inv X pins σ H s)(h:∀p∈P,s.heap.get? p.1=some p.2/\H p.1=none/\p.1≠X.env.locals/\p.1∉X.fs/\∀v,p.2.data≠.cell v):Inv X P σ H s:=
 ⟨I.ok,I.os,I.bare,I.base,I.loc,I.cell,I.free,I.freeC,λp a=>(cx.mp a).elim (λz=>I.pin p (a8 _ z)) (h p),I.hok,I.len⟩
def UN (h:N.Nodup)(a:N[i]? =some x)(b:N[j]? =some x):i=j:=by
 obtain⟨h1,E⟩:=ck.mp a;obtain⟨h2,e⟩:=ck.mp b;exact(List.getElem_inj h).mp (E.trans e.symm)
def NA {A:Around}{v:V}{Q:Unit->Shared->Prop}(I:Inv X pins σ H s)(hN:X.N.Nodup)(U:X.N[i]? =some x)(t:Loc X.env.scope x)(r:RelV v u)
  (h:∀s',Inv X pins (σ.set i (some v)) H s'->(∃a,Heap.SameBut a s.heap s'.heap/\(a=X.env.locals∨X.env.cells.lookup x=some a))->Q () s')(hf:X.fn x=true∨X.env.scope.names.lookup x=some .local:=by first|exact .inl rfl|exact .inr rfl|assumption):wpAny M A (storeName X.env x u) Q E s:=by
 obtain⟨m,hn,hl⟩:=id I.loc;have Y:(X.env.scope.kind==.class || (X.env.scope.kind==.module&&X.env.locals != X.env.globals))=false:=by rw[I.ok.kind];rfl
 have J:i < σ.length:=by rw[I.len];exact(ck.mp U).1
 have cne:=I.cne;have tracked:∀{a:Addr}{h':Heap},(∃o,s.heap.get? a=some o/\H a=none)->Heap.SameBut a s.heap h'->jy X.prog X.w H h':=λ {a h'} ha f b ob e=>by
  obtain⟨_,_,B⟩:=ha;refine(I.hok b ob e).stay (λc w' l q=>(f.2 c ?_).trans q) (λ_ q=>q) λ_ _ q=>q
  rintro rfl
  rcases l with rfl|l
  ·rw[B]at e;cases e
  ·rw[B]at l;cases l
 rcases t with D|D
 ·refine wpAny_storeName_local D hn (λh' hn' f=>?_) Y
  obtain⟨oL,_,_,hoL,_⟩:=id hn;refine h _ ⟨I.ok,I.os,I.bare,⟨λb o e n P t=>?_,λb o e n P t=>?_,I.base.free,λb o e t=>?_,I.base.tups,I.base.frzs,I.base.tbls⟩,⟨_,hn',λj y v' g C e3=>?_⟩,λy c e=>?_,I.free,I.freeC,λp hp=>?_,tracked ⟨oL,hoL,I.free⟩ f,by simpa using I.len⟩ ⟨_,f,.inl rfl⟩
  ·exact(f.2 b (aQ (aE (aL e) I.ok.above))).trans (I.base.keep b o e n P t)
  ·obtain⟨sl,g⟩:=I.base.slot b o e n P t
   exact⟨sl,(f.2 b (aQ (aE (aL e) I.ok.above))).trans g⟩
  ·obtain⟨o',g⟩:=I.base.there b o e t
   exact⟨o',(f.2 b (aQ (aE (aL e) I.ok.above))).trans g⟩
  ·by_cases K:j=i
   ·subst K
    rw[U]at g;cases g;rw[aC J]at C;cases C;exact⟨u,r,.inl ⟨D,by simp⟩⟩
   ·rw[az (Ne.symm K)]at C
    obtain⟨u',r',q⟩:=hl j y v' g C e3;refine⟨u',r',?_⟩;rcases q with ⟨k,e⟩|⟨k,c,e,z⟩
    ·refine .inl ⟨k,?_⟩
     have:y≠x:=λe=>K (UN hN g (e ▸ U))
     simp[this,e]
    ·exact .inr ⟨k,c,e,z.sameBut f (cne y c e)⟩
  ·obtain⟨w',z⟩:=I.cell y c e
   exact⟨w',z.sameBut f (cne y c e)⟩
  ·obtain⟨e,n,ne,nf,d⟩:=I.pin p hp
   exact⟨(f.2 p.1 ne).trans e,n,ne,nf,d⟩
 ·have L:X.fn x=true:=by
   rcases hf with z|z
   ·exact z
   ·rw[z]at D;cases D
  obtain⟨c,l⟩:=I.ok.has x (.inl D);obtain⟨w',z⟩:=I.cell x c l;refine wpAny_storeName_cell I.ok.kind D l z (λh' hc' f=>?_);obtain⟨oc,T,S⟩:=id z;refine h { s with heap:=h' } ⟨I.ok,I.os,I.bare,⟨λb o e n P t=>?_,λb o e n P t=>?_,I.base.free,λb o e t=>?_,I.base.tups,I.base.frzs,I.base.tbls⟩,⟨m,hn.sameBut f (Ne.symm (cne x c l)),λj y v' g C e3=>?_⟩,λy c' e=>?_,I.free,I.freeC,λp hp=>?_,tracked ⟨oc,T,I.freeC x c l⟩ f,by simpa using I.len⟩ ⟨c,f,.inr l⟩
  ·exact(f.2 b (aQ (aE (aL e) (I.ok.cab x c L l)))).trans (I.base.keep b o e n P t)
  ·obtain⟨sl,g⟩:=I.base.slot b o e n P t
   exact⟨sl,(f.2 b (aQ (aE (aL e) (I.ok.cab x c L l)))).trans g⟩
  ·obtain⟨o',g⟩:=I.base.there b o e t
   exact⟨o',(f.2 b (aQ (aE (aL e) (I.ok.cab x c L l)))).trans g⟩
  ·by_cases K:j=i
   ·subst K
    rw[U]at g;cases g;rw[aC J]at C;cases C;exact⟨u,r,.inr ⟨.inl D,c,l,hc'⟩⟩
   ·rw[az (Ne.symm K)]at C
    obtain⟨u',r',q⟩:=hl j y v' g C e3;refine⟨u',r',?_⟩;rcases q with q|⟨k,c',e,z'⟩
    ·exact .inl q
    ·refine .inr ⟨k,c',e,z'.sameBut f ?_⟩
     rintro rfl
     exact K (UN hN g (I.ok.inj _ _ _ e l ▸ U))
  ·by_cases Z:c'=c
   ·subst Z;exact⟨_,hc'⟩
   ·obtain⟨w2,z2⟩:=I.cell y c' e
    exact⟨w2,z2.sameBut f Z⟩
  ·obtain⟨e,n,ne,nf,d⟩:=I.pin p hp
   refine⟨(f.2 p.1 ?_).trans e,n,ne,nf,d⟩;intro q;rw[q,T]at e;have q':oc=p.2:=aF e;exact d w' (by rw[<- q'];exact S)
def Yk {A:Around}{v:V}{Q:Unit->Shared->Prop}(I:Inv X pins σ H s)(c:X.N.Nodup)(b:X.N[i]? =some x)(a:Loc X.env.scope x)(r:RelV v u)
  (h:∀s',Inv X pins (σ.set i (some v)) H s'->Q () s')(hf:X.fn x=true∨X.env.scope.names.lookup x=some .local:=by first|exact .inl rfl|exact .inr rfl|assumption):wpAny M A (storeName X.env x u) Q E s:=
 NA I c b a r (λs' d _=>h s' d) hf
def Inv.call' {ch:bM}(I:Inv X pins σ H s)(ho:s'.os=s.os)(u:Un (qR X.stack) ch H H' s.heap s'.heap)(hok:jy X.prog X.w H' s'.heap)(g:AllBare s'.gens)
  (h:∀b∈ch,(b∈X.ex∨X.s0.heap.objs.size<=b)/\b≠X.env.locals/\(∀x c,X.env.cells.lookup x=some c->c≠b)/\∀p∈X.pn++pins,p.1≠b):Inv X pins σ H' s':=by
 obtain⟨h',g',d',t',o'⟩:=s';have e:o'=s.os:=ho;subst e;exact I.call (g':=g') (t':=t') (d':=d') u hok g h
end
abbrev XK:=Value->Option Addr->Hp->Prop
noncomputable abbrev St:=List (Option V)
abbrev VK:=V->Hp->Prop
abbrev TE:=St->Hp->VK->Prop
abbrev TT:=St->Hp->(Bool->Hp->Prop)->Prop
abbrev TA:=St->Hp->(List V->Hp->Prop)->Prop
structure Ends where
 nx:St->Hp->Prop
 rt:VK
 bk:St->Hp->Prop:=λ_ _=>False
 ct:St->Hp->Prop:=λ_ _=>False
abbrev TS:=Ends->St->Hp->Prop
inductive EP (X:Cx)(pins:bN)(σ:St)(Q:VK)(u:Value)(s':Shared):Prop
 |mk (v:V) (H':Hp) (I:Inv X pins σ H' s') (r:RelV v u) (q:Q v H')
def TP (X:Cx)(pins:bN)(σ:St)(Q:Bool->Hp->Prop)(b:Bool)(s':Shared):Prop:=∃H,Inv X pins σ H s'/\Q b H
inductive AP (X:Cx)(pins:bN)(σ:St)(Q:List V->Hp->Prop)(us:bL)(s':Shared):Prop
 |mk (vs:List V) (H':Hp) (I:Inv X pins σ H' s') (r:Vals vs us) (q:Q vs H')
def SP (X:Cx)(pins:bN)(D:Ends)(f:Flow)(s':Shared):Prop:=
 match f with
 |.next=>∃a H,Inv X pins a H s'/\D.nx a H|.brk=>∃a H,Inv X pins a H s'/\D.bk a H|.cont=>∃a H,Inv X pins a H s'/\D.ct a H|.ret u=>∃v a H,Inv X pins a H s'/\RelV v u/\D.rt v H
def PE (X:Cx)(e:Expr)(t:TE):Prop:=
 ∀(pins:bN)(s:Shared)(σ:St)(H:Hp)(Q:VK),Inv X pins σ H s->t σ H Q->wpAny (model X.prog X.w) X.A (eval e X.env) (EP X pins σ Q) X.xe s
def PT (X:Cx)(e:Expr)(t:TT):Prop:=
 ∀(pins:bN)(s:Shared)(σ:St)(H:Hp)(Q:Bool->Hp->Prop),Inv X pins σ H s->t σ H Q->wpAny (model X.prog X.w) X.A (isTrue e X.env (eval e X.env)) (TP X pins σ Q) X.xe s
def PW (X:Cx)(e:Expr)(t:TT):Prop:=
 ∀(whole:Sem Value)(pins:bN)(s:Shared)(σ:St)(H:Hp)(Q:Bool->Hp->Prop),Inv X pins σ H s->t σ H Q->wpAny (model X.prog X.w) X.A (isTrue e X.env whole) (TP X pins σ Q) X.xe s
def PW.pt {X:Cx}{t:TT}(h:PW X e t):PT X e t:=h _
def PA (X:Cx)(e:bU)(t:TA):Prop:=
 ∀(pos:Pos)(pins:bN)(s:Shared)(σ:St)(H:Hp)(Q:List V->Hp->Prop),Inv X pins σ H s->t σ H Q->wpAny (model X.prog X.w) X.A (spliced (backTo pos (starEach e X.env))) (AP X pins σ Q) X.xe s
def PS (X:Cx)(st:Stmt)(t:TS):Prop:=
 ∀(pins:bN)(s:Shared)(σ:St)(H:Hp)(D:Ends),Inv X pins σ H s->t D σ H->wpAny (model X.prog X.w) X.A (exec st X.env) (SP X pins D) X.xe s
def yM (X:Cx)(st:cc)(t:TS):Prop:=
 ∀(pins:bN)(s:Shared)(σ:St)(H:Hp)(D:Ends),Inv X pins σ H s->t D σ H->wpAny (model X.prog X.w) X.A (execs st X.env) (SP X pins D) X.xe s
def zY {t:Sem α}{Q Q':α->Shared->Prop}{A:Around}(h:wpAny M A t Q E s)(H:∀a s,Q a s->Q' a s):wpAny M A t Q' E s:=wpAny_mono h H λ_ _ x=>x
section
variable {X:Cx}
noncomputable def cH (i:Nat):TE:=λσ H Q=>∃v,σ[i]? =some (some v)/\Q v H
noncomputable def tC (v:V):TE:=λ_ H Q=>Q v H
def Lv (j:X.N[i]? =some x)(g:W6 X.env.scope x)(hd:(x==("__debug__":Str))=false:=by decide)(d:(x==("__classdict__":Str))=false:=by decide):PE X (.Name x pos) (cH i):=by
 intro pins s σ H Q I h;obtain⟨v,e,h⟩:=h;obtain⟨m,hn,hl⟩:=I.loc;obtain⟨u,r,l⟩:=hl i x v j e g;have fin:EP X pins σ Q u s:=⟨v,H,I,r,h⟩;rcases l with ⟨b,hm⟩|⟨b,c,f,a⟩
 ·exact wpAny_Name (wpAny_loadName_local I.ok.kind b hn hm fin) hd
 ·rcases b with b|b
  ·exact wpAny_Name (wpAny_loadName_cell I.ok.kind b f a fin) hd
  ·exact wpAny_Name (wpAny_loadName_free I.ok.kind b f a fin d) hd
def L7 {i j pos}:PE X (.Constant (.int i) j pos) (tC (.int i)):=λ_ _ _ H _ I h=>wpAny_Constant_int ⟨.int i,H,I.tok _,⟨_,rfl⟩,h⟩
def cI {b j pos}:PE X (.Constant (.bool b) j pos) (tC (.bl b)):=λ_ _ _ H _ I h=>Constant_bool ⟨.bl b,H,I,rfl,h⟩
def cJ {j pos}:PE X (.Constant .none j pos) (tC .non):=λ_ _ _ H _ I h=>Constant_none ⟨.non,H,I,rfl,h⟩
def cK {x j pos}:PE X (.Constant (.str x) j pos) (tC (.str x)):=λ_ _ _ H _ I h=>Calls.Constant_str ⟨.str x,H,I.tok _,⟨_,rfl⟩,h⟩
def Gl (X:Cx)(x:Str):Prop:=X.env.kindOf x=some .globalImplicit
def K1 {σ:St}{H:Hp}(I:Inv X pins σ H s)(g:Gl X x)(hm:X.mg x=some u)(h:Q u s)
  (hd:(x==("__debug__":Str))=false:=by decide):wpAny (model X.prog X.w) X.A (eval (.Name x pos) X.env) Q E s:=
 Calls.Name_function_global I.ok.kind g (Calls.loadGlobal_global (by rw[I.ok.glob];exact I.mod.glob.keeps I.bk) hm h) hd
def Qe {σ:St}{H:Hp}(I:Inv X pins σ H s)(g:Gl X x)(hm:X.mg x=none)(v:bootBuiltins x=some u)(h:Q u s)
  (hn:x ≠ "__name__":=by decide)(hd:(x==("__debug__":Str))=false:=by decide):wpAny (model X.prog X.w) X.A (eval (.Name x pos) X.env) Q E s:=by
 obtain⟨M,h1,h2⟩:=I.mod.blt;exact Calls.Name_function_global I.ok.kind g (Calls.loadGlobal_builtin (by rw[I.ok.glob];exact I.mod.glob.keeps I.bk) hm (by rw[I.ok.blt];exact h1.keeps I.bk) ((h2 x hn).trans v) h) hd
def M9 {v:V}(g:Gl X x)(hm:X.mg x=some u)(r:RelV v u)(hd:(x==("__debug__":Str))=false:=by decide):PE X (.Name x pos) (tC v):=
 λ_ _ _ H _ I h=>K1 I g hm ⟨v,H,I,r,h⟩ hd
def G5 {v:V}(g:Gl X x)(hm:X.mg x=none)(a:bootBuiltins x=some u)(r:RelV v u)(hn:x ≠ "__name__":=by decide)(hd:(x==("__debug__":Str))=false:=by decide):PE X (.Name x pos) (tC v):=
 λ_ _ _ H _ I h=>Qe I g hm a ⟨v,H,I,r,h⟩ hn hd
variable {a b:Expr}{ta tb:TE}
def cL (b:Expr)(h:op≠.In)(h2:op≠.NotIn):behindInMarks op b=false:=by
 have E:(op==CmpOp.In)=false:=by cases op<;>first|rfl|exact absurd rfl h
 have e:(op==CmpOp.NotIn)=false:=by cases op<;>first|rfl|exact absurd rfl h2
 cases b<;>simp[behindInMarks,E,e]
noncomputable def tB (t:TE):TT:=λσ H Q=>t σ H λx H1=>∃c,x=.bl c/\Q c H1
def cM {t:TE}(h:PE X e t)(he:∀whole,isTrue e X.env whole=(do let v <- whole;standAt e.pos;holding [v] (truthy v)):=by intro _;rfl):PT X e (tB t):=by
 intro pins s σ H Q I hw;refine isTrue_plain (zY (h pins s σ H _ I hw) λv s1 ⟨x,H1,i,r,a⟩=>?_) (he _);obtain⟨d,rfl,q⟩:=a;cases r;exact wpAny_truthy_bool ⟨H1,i,q⟩
variable {tA tB':TT}{rest:bU}
noncomputable def cN (t u:TT):TT:=λσ H Q=>t σ H λc H1=>if c=true then u σ H1 Q else Q false H1
noncomputable def cO (t u:TT):TT:=λσ H Q=>t σ H λc H1=>if c=true then Q true H1 else u σ H1 Q
noncomputable def cP (t:TT):TT:=λσ H Q=>t σ H λc H1=>Q (!c) H1
def pw_and1 (b:PT X a tA):PW X (.BoolOp .And [a] pos) tA:=by
 intro w pins s σ H Q I h;refine isTrue_and (zY (b pins s σ H Q I h) λc s1 e=>?_);cases c with
 |true=>exact isTrue_and_nil e|false=>exact e
def pw_or1 (b:PT X a tA):PW X (.BoolOp .Or [a] pos) tA:=by
 intro w pins s σ H Q I h;refine isTrue_or (zY (b pins s σ H Q I h) λc s1 e=>?_);cases c with
 |false=>exact isTrue_or_nil e|true=>exact e
def pw_and (e:PT X a tA)(d:PW X (.BoolOp .And (b::rest) pos) tB'):PW X (.BoolOp .And (a::b::rest) pos) (cN tA tB'):=by
 intro w pins s σ H Q I h;refine isTrue_and (zY (e pins s σ H _ I h) λc s1 ⟨H1,i,q⟩=>?_);cases c with
 |true=>exact d w pins s1 σ H1 Q i q|false=>exact⟨H1,i,q⟩
def pw_or (e:PT X a tA)(d:PW X (.BoolOp .Or (b::rest) pos) tB'):PW X (.BoolOp .Or (a::b::rest) pos) (cO tA tB'):=by
 intro w pins s σ H Q I h;refine isTrue_or (zY (e pins s σ H _ I h) λc s1 ⟨H1,i,q⟩=>?_);cases c with
 |true=>exact⟨H1,i,q⟩|false=>exact d w pins s1 σ H1 Q i q
def cQ (b:PT X a tA):PT X (.UnaryOp .Not a pos) (cP tA):=by
 intro pins s σ H Q I h;exact isTrue_not (b pins s σ H (λc H1=>Q (!c) H1) I h)
noncomputable def cR (T t:TE):TE:=λσ H Q=>T σ H λx H1=>∃c,x=.bl c/\if c=true then t σ H1 Q else Q (.bl false) H1
noncomputable def cS (t:TE):TE:=λσ H Q=>t σ H λx H1=>∃c,x=.bl c/\Q (.bl (!c)) H1
def cT {op}{t:TE}(h:PE X a t):PE X (.BoolOp op [a] pos) t:=λpins s σ H Q I hw=>BoolOp_one (h pins s σ H Q I hw)
def cU (e:PE X a ta)(d:PE X (.BoolOp .And (b::rest) pos) tb):PE X (.BoolOp .And (a::b::rest) pos) (cR ta tb):=by
 intro pins s σ H Q I h;refine BoolOp_and (zY (e pins s σ H _ I h) λv s1 ⟨x,H1,i,r,q⟩=>?_);obtain⟨c,rfl,q⟩:=q;cases r;refine wpAny_truthy_bool ?_;cases c with
 |true=>exact d pins s1 σ H1 Q i q|false=>exact⟨.bl false,H1,i,rfl,q⟩
def cV (b:PE X a ta):PE X (.UnaryOp .Not a pos) (cS ta):=by
 intro pins s σ H Q I h;refine UnaryOp_ (zY (b pins s σ H _ I h) λv s1 ⟨x,H1,i,r,q⟩=>?_);obtain⟨c,rfl,q⟩:=q;cases r;exact not_of (wpAny_truthy_bool ⟨.bl (!c),H1,i,rfl,q⟩)
noncomputable def cW (t:TT)(a T:TE):TE:=λσ H Q=>t σ H λc H1=>if c=true then a σ H1 Q else T σ H1 Q
def cX {c:Expr}(e:PT X c tA)(g:PE X a ta)(f:PE X b tb):PE X (.IfExp c a b pos) (cW tA ta tb):=by
 intro pins s σ H Q I h;refine wpAny_IfExp (zY (e pins s σ H _ I h) λd s1 ⟨H1,i,q⟩=>?_);cases d with
 |true=>exact g pins s1 σ H1 Q i q|false=>exact f pins s1 σ H1 Q i q
end
def je (K:Frag)(H:Hp)(a:Addr)(xs:List V):Prop:=
 Rd H a (.lst xs)∨
  ∃(o:Obj) (its:Array Value) (n:Nat),K.lookup a=some o/\o.cls=.type "list" /\ o.dict=none/\o.data=.seq its n/\its.size<=sizeLine/\Vals xs its.toList
def qH (K:Frag)(H:Hp)(a:Addr)(xs:List V):Prop:=
 Rd H a (.tup xs)∨
  ∃(o:Obj) (its:Array Value) (n:Nat),K.lookup a=some o/\(o.cls=.type "tuple" /\ o.dict=none)/\o.data=.seq its n/\its.size<=sizeLine/\Vals xs its.toList
noncomputable def cY:Value->Option V
 |.none=>some .non|.bool b=>some (.bl b)|.int i _=>some (.int i)|.str x _=>some (.str x)|.bytes b _=>some (.byt b)|.float b _=>some (.flt b)|.ref a=>some (.ref a)|.type n=>some (.ty n)|_=>none
def RelV.abs {x:V}(r:RelV x u):cY u=some x:=by
 cases x with
 |non=>cases r;rfl|bl _=>cases r;rfl|int _=>obtain⟨t,rfl⟩:=r;rfl|str _=>obtain⟨t,rfl⟩:=r;rfl|byt _=>obtain⟨t,rfl⟩:=r;rfl|flt _=>obtain⟨t,rfl⟩:=r;rfl|ref _=>cases r;rfl|ty _=>cases r;rfl
def RelV.inj {x y:V}(r:RelV x u)(q:RelV y u):x=y:=aF (r.abs.symm.trans q.abs)
theorem Vals.inj:∀{xs ys:List V}{us:bL},Vals xs us->Vals ys us->xs=ys
 |_,_,_,.nil,.nil=>rfl|_,_,_,.cons r t,.cons a t'=>by rw[r.inj a,Vals.inj t t']
section
variable {X:Cx}{σ:St}{H:Hp}{xs ys:List V}
def je.of {K:Frag}(h:H a=some (.lst xs)):je K H a xs:=.inl (.inl h)
def qH.of {K:Frag}(h:H a=some (.tup xs)):qH K H a xs:=.inl (.inl h)
def Inv.list (I:Inv X pins σ H s)(h:je X.K H a xs):∃i:bL,Vals xs i/\PlainL s.heap a i.toArray/\xs.length<=sizeLine:=by
 rcases h with h|⟨o,i,n,c,d,hd,b,f,r⟩
 ·obtain⟨z,i,n,r,e⟩:=h.ok I.hok
  exact⟨i,r,⟨_,n,e,rfl,rfl,rfl⟩,z⟩
 ·refine⟨i.toList,r,⟨o,n,I.kIn a o c,d,hd,by simpa using b⟩,?_⟩
  have e:=r.length;simp only[bt]at e;omega
def Inv.tuple (I:Inv X pins σ H s)(h:qH X.K H a xs):∃i:bL,Vals xs i/\IsTup s.heap a i.toArray/\xs.length<=sizeLine:=by
 rcases h with h|⟨o,i,n,c,d,b,f,r⟩
 ·obtain⟨z,i,r,p⟩:=h.ok I.hok
  exact⟨i,r,p.tup,z⟩
 ·refine⟨i.toList,r,⟨o,I.kIn a o c,d.1,n,by simpa using b⟩,?_⟩
  have e:=r.length;simp only[bt]at e;omega
def Inv.list_inj (I:Inv X pins σ H s)(h:je X.K H a xs)(h':je X.K H a ys):xs=ys:=by
 obtain⟨i,r,⟨o,n,e,_,_,d⟩,_⟩:=I.list h;obtain⟨its',b,⟨o',N,E,_,_,d'⟩,_⟩:=I.list h';rw[e]at E;cases E;rw[d]at d';injection d' with D _
 have:i=its':=by simpa using congrArg Array.toList D
 subst this;exact r.inj b
def Inv.tupleN (I:Inv X pins σ H s)(h:qH X.K H a xs):∃ob,s.heap.get? a=some ob/\ob.dict=none:=by
 rcases h with h|⟨o,i,n,b,d,g,f,r⟩
 ·obtain⟨z,i,r,o,e,c,_⟩:=h.ok I.hok
  exact⟨o,e,c.2⟩
 ·exact⟨o,I.kIn a o b,d.2⟩
def Inv.tuple_inj (I:Inv X pins σ H s)(h:qH X.K H a xs)(h':qH X.K H a ys):xs=ys:=by
 obtain⟨i,r,⟨o,e,_,n,d⟩,_⟩:=I.tuple h;obtain⟨its',b,⟨o',E,_,N,d'⟩,_⟩:=I.tuple h';rw[e]at E;cases E;rw[d]at d';injection d' with D _
 have:i=its':=by simpa using congrArg Array.toList D
 subst this;exact r.inj b
end
noncomputable abbrev Cx.wish (X:Cx)(E:bS):Cx:={ X with xe:=E }
noncomputable abbrev Cx.nox (X:Cx):Cx:=X.wish λ_ _=>False
theorem Cx.Ok.wish {X:Cx}(ok:X.Ok)(E:bS):(X.wish E).Ok:=
 ⟨ok.mod,ok.kind,ok.glob,ok.blt,ok.above,ok.inj,ok.has,ok.cab,ok.hd,ok.frames,ok.stk,ok.exf,ok.bs,ok.bsz,ok.noex,ok.exfs,ok.funs,ok.frf⟩
def Cx.Ok.unwish {X:Cx}(ok:(X.wish E).Ok):X.Ok:=
 ⟨ok.mod,ok.kind,ok.glob,ok.blt,ok.above,ok.inj,ok.has,ok.cab,ok.hd,ok.frames,ok.stk,ok.exf,ok.bs,ok.bsz,ok.noex,ok.exfs,ok.funs,ok.frf⟩
section
variable {X:Cx}{σ:St}{H:Hp}
theorem Inv.wish (I:Inv X pins σ H s)(E:bS):Inv (X.wish E) pins σ H s:=⟨I.ok.wish E,I.os,I.bare,I.base,I.loc,I.cell,I.free,I.freeC,I.pin,I.hok,I.len⟩
theorem Inv.unwish (I:Inv (X.wish E) pins σ H s):Inv X pins σ H s:=⟨I.ok.unwish,I.os,I.bare,I.base,I.loc,I.cell,I.free,I.freeC,I.pin,I.hok,I.len⟩
theorem SP.unwish {D:Ends}{f:Flow}(h:SP (X.wish E) pins D f s'):SP X pins D f s':=by
 cases f with
 |next=>obtain⟨a,H,I,q⟩:=h;exact⟨a,H,I.unwish,q⟩|brk=>obtain⟨a,H,I,q⟩:=h;exact⟨a,H,I.unwish,q⟩|cont=>obtain⟨a,H,I,q⟩:=h;exact⟨a,H,I.unwish,q⟩|ret u=>obtain⟨v,a,H,I,r,q⟩:=h;exact⟨v,a,H,I.unwish,r,q⟩
theorem PT.nox {t:TT}(h:PT X.nox e t):PT X e t:=λpins s σ H Q I hw=>
 wpAny_mono (h pins s σ H Q (I.wish _) hw) (λ_ _ ⟨a,i,q⟩=>⟨a,i.unwish,q⟩) λ_ _ z=>False.elim z
theorem yM.nox {st:cc}{t:TS}(h:yM X.nox st t):yM X st t:=λpins s σ H D I hw=>
 wpAny_mono (h pins s σ H D (I.wish _) hw) (λ_ _ q=>q.unwish) λ_ _ z=>False.elim z
end
section
variable {X:Cx}{st:Stmt}{rest:cc}{t u:TS}{te:TE}
noncomputable def cZ:TS:=λD σ H=>D.nx σ H
noncomputable def c3 (t u:TS):TS:=λD σ H=>t { D with nx:=u D } σ H
def c4:yM X [] cZ:=λ_ _ σ H _ I h=>wpAny_execs_nil ⟨σ,H,I,h⟩
def Aq (h1:PS X st t)(h2:yM X rest u):yM X (st::rest) (c3 t u):=by
 intro pins s σ H D I h;refine wpAny_execs_cons (zY (h1 pins s σ H { D with nx:=u D } I h) λf s1 q=>?_)
 cases f with
 |next=>
  obtain⟨a,b,i,q⟩:=q;exact h2 pins s1 a b D i q
 |ret v=>exact q|brk=>exact q|cont=>exact q
def Inv.quiet {σ:St}{H:Hp}(I:Inv X pins σ H s):interactive X.env=false:=by simp[interactive,I.ok.kind]
noncomputable def c5 (t:TE):TS:=λD σ H=>t σ H λ_ H1=>D.nx σ H1
def c6 (he:PE X e te)(a:swapsWith e none pos.line X.env=pure false:=by rfl):PS X (.Expr e pos) (c5 te):=by
 intro pins s σ H D I h;exact wpAny_Expr_any (zY (he pins s σ H _ I h) λv s1 ⟨x,H1,i,r,q⟩=>⟨σ,H1,i,q⟩) I.quiet a
noncomputable def c7 (t:TE):TS:=λD σ H=>t σ H D.rt
def c8 (he:PE X e te):PS X (.Return (some e) pos) (c7 te):=by
 intro pins s σ H D I h;exact wpAny_Return_some (zY (he pins s σ H _ I h) λv s1 ⟨x,H1,i,r,q⟩=>⟨x,σ,H1,i,r,q⟩)
noncomputable def c9 (c:TT)(t u:TS):TS:=λD σ H=>c σ H λb H1=>if b=true then t D σ H1 else u D σ H1
def da {c:Expr}{a b:cc}{T:TT}(e:PT X c T)(g:yM X a t)(f:yM X b u):PS X (.If c a b pos) (c9 T t u):=by
 intro pins s σ H D I h;refine wpAny_If (zY (e pins s σ H _ I h) λd s1 ⟨H1,i,q⟩=>?_);cases d with
 |true=>exact g pins s1 σ H1 D i q|false=>exact f pins s1 σ H1 D i q
end
abbrev TG:=V->St->Hp->(St->Hp->Prop)->Prop
abbrev JT:=List V->St->Hp->(St->Hp->Prop)->Prop
def PG (X:Cx)(target:Expr)(t:TG):Prop:=
 ∀(pins:bN)(s:Shared)(σ:St)(H:Hp)(v:V)(u:Value)(Q:St->Hp->Prop),Inv X pins σ H s->RelV v u->t v σ H Q->
  wpAny (model X.prog X.w) X.A (assign target X.env u) (λ_ s'=>∃a h,Inv X pins a h s'/\Q a h) X.xe s
def Vo (X:Cx)(T:bU)(t:JT):Prop:=
 ∀(pins:bN)(s:Shared)(σ:St)(H:Hp)(vs:List V)(us:bL)(Q:St->Hp->Prop),Inv X pins σ H s->Vals vs us->t vs σ H Q->
  wpAny (model X.prog X.w) X.A (assignInOrder ((assignEach T X.env).map (·.2)) us) (λ_ s'=>∃a h,Inv X pins a h s'/\Q a h) X.xe s
abbrev JL:=V->V->V->Hp->(Hp->Prop)->Prop
def X5 (X:Cx)(t:JL):Prop:=
 ∀(pins:bN)(s:Shared)(σ:St)(H:Hp)(o i v:V)(ov I u:Value)(Q:Hp->Prop),Inv X pins σ H s->RelV o ov->RelV i I->RelV v u->t o i v H Q->
  wpAny (model X.prog X.w) X.A (setItem ov I u) (λ_ s'=>∃h,Inv X pins σ h s'/\Q h) X.xe s
abbrev Vd:=V->V->Hp->VK->Prop
def HS (X:Cx)(op:Operator)(t:Vd):Prop:=
 ∀(pins:bN)(s:Shared)(σ:St)(H:Hp)(x y:V)(v u:Value)(Q:VK),Inv X pins σ H s->RelV x v->RelV y u->t x y H Q->
  wpAny (model X.prog X.w) X.A (inplaceOp op v u) (EP X pins σ Q) X.xe s
section
variable {X:Cx}
noncomputable def XM (i:Nat):TG:=λv σ H Q=>Q (σ.set i (some v)) H
def Yo (c:X.N.Nodup)(b:X.N[i]? =some x)(a:Loc X.env.scope x)(hf:X.fn x=true∨X.env.scope.names.lookup x=some .local:=by first|exact .inl rfl|exact .inr rfl|assumption):PG X (.Name x pos) (XM i):=by
 intro pins s σ H v u Q I r h;exact wpAny_assign_Name (Yk I c b a r (λs' d=>⟨_,H,d,h⟩) hf)
noncomputable def dc:JT:=λvs σ H Q=>vs=[]/\Q σ H
noncomputable def de (t:TG)(u:JT):JT:=λvs σ H Q=>∃v r,vs=v::r/\t v σ H λa h=>u r a h Q
def US:Vo X [] dc:=by
 intro pins s σ H vs us Q I r h;obtain⟨e,h⟩:=h;subst e;cases r;exact assignInOrder_nil ⟨σ,H,I,h⟩
def Yl {t:TG}{u:JT}(h1:PG X e t)(h2:Vo X es u)
  (c:(assignEach (e::es) X.env).map (·.2)=assign e X.env::(assignEach es X.env).map (·.2):=by rfl):Vo X (e::es) (de t u):=by
 intro pins s σ H vs us Q I r h;obtain⟨v,d,E,h⟩:=h;subst E;cases r with
 |cons r b=>
  rw[c];refine assignInOrder_cons (zY (h1 pins s σ H _ _ _ I r h) λ_ s1 ⟨a,H1,i,q⟩=>?_);exact h2 pins s1 a H1 _ _ Q i b q
noncomputable def jA (K:Frag)(n:Nat)(t:JT):TG:=λv σ H Q=>∃a xs,v=.ref a/\qH K H a xs/\xs.length=n/\t xs σ H Q
def TB {k:Nat}{t:JT}(g:X.calm=true)(h:Vo X es t)
  (hn:(assignEach es X.env).length=n:=by rfl)(c:(assignEach es X.env).findIdx? (·.1)=none:=by rfl):PG X (.Tuple es k pos) (jA X.K n t):=by
 intro pins s σ H v u Q I r hw;obtain⟨a,xs,E,q,hl,hw⟩:=hw;subst E;cases r;obtain⟨i,d,f,z⟩:=I.tuple q;refine assign_Tuple_tuple (I.ok.hd g) f (by simp[hn,<- hl,d.length]) c λh' x=>?_
 have j:Inv X pins σ H { s with heap:=h' }:=I.kept (t':=s.toks) λb o e=>x b o (aQ (aL e)) e
 exact h pins _ σ H xs _ Q j (by simpa using d) hw
noncomputable def yQ (to ti:TE)(t:JL):TG:=λv σ H Q=>to σ H λo H1=>ti σ H1 λi a=>t o i v a λh=>Q σ h
def df {o i:Expr}{to ti:TE}{t:JL}(ho:PE X o to)(f:PE X i ti)(e:X5 X t)
  (g:∀v,assign (.Subscript o i pos) X.env v=(do
   let ov <- holding [v] (eval o X.env)
   let iv <- holding [v,ov] (eval i X.env)
   standAt pos
   holding [v,ov,iv] (setItem ov iv v)
   release [v,ov,iv] []):=by intro _;rfl):PG X (.Subscript o i pos) (yQ to ti t):=by
 intro pins s σ H v u Q I r h;rw[g];refine cf (wpAny_holding (zY (ho pins s σ H _ I h) λov s1 ⟨x,H1,n,b,d⟩=>?_));refine cf (wpAny_holding (zY (f pins s1 σ H1 _ n d) λiv s2 ⟨y,w,l,a,c⟩=>?_));refine cf (wpAny_standAt (cf (wpAny_holding (zY (e pins s2 σ w x y v ov iv u _ l b a r c) λ_ s3 ⟨p,j,q⟩=>?_))));exact wpAny_release ⟨σ,p,j,q⟩
noncomputable def XT (t:TE)(g:TG):TS:=λD σ H=>t σ H λx H1=>g x σ H1 D.nx
def LJ {t:TE}{g:TG}(he:PE X e t)(b:PG X tg g)(a:swapsWithSole [tg] e pos.line X.env=pure false:=by rfl)(hw:swappedStores [tg] e X.env=pure none:=by rfl)
  (h1:(assignEach [tg] X.env).map (·.2)=[assign tg X.env]:=by rfl):PS X (.Assign [tg] e pos) (XT t g):=by
 intro pins s σ H D I h;refine wpAny_Assign_stores (zY (he pins s σ H _ I h) λv s1 ⟨x,H1,i,r,Q⟩=>?_) a hw;rw[h1];exact zY (b pins s1 σ H1 x v _ i r Q) λ_ s2 q=>q
def dh {t:TE}{pos':Pos}(d:X.N.Nodup)(c:X.N[i]? =some x)(a:Loc X.env.scope x)(he:PE X e t)(b:swapsWith e (some (.Name x pos')) pos.line X.env=pure false:=by rfl)(hf:X.fn x=true∨X.env.scope.names.lookup x=some .local:=by first|exact .inl rfl|exact .inr rfl|assumption):
  PS X (.Assign [.Name x pos'] e pos) (XT t (XM i)):=by
 intro pins s σ H D I h;refine wpAny_Assign_Name (zY (he pins s σ H _ I h) λv s1 ⟨y,H1,g,r,q⟩=>?_) b;exact Yk g d c a r (λs2 f=>⟨_,H1,f,q⟩) hf
noncomputable def di (i j:Nat)(t:TA):TS:=λD σ H=>t σ H λvs H1=>∃v w,vs=[v,w]/\D.nx ((σ.set i (some v)).set j (some w)) H1
def dj {y:Str}{a b:Expr}{t:TA}{P py pt:Pos}{kt k2 pt2}(M:X.calm=true)(l:X.N.Nodup)(L:X.N[i]? =some x)(K:X.N[j]? =some y)(d:i≠j)
  (g:X.env.scope.names.lookup x=some .local)(f:X.env.scope.names.lookup y=some .local)(S:PA X [a,b] t)
  (hw:swappedStores [.Tuple [.Name x P,.Name y py] kt pt] (.Tuple [a,b] k2 pt2) X.env=pure (some [x,y]))
  (J:swapsWithSole [.Tuple [.Name x P,.Name y py] kt pt] (.Tuple [a,b] k2 pt2) pos.line X.env=pure false:=by rfl):
  PS X (.Assign [.Tuple [.Name x P,.Name y py] kt pt] (.Tuple [a,b] k2 pt2) pos) (di i j t):=by
 intro pins s σ H D I h;rw[exec_Assign_arm];refine cf (wpAny_standAt ?_);rw[J];refine cf (cg ?_);rw[ao (by decide)]
 refine cf (Tuple_ (zY (S _ pins s σ H _ I h) λus s1 ⟨vs,H1,I1,B,Q⟩=>?_));obtain⟨v,w,T,Q⟩:=Q;subst T;obtain⟨U,u,rfl,z,r⟩:∃U u,us=[U,u]/\RelV v U/\RelV w u:=by
  cases B with
  |cons p q=>
   cases q with
   |cons E C=>
    cases C;exact⟨_,_,rfl,p,E⟩
 refine wpAny_newObj_type ?_ (by show 2<=sizeLine;decide)
 have I2:Inv X pins σ H1 { s1 with heap:=s1.heap.push { cls:=.type "tuple",data:=.seq [U,u].toArray } }:=I1.kept (t':=s1.toks) λb o e=>af _ e
 rw[hw];refine cf (cg ?_);show wpAny (model X.prog X.w) X.A (do rule "assign.swapped-stores";let items <- unpackItems (.ref s1.heap.objs.size) 2 none;assignInOrder [λv=>bindName X.env y v,λv=>bindName X.env x v] items.reverse;pure Flow.next) _ _ _
 refine cf (wpAny_rule (cf (unpackItems_tuple (items:=#[U,u]) (I.ok.hd M) (IsTup.new s1.heap _) λh' c=>?_)));have Z:=I2.kept (h':=h') (t':=s1.toks) λb o e=>c b o (aQ (aL e)) e;show wpAny _ _ (assignInOrder [λv=>bindName X.env y v,λv=>bindName X.env x v] [u,U] >>= λ_=>pure Flow.next) _ _ _;refine cf (assignInOrder_cons (wpAny_bindName (Yk Z l K (.inl f) r (λs2 Y=>?_) (.inr f))));refine assignInOrder_cons (wpAny_bindName (Yk Y l L (.inl g) z (λs3 n=>assignInOrder_nil (cg ?_)) (.inr g)));rw[List.set_comm _ _ (Ne.symm d)]at n;exact⟨_,H1,n,Q⟩
noncomputable def dk (to ti e:TE)(T:V->V->Hp->VK->Prop)(p:Vd)(t:JL):TS:=λD σ H=>to σ H λo H1=>ti σ H1 λi d=>T o i d λx c=>e σ c λy b=>p x y b λz a=>t o i z a λh=>D.nx σ h
def IT (X:Cx)(t:V->V->Hp->VK->Prop):Prop:=
 ∀(pins:bN)(s:Shared)(σ:St)(H:Hp)(o i:V)(ov I:Value)(Q:VK),Inv X pins σ H s->RelV o ov->RelV i I->t o i H Q->
  wpAny (model X.prog X.w) X.A (getItem ov I) (EP X pins σ Q) X.xe s
def dm {o i:Expr}{to ti b:TE}{T:V->V->Hp->VK->Prop}{p:Vd}{t:JL}{op:Operator}(ho:PE X o to)(x:PE X i ti)(y:IT X T)(he:PE X e b)(w:HS X op p)(u:X5 X t)
  (z:∀ov a new,augStore i ov a new=(do holding [new,ov,a] (setItem ov a new);release [new,ov,a] [];pure .next):=by intros;rfl):PS X (.AugAssign (.Subscript o i tpos) op e pos) (dk to ti b T p t):=by
 intro pins s σ H D I h;refine wpAny_AugAssign_SubscriptAny (zY (ho pins s σ H _ I h) λov s1 ⟨x1,H1,K,c,n⟩=>?_) z;refine zY (x pins s1 σ H1 _ K n) λa s2 ⟨x2,S,J,r,l⟩=>?_;refine zY (y pins s2 σ S x1 x2 ov a _ J c r l) λold s3 ⟨x3,P,E,f,j⟩=>?_;refine zY (he pins s3 σ P _ E j) λv s4 ⟨x4,N,C,d,g⟩=>?_;refine zY (w pins s4 σ N x3 x4 old v _ C f d g) λnew s5 ⟨x5,M,B,r5,Q⟩=>?_;exact zY (u pins s5 σ M x1 x2 x5 ov a new _ B c r r5 Q) λ_ U ⟨L,A,q⟩=>⟨σ,L,A,q⟩
noncomputable def dr (f:Int->Int->Int):Vd:=λx y H Q=>∃i j,x=.int i/\y=.int j/\Q (.int (f i j)) H
def dt:HS X .Add (dr λi j=>i+j):=by
 intro pins s σ H x y v u Q I a r h;obtain⟨i,j,E,e,q⟩:=h;subst E;subst e;obtain⟨t,rfl⟩:=a;obtain⟨t',rfl⟩:=r;exact iadd_int ⟨.int _,H,I.tok _,⟨_,rfl⟩,q⟩
def du (c:TT)(t:TS):TS:=λD σ H=>∃W:Nat->St->Hp->Prop,(∃m,W m σ H)/\∀m σ H,W m σ H->
 c σ H λb H1=>if b=true then ∃N:St->Hp->Prop,(∀a h,N a h->∃M,M<m/\W M a h)/\t { D with nx:=N,ct:=N,bk:=D.nx } σ H1 else D.nx σ H1
def dv {c:Expr}{t:TT}{T:TS}(p:PassesOwn (model X.prog X.w) X.A X.env X.xe)(z:PT X c t)(B:yM X body T):PS X (.While c body [] pos) (du t T):=by
 intro pins s σ H D I h;obtain⟨W,⟨m0,y⟩,turn⟩:=h;refine wpAny_While (codeAny_whileLoop (λn s'=>∃e u,Inv X pins e u s'/\W n e u) ?_ m0 ⟨σ,H,I,y⟩)
 rintro n s1 ⟨d,H1,C,x⟩
 refine wpAny_passesOwn p (zY (z pins s1 d H1 _ C (turn n d H1 x)) λb s2 ⟨r,o,Q⟩=>?_);cases b with
 |true=>
  obtain⟨N,l,Q⟩:=Q;rw[aj rfl];refine wpAny_passesOwn p (zY (B pins s2 d r _ o Q) λf s3 q=>?_);cases f with
  |next=>
   obtain⟨a,g,j,n3⟩:=q;obtain⟨M,hm,i⟩:=l a g n3;exact⟨M,hm,a,g,j,i⟩
  |cont=>
   obtain⟨a,g,j,n3⟩:=q;obtain⟨M,hm,i⟩:=l a g n3;exact⟨M,hm,a,g,j,i⟩
  |brk=>exact q|ret v=>exact q
 |false=>
  rw[ao aD];exact wpAny_execs_nil ⟨d,r,o,Q⟩
end
structure It where
 go:Nat->Hp->Prop
 yld:Nat->Hp->V->Hp->Prop
 stop:Nat->Hp->Prop
def wC (X:Cx)(pins:bN)(H:Hp)(b:Addr):Prop:=
 H b=none/\b≠X.env.locals/\b∉X.fs/\(b∈X.ex∨X.s0.heap.objs.size<=b)/\(∀x c,X.env.cells.lookup x=some c->c≠b)/\∀p∈X.pn++pins,p.1≠b
def Inv.fpOk {X:Cx}{σ:St}{H a:Hp}(I:Inv X pins σ H s)(h:s.heap.objs.size<=b)(hn:a b=none):wC X pins a b:=by
 refine⟨hn,ne_of_gt (aE I.lt h),I.nofs h,.inr (a4 I.sz h),λx c e z=>?_,λp d z=>?_⟩
 ·obtain⟨v,q⟩:=I.cell x c e
  exact absurd (aE q.lt (by rw[z];exact h)) (aV _)
 ·exact absurd (aE (aL (I.pin p d).1) (by rw[z];exact h)) (aV _)
structure Turn (P:Program)(w:World)(K:Frag)(tg:Expr)(J:It)(fp:bM)(it:Addr)(tn:Nat->Heap->Prop):Prop where
 mem:it∈fp
 obj:∀i h,tn i h->∀b∈fp,∃o,h.get? b=some o/\∀v,o.data≠.cell v
 keep:∀i h h',tn i h->(∀b∈fp,∀o,h.get? b=some o->h'.get? b=some o)->tn i h'
 item:∀(X:Cx),X.prog=P->X.w=w->X.K=K->X.calm=true->∀(i:Nat)(pins:bN)(s:Shared)(σ:St)(H:Hp)(E:bS),Inv X pins σ H s->(∀b∈fp,wC X pins H b)->tn i s.heap->J.go i H->
  wpAny (model P w) X.A (pyNext (.ref it)) (λr s1=>∃u,r=some u/\
   wpAny (model P w) X.A (letOwnedTupleGo tg (.ref it) u) (λ_ s2=>∃x H',Inv X pins σ H' s2/\RelV x u/\J.yld i H x H'/\tn (i+1) s2.heap/\∀b∈fp,H' b=none) E s1) E s
 done:∀(X:Cx),X.prog=P->X.w=w->X.K=K->X.calm=true->∀(i:Nat)(pins:bN)(s:Shared)(σ:St)(H:Hp)(E:bS),Inv X pins σ H s->(∀b∈fp,wC X pins H b)->tn i s.heap->J.stop i H->
  wpAny (model P w) X.A (pyNext (.ref it)) (λr s1=>r=none/\Inv X pins σ H s1) E s
 self:∀(A:Around)(i:Nat)(s:Shared)(Q:bS)(E:bS),tn i s.heap->Q (.ref it) s->wpAny (model P w) A (pyIter (.ref it)) Q E s
abbrev TI:=St->Hp->(It->Hp->Prop)->Prop
inductive HA (X:Cx)(pins:bN)(σ:St)(tg:Expr)(R:It->Hp->Prop)(itv:Value)(s2:Shared):Prop
 |mk (it:Addr) (fp:bM) (tn:Nat->Heap->Prop) (J:It) (H':Hp) (e:itv=.ref it) (I:Inv X pins σ H' s2) (T:Turn X.prog X.w X.K tg J fp it tn) (t0:tn 0 s2.heap) (f:(∀b∈fp,wC X pins H' b)) (q:R J H')
def PI (X:Cx)(t iter:Expr)(i:TI):Prop:=
 ∀(pins:bN)(s:Shared)(σ:St)(H:Hp)(R:It->Hp->Prop),Inv X pins σ H s->i σ H R->
  wpAny (model X.prog X.w) X.A (eval iter X.env) (λv s1=>wpAny (model X.prog X.w) X.A (pyIter v) (HA X pins σ t R) X.xe s1) X.xe s
def Xz {A:Around}{it:Addr}{o:Obj}{n:String}{vs:Array Value}{Q:Unit->Shared->Prop}(ho:s.heap.get? it=some o)(c:o.cls=.type n)(hd:o.data=.fields vs)
  (hn:["enumerate","zip","dict_itemiterator","dict_reverseitemiterator","odict_iterator","itertools.zip_longest","itertools.pairwise"].contains n=false)(H:Q () s):wpAny M A (letOwnedTupleGo tg (.ref it) u) Q E s:=by
 unfold letOwnedTupleGo;cases tg<;>first
  |exact cg H
  |(cases u<;>first
    |exact cg H
    |(
      refine cf (wpAny_load ho ?_);rw[c,hd];show wpAny M A (if (["enumerate","zip","dict_itemiterator","dict_reverseitemiterator","odict_iterator","itertools.zip_longest","itertools.pairwise"].contains n&&vs[0]?==some (rawInt _))=true then _ else _) Q E s;rw[ao (by intro h;rw[hn,Bool.false_and]at h;cases h)]
      exact cg H))
noncomputable def Hw (K:Frag)(a:Addr):It:=
 ⟨λi H=>∃xs x,je K H a xs/\xs[i]? =some x,λi H x h=>h=H/\∀xs,je K H a xs->xs[i]? =some x,λi H=>∃xs,je K H a xs/\xs.length<=i⟩
noncomputable def HL (K:Frag)(a:Addr):It:=
 ⟨λi H=>∃xs x,qH K H a xs/\xs[i]? =some x,λi H x h=>h=H/\∀xs,qH K H a xs->xs[i]? =some x,λi H=>∃xs,qH K H a xs/\xs.length<=i⟩
noncomputable def WW (lo:Int)(n:Nat):It:=⟨λi _=>i<n,λi H x h=>h=H/\x=.int (lo+i),λi _=>n<=i⟩
def Bw {K:Frag}(a it:Addr):Turn P w K tg (Hw K a) [it] it (λi h=>h.IsListIter it a i) where
 mem:=by simp
 obj:=λi h st b f=>by
  have e:b=it:=by simpa using f
  subst e;obtain⟨o,e,c,d⟩:=st;exact⟨o,e,λv z=>by rw[d]at z;cases z⟩
 keep:=λi h h' st k=>st.at λo e=>k it (by simp) o e
 item:=by
  intro X n hw t B i pins s σ H E I hf st l;subst n hw t;obtain⟨xs,x,q,j⟩:=l;obtain⟨g,r,p,J⟩:=I.list q;obtain⟨u,M,D⟩:=r.get j;obtain⟨f0,f1,f2,A,f4,y⟩:=hf it (by simp)
  refine wpAny_pyNext_list_item st p.isList (x:=u) (by simpa using M) λh' S C=>?_
  have Q:Inv X pins σ H { s with heap:=h' }:=I.turned (t':=s.toks) (λb o f e=>(C.2 b f).trans e) f0 f1 A f4 y
  obtain⟨o,e,c,d⟩:=id S;exact⟨u,rfl,Xz (s:={ s with heap:=h' }) e c d (by decide) ⟨x,H,Q,D,⟨rfl,λys L=>by rw[I.list_inj L q];exact j⟩,S,λb f=>(hf b f).1⟩⟩
 done:=by
  intro X n hw t B i pins s σ H E I hf st l;subst n hw t;obtain⟨xs,q,j⟩:=l;obtain⟨g,r,p,J⟩:=I.list q;obtain⟨f0,f1,f2,A,f4,y⟩:=hf it (by simp)
  have hl:=r.length;exact wpAny_pyNext_list_end (I.ok.hd B) st p.isList (by simp;omega) λh' N=>⟨rfl,I.turned (t':=s.toks) (λb o f e=>N b o f e) f0 f1 A f4 y⟩
 self:=λ_ _ _ _ _ st h=>wpAny_pyIter_listiter st h
def CJ {K:Frag}(a it:Addr):Turn P w K tg (HL K a) [it] it (λi h=>h.IsTupleIter it a i) where
 mem:=by simp
 obj:=λi h st b g=>by
  have e:b=it:=by simpa using g
  subst e;obtain⟨o,e,c,d⟩:=st;exact⟨o,e,λv z=>by rw[d]at z;cases z⟩
 keep:=λi h h' st k=>st.at λo e=>k it (by simp) o e
 item:=by
  intro X n hw t B i pins s σ H E I hf st l;subst n hw t;obtain⟨xs,x,q,j⟩:=l;obtain⟨f,r,p,J⟩:=I.tuple q;obtain⟨u,M,D⟩:=r.get j;obtain⟨f0,f1,f2,A,f4,y⟩:=hf it (by simp)
  refine wpAny_pyNext_tuple_item st (show s.heap.IsTuple a f.toArray from p) (x:=u) (by simpa using M) λh' S C=>?_
  have Q:Inv X pins σ H { s with heap:=h' }:=I.turned (t':=s.toks) (λb o g e=>(C.2 b g).trans e) f0 f1 A f4 y
  obtain⟨o,e,c,d⟩:=id S;exact⟨u,rfl,Xz (s:={ s with heap:=h' }) e c d (by decide) ⟨x,H,Q,D,⟨rfl,λys L=>by rw[I.tuple_inj L q];exact j⟩,S,λb g=>(hf b g).1⟩⟩
 done:=by
  intro X n hw t B i pins s σ H E I hf st l;subst n hw t;obtain⟨xs,q,j⟩:=l;obtain⟨f,r,p,J⟩:=I.tuple q;obtain⟨f0,f1,f2,A,f4,y⟩:=hf it (by simp)
  have hl:=r.length;exact wpAny_pyNext_tuple_end (I.ok.hd B) st (show s.heap.IsTuple a f.toArray from p) (by simp;omega) λh' N=>⟨rfl,I.turned (t':=s.toks) (λb o g e=>N b o g e) f0 f1 A f4 y⟩
 self:=λ_ _ _ _ _ st h=>wpAny_pyIter_tupleiter st h
def CC {K:Frag}(it:Addr)(lo:Int)(n:Nat):Turn P w K tg (WW lo n) [it] it (λi h=>IsRangeIter h it (lo+(i:Nat) * 1) ((n:Int)-(i:Nat)) 1) where
 mem:=by simp
 obj:=λi h st b a=>by
  have e:b=it:=by simpa using a
  subst e;exact⟨_,st,λv z=>by
   have Z:Data.fields _=Data.cell v:=z;cases Z⟩
 keep:=λi h h' st k=>k it (by simp) _ st
 item:=by
  intro X d hw f c i pins s σ H E I hf st g;subst d hw f;obtain⟨f0,f1,f2,l,f4,j⟩:=hf it (by simp)
  have W:=Walks.range (prog:=X.prog) (w:=X.w) (I.ok.hd c) it lo 1 n;refine W.item i s _ _ g st λv h' T p S kk=>?_;obtain⟨t,rfl⟩:=p;have r:Inv X pins σ H { s with heap:=h',toks:=T }:=I.turned (λb o a e=>kk b o (by simpa using a) e) f0 f1 l f4 j
  refine⟨_,rfl,Xz (s:={ s with heap:=h',toks:=T }) (n := "range_iterator") S rfl rfl (by decide) ⟨.int (lo+i),H,r,⟨t,?_⟩,⟨rfl,rfl⟩,S,λb a=>(hf b a).1⟩⟩
  rw[Int.mul_one]
 done:=by
  intro X d hw f c i pins s σ H E I hf st g;subst d hw f;obtain⟨f0,f1,f2,l,f4,j⟩:=hf it (by simp)
  exact wpAny_pyNext_range_end (I.ok.hd c) st (by have:n<=i:=g;omega) λh' q=>⟨rfl,I.turned (t':=s.toks) (λb o a e=>q b o a e) f0 f1 l f4 j⟩
 self:=λ_ _ _ _ _ st h=>wpAny_pyIter_rangeiter st h
section
variable {X:Cx}
def N6 {σ:St}{H:Hp}{R:It->Hp->Prop}{lo h:Int}{t u v:Tok}{T:Nat}(I:Inv X pins σ H s)(h1:-(2 ^ 62)<=lo)(h2:lo<2 ^ 62)(d:-(2 ^ 62)<=h)(c:h<2 ^ 62)
  (q:R (WW lo (h-lo).toNat) H):wpAny (model X.prog X.w) X.A (pyIter (.ref s.heap.objs.size)) (HA X pins σ tg R) E { s with heap:=s.heap.push { cls:=.type "range",data:=.fields #[.int lo t,.int h u,.int 1 v] },toks:=T }:=by
 refine wpAny_pyIter_range (IsRange.new ..) (small_one h1 h2 d c) ?_;have i:Inv X pins σ H { s with heap:=s.heap.push { cls:=.type "range",data:=.fields #[.int lo t,.int h u,.int 1 v] },toks:=T }:=I.kept λb o e=>af _ e
 refine⟨(s.heap.push { cls:=.type "range",data:=.fields #[.int lo t,.int h u,.int 1 v] }).objs.size,[(s.heap.push { cls:=.type "range",data:=.fields #[.int lo t,.int h u,.int 1 v] }).objs.size],_,_,H,rfl,
  i.kept (t':=T) λb o e=>af _ e,CC _ lo (h-lo).toNat,?_,λb a=>?_,q⟩
 ·have g:lo+((0:Nat):Int) * 1=lo:=by simp
  have f:(((h-lo).toNat:Nat):Int)-((0:Nat):Int)=Builtin.Range.rangeSize lo h 1:=by rw[rangeSize_one];split<;>omega
  show IsRangeIter _ _ (lo+((0:Nat):Int) * 1) ((((h-lo).toNat:Nat):Int)-((0:Nat):Int)) 1;rw[g,f];exact ay _ rfl
 ·have e:b=(s.heap.push { cls:=.type "range",data:=.fields #[.int lo t,.int h u,.int 1 v] }).objs.size:=by simpa using a
  subst e;exact i.fpOk (aq _) (i.hok.fresh (aq _))
def dw (t:TA):TI:=λσ H R=>t σ H λvs H1=>∃j:Int,vs=[.int j]/\-(2 ^ 62)<=j/\j<2 ^ 62/\R (WW 0 j.toNat) H1
def dy (t:TA):TI:=λσ H R=>t σ H λvs H1=>∃i j:Int,vs=[.int i,.int j]/\(-(2 ^ 62)<=i/\i<2 ^ 62/\-(2 ^ 62)<=j/\j<2 ^ 62)/\R (WW i (j-i).toNat) H1
def B7 {a:Expr}{T:TA}(g:Gl X "range")(hm:X.mg "range"=none)(i:PA X [a] T)(f:starEach [a] X.env=[(false,eval a X.env)]:=by rfl):PI X tg (.Call (.Name "range" p) [a] [] pos) (dw T):=by
 intro pins s σ H R I h;refine Call_ (Qe I g hm boot_range (PyProof.Rows.callWith_type1 (zY (i pos pins s σ H _ I h) λus s1 ⟨vs,H1,l,c,Q⟩=>?_) f rfl));obtain⟨j,e,Q,d,q⟩:=Q;subst e;cases c with
 |cons r b=>
  cases b;obtain⟨t,rfl⟩:=r;exact call_range_1 (N6 l (by omega) (by omega) Q d (by simpa using q))
def Bq {a b:Expr}{T:TA}(v:Gl X "range")(hm:X.mg "range"=none)(w:PA X [a,b] T)(u:starEach [a,b] X.env=[(false,eval a X.env),(false,eval b X.env)]:=by rfl)(c:starEach [b] X.env=[(false,eval b X.env)]:=by rfl):
  PI X tg (.Call (.Name "range" p) [a,b] [] pos) (dy T):=by
 intro pins s σ H R I h;refine Call_ (Qe I v hm boot_range (PyProof.Rows.callWith_type1 (zY (w pos pins s σ H _ I h) λus s1 ⟨vs,H1,x,f,Q⟩=>?_) (by rw[u,c]) (by rw[c];rfl)))
 obtain⟨i,j,e,⟨Q,o,n,l⟩,q⟩:=Q;subst e;cases f with
 |cons r d=>
  cases d with
  |cons g d=>
   cases d;obtain⟨t,rfl⟩:=r;obtain⟨t',rfl⟩:=g;exact call_range_2 (N6 x Q o n l q)
def dz (w:TI)(g:TG)(t:TS):TS:=λD σ H=>w σ H λJ H1=>∃W:Nat->Nat->St->Hp->Prop,(∃m,W 0 m σ H1)/\∀i m σ H,W i m σ H->
 (J.stop i H/\D.nx σ H)∨(J.go i H/\∃N:St->Hp->Prop,(∀a h,N a h->∃M,M<m/\W (i+1) M a h)/\∀x h,J.yld i H x h->g x σ h λb c=>t { D with nx:=N,ct:=N,bk:=D.nx } b c)
noncomputable def K9 (fp:bM)(h:Heap):bN:=fp.filterMap λb=>(h.get? b).map λo=>(b,o)
def GD {o:Obj}(H:b∈fp)(e:h.get? b=some o):(b,o)∈K9 fp h:=List.mem_filterMap.mpr ⟨b,H,by rw[e];rfl⟩
def BF {p:Addr×Obj}(H:p∈K9 fp h):p.1∈fp/\h.get? p.1=some p.2:=by
 obtain⟨b,a,e⟩:=List.mem_filterMap.mp H;cases q:h.get? b with
 |none=>rw[q]at e;cases e|some o=>
  rw[q]at e;have E:(b,o)=p:=aF e;subst E;exact⟨a,q⟩
def Inv.pinned {σ:St}{H:Hp}(I:Inv X pins σ H s)(hf:∀b∈fp,wC X pins H b)(ho:∀b∈fp,∃o,s.heap.get? b=some o/\∀v,o.data≠.cell v):Inv X (pins++K9 fp s.heap) σ H s:=
 I.pins_of λp a=>(cx.mp a).elim (λz=>I.pin p (aR _ z)) λz=>by
  obtain⟨h,e⟩:=BF z;obtain⟨f0,f1,f2,_⟩:=hf p.1 h;obtain⟨o,E,d⟩:=ho p.1 h;rw[e]at E;cases E;exact⟨e,f0,f1,f2,d⟩
def Inv.unpinned {P:bN}{σ:St}{H:Hp}(I:Inv X (pins++P) σ H s):Inv X pins σ H s:=I.pins_of λp h=>I.pin p (aR _ (a8 _ h))
def dA {U:TI}{g:TG}{Z:TS}(z:PassesOwn (model X.prog X.w) X.A X.env X.xe)(hc:X.calm=true)(hi:PI X tg iter U)(hg:PG X tg g)(l:yM X body Z)
  (hs:∀x,foldedSetIterable iter X.env x=pure x:=by intro _;rfl):PS X (.For tg iter body [] pos) (dz U g Z):=by
 intro pins s σ H D I h;refine wpAny_For (zY (hi pins s σ H _ I h) λv s1 h1=>zY h1 λitv s2 h2=>?_) hs;obtain⟨it,fp,Y,J,H2,e,I2,T,gZ,f2,W,⟨m0,w0⟩,turn⟩:=h2;subst e;have S:∀{H':Hp},(∀b∈fp,H' b=none)->∀b∈fp,wC X pins H' b:=λhn b l=>⟨hn b l,(f2 b l).2⟩;refine codeAny_forLoop_any (λn s'=>∃i j H',Inv X pins j H' s'/\Y i s'.heap/\(∀b∈fp,H' b=none)/\W i n j H') ?_ m0 ⟨0,σ,H2,I2,gZ,λb l=>(f2 b l).1,w0⟩
 rintro n s3 ⟨i,c,C,I3,Zn,B,w3⟩
 rcases turn i n c C w3 with ⟨stop,qn⟩|⟨go,N,hN,step⟩
 ·refine wpAny_passesOwn z (zY (T.done X rfl rfl rfl hc i pins s3 c C X.xe I3 (S B) Zn stop) λr s4 ⟨L,I4⟩=>?_)
  subst L;exact wpAny_execs_nil ⟨c,C,I4,qn⟩
 ·refine wpAny_passesOwn z (zY (T.item X rfl rfl rfl hc i pins s3 c C X.xe I3 (S B) Zn go) λr s4 ⟨u,L,h4⟩=>?_)
  subst L;refine wpAny_passesOwn z (zY h4 λ_ s5 ⟨x,H5,I5,r5,y5,t,M⟩=>?_);have P:=I5.pinned (S M) (T.obj _ _ t);refine wpAny_passesOwn z (zY (hg _ s5 c H5 x u _ P r5 (step x H5 y5)) λ_ s6 ⟨E,H6,I6,q6⟩=>?_);refine wpAny_passesOwn z (zY (l _ s6 E H6 _ I6 q6) λf K Q=>?_);have again:∀{a:St}{q:Hp},Inv X (pins++K9 fp s5.heap) a q K->N a q->∃m,m<n/\∃i j H',Inv X pins j H' K/\Y i K.heap/\(∀b∈fp,H' b=none)/\W i m j H':=λ {a q} p y=>by
   obtain⟨m',hm,w7⟩:=hN a q y;refine⟨m',hm,i+1,a,q,p.unpinned,T.keep _ _ _ t λb l o e=>(p.pin (b,o) (aR _ (aR _ (GD l e)))).1,λb l=>?_,w7⟩;obtain⟨o,e,d⟩:=T.obj _ _ t b l;exact(p.pin (b,o) (aR _ (aR _ (GD l e)))).2.1
  cases f with
  |next=>obtain⟨a,q,p,y⟩:=Q;exact again p y|cont=>obtain⟨a,q,p,y⟩:=Q;exact again p y|brk=>obtain⟨a,q,p,Q⟩:=Q;exact⟨a,q,p.unpinned,Q⟩|ret v=>obtain⟨x7,a,q,p,r7,Q⟩:=Q;exact⟨x7,a,q,p.unpinned,r7,Q⟩
end
abbrev R2:=V->V->Hp->VK->Prop
def qU (X:Cx)(f:Value->Value->Sem Value)(r:R2):Prop:=
 ∀(pins:bN)(s:Shared)(σ:St)(H:Hp)(x y:V)(v u:Value)(Q:VK),Inv X pins σ H s->RelV x v->RelV y u->r x y H Q->
  wpAny (model X.prog X.w) X.A (f v u) (EP X pins σ Q) X.xe s
def Vk (X:Cx)(f:Value->Sem Value)(r:V->Hp->VK->Prop):Prop:=
 ∀(pins:bN)(s:Shared)(σ:St)(H:Hp)(x:V)(v:Value)(Q:VK),Inv X pins σ H s->RelV x v->r x H Q->
  wpAny (model X.prog X.w) X.A (f v) (EP X pins σ Q) X.xe s
def yn (X:Cx)(f:Value)(r:List V->Hp->VK->Prop):Prop:=
 ∀(pins:bN)(s:Shared)(σ:St)(H:Hp)(xs:List V)(us:bL)(Q:VK),Inv X pins σ H s->Vals xs us->r xs H Q->
  wpAny (model X.prog X.w) X.A (call f us) (EP X pins σ Q) X.xe s
def dB (X:Cx)(r:V->Hp->(Bool->Hp->Prop)->Prop):Prop:=
 ∀(pins:bN)(s:Shared)(σ:St)(H:Hp)(x:V)(v:Value)(Q:Bool->Hp->Prop),Inv X pins σ H s->RelV x v->r x H Q->
  wpAny (model X.prog X.w) X.A (truthy v) (TP X pins σ Q) X.xe s
noncomputable def WX (r:R2)(T t:TE):TE:=λσ H Q=>T σ H λx H1=>t σ H1 λy h=>r x y h Q
noncomputable def HM (r:V->Hp->VK->Prop)(t:TE):TE:=λσ H Q=>t σ H λx H1=>r x H1 Q
noncomputable def rI (C:Int->Int->Prop)(g:Int->Int->V):R2:=λx y H Q=>∃i j,x=.int i/\y=.int j/\C i j/\Q (g i j) H
noncomputable def gW (g:Int->Int->V):R2:=λx y H Q=>∃i j,x=.int i/\y=.int j/\Q (g i j) H
noncomputable def rU (g:Int->V):V->Hp->VK->Prop:=λx H Q=>∃i,x=.int i/\Q (g i) H
section
variable {X:Cx}{a b:Expr}{ta tb:TE}
def Sx (j:PE X a ta)(i:PE X b tb){σ:St}{H:Hp}{R:V->V->Hp->Prop}(I:Inv X pins σ H s)
  (h:ta σ H λx H1=>tb σ H1 λy c=>R x y c){f:Value->Value->Sem Value}
  (hf:∀v u s2 x y c,Inv X pins σ c s2->RelV x v->RelV y u->R x y c->wpAny (model X.prog X.w) X.A (f v u) Q X.xe s2):
  wpAny (model X.prog X.w) X.A (eval a X.env) (λv d=>wpAny (model X.prog X.w) X.A (eval b X.env) (λu S=>wpAny (model X.prog X.w) X.A (f v u) Q X.xe S) X.xe d) X.xe s:=by
 refine zY (j pins s σ H _ I h) λv s1 ⟨x,H1,n,e,g⟩=>?_;refine zY (i pins s1 σ H1 _ n g) λu s2 ⟨y,c,l,r,q⟩=>?_;exact hf v u s2 x y c l e r q
def dC {op:Operator}{r:R2}(ho:qU X (binaryOp op) r)(f:PE X a ta)(e:PE X b tb):PE X (.BinOp a op b pos) (WX r ta tb):=by
 intro pins s σ H Q I h;exact wpAny_BinOp (Sx f e I h λv u s2 x y g i d c q=>ho pins s2 σ g x y v u Q i d c q)
def Ih {op:UnaryOp}{r:V->Hp->VK->Prop}(ho:Vk X (unaryOp op) r)(c:PE X a ta):PE X (.UnaryOp op a pos) (HM r ta):=by
 intro pins s σ H Q I h;exact UnaryOp_ (zY (c pins s σ H _ I h) λv s1 ⟨x,H1,i,b,q⟩=>ho pins s1 σ H1 x v Q i b q)
def Y2 {f:Value->Value->Sem Value}{C:Int->Int->Prop}{g:Int->Int->Int}
  (rule:∀(i j:Int)(t u:Tok)(s:Shared)(Q:bS)(E:bS),C i j->Q (.int (g i j) s.toks) { s with toks:=s.toks+1 }->wpAny (model X.prog X.w) X.A (f (.int i t) (.int j u)) Q E s):
  qU X f (rI C λi j=>.int (g i j)):=by
 intro pins s σ H x y v u Q I a r h;obtain⟨i,j,rfl,rfl,c,q⟩:=h;obtain⟨t,rfl⟩:=a;obtain⟨t',rfl⟩:=r;exact rule i j t t' s _ _ c ⟨.int (g i j),H,I.tok _,⟨_,rfl⟩,q⟩
def X1 {f:Value->Value->Sem Value}{g:Int->Int->Int}
  (rule:∀(i j:Int)(t u:Tok)(s:Shared)(Q:bS)(E:bS),Q (.int (g i j) s.toks) { s with toks:=s.toks+1 }->wpAny (model X.prog X.w) X.A (f (.int i t) (.int j u)) Q E s):
  qU X f (gW λi j=>.int (g i j)):=by
 intro pins s σ H x y v u Q I a r h;obtain⟨i,j,rfl,rfl,q⟩:=h;obtain⟨t,rfl⟩:=a;obtain⟨t',rfl⟩:=r;exact rule i j t t' s _ _ ⟨.int (g i j),H,I.tok _,⟨_,rfl⟩,q⟩
def X7 {f:Value->Value->Sem Value}{g:Int->Int->Bool}
  (rule:∀(i j:Int)(t u:Tok)(s:Shared)(Q:bS)(E:bS),Q (.bool (g i j)) s->wpAny (model X.prog X.w) X.A (f (.int i t) (.int j u)) Q E s):
  qU X f (gW λi j=>.bl (g i j)):=by
 intro pins s σ H x y v u Q I a r h;obtain⟨i,j,rfl,rfl,q⟩:=h;obtain⟨t,rfl⟩:=a;obtain⟨t',rfl⟩:=r;exact rule i j t t' s _ _ ⟨.bl (g i j),H,I,rfl,q⟩
def SX (i j:Int):Prop:=0<=j/\j<=1000000/\i.natAbs<2 ^ 64
def WJ (i j:Int):Prop:=(-(2 ^ 64)<i/\i<2 ^ 64)∨(-(2 ^ 64)<j/\j<2 ^ 64)
def WJ.ok {i j:Int}(h:WJ i j):IntMulOk i j:=by
 rcases h with ⟨h1,h2⟩|⟨h1,h2⟩
 ·exact .of_left (intBits_le_64 h1 h2)
 ·exact .of_right (intBits_le_64 h1 h2)
def two_pow_nn (k:Nat):(0:Int)<=2 ^ k:=by
 rw[two_pow_cast];exact Int.natCast_nonneg _
def dD:qU X (binaryOp .Add) (gW λi j=>.int (i+j)):=X1 λ_ _ _ _ _ _ _ q=>add_int q
def dE:qU X (binaryOp .Sub) (gW λi j=>.int (i-j)):=X1 λ_ _ _ _ _ _ _ q=>sub_int q
def dF:qU X (binaryOp .Mult) (rI WJ λi j=>.int (i * j)):=Y2 λ_ _ _ _ _ _ _ h q=>mul_int q h.ok
def dG:qU X (binaryOp .Mod) (rI (λ_ j=>0<j) λi j=>.int (i%j)):=Y2 λi j _ _ _ _ _ h q=>by
 have h1:(0:Int)<j:=h;exact mod_int' (by omega) (by rw[Int.fmod_eq_emod_of_nonneg i (by omega)];exact q)
def dH:qU X (binaryOp .Pow) (rI SX λi j=>.int (i ^ j.toNat)):=Y2 λ_ _ _ _ _ _ _ h q=>pow_int_small h.1 h.2.1 h.2.2 q
def dI:qU X (binaryOp .LShift) (rI SX λi j=>.int (i * 2 ^ j.toNat)):=Y2 λ_ _ _ _ _ _ _ h q=>lshift_int_small h.1 h.2.1 h.2.2 q
def dJ:qU X (binaryOp .RShift) (rI (λ_ j=>0<=j) λi j=>.int (i/2 ^ j.toNat)):=Y2 λi j _ _ _ _ _ h q=>
 rshift_int h (by rw[Int.fdiv_eq_ediv_of_nonneg i (two_pow_nn _)];exact q)
def dM:qU X (binaryOp .BitAnd) (gW λi j=>.int (Builtin.bitAnd i j)):=X1 λ_ _ _ _ _ _ _ q=>and_int q
def dN:qU X (binaryOp .BitXor) (gW λi j=>.int (Builtin.bitXor i j)):=X1 λ_ _ _ _ _ _ _ q=>xor_int q
def dO {f:Value->Sem Value}{g:Int->Int}
  (rule:∀(i:Int)(t:Tok)(s:Shared)(Q:bS)(E:bS),Q (.int (g i) s.toks) { s with toks:=s.toks+1 }->wpAny (model X.prog X.w) X.A (f (.int i t)) Q E s):
  Vk X f (rU λi=>.int (g i)):=by
 intro pins s σ H x v Q I r h;obtain⟨i,rfl,q⟩:=h;obtain⟨t,rfl⟩:=r;exact rule i t s _ _ ⟨.int (g i),H,I.tok _,⟨_,rfl⟩,q⟩
def Lf:Vk X (unaryOp .USub) (rU λi=>.int (-i)):=dO λ_ _ _ _ _ q=>neg_int q
variable {c:Expr}{tc:TE}
def dP {σ:St}{H:Hp}{Q:VK}{k K:Bool}(I:Inv X pins σ H s)(q:Q (.bl k) H)(e:k=K):EP X pins σ Q (.bool K) s:=by
 subst e;exact⟨.bl k,H,I,rfl,q⟩
def dQ:qU X (compareOp .Lt) (gW λi j=>.bl (decide (i<j))):=X7 λ_ _ _ _ _ _ _ q=>lt_int q
def dR:qU X (compareOp .LtE) (gW λi j=>.bl (decide (i<=j))):=X7 λ_ _ _ _ _ _ _ q=>le_int q
def dS:qU X (compareOp .Gt) (gW λi j=>.bl (decide (j<i))):=X7 λ_ _ _ _ _ _ _ q=>gt_int q
def dU:qU X (compareOp .GtE) (gW λi j=>.bl (decide (j<=i))):=X7 λ_ _ _ _ _ _ _ q=>ge_int q
def dV:qU X (compareOp .IsNot) (λx y H Q=>y=.non/\Q (.bl (!decide (x=.non))) H):=by
 intro pins s σ H x y v u Q I r a h;obtain⟨rfl,q⟩:=h;cases a;refine isnot_none_gen (dP I q ?_);cases x<;>first
  |(cases r;rfl)
  |(obtain⟨t,rfl⟩:=r;rfl)
def qU.or {f:Value->Value->Sem Value}{r c:R2}(h:qU X f r)(h':qU X f c):qU X f (λx y H Q=>r x y H Q∨c x y H Q):=by
 intro pins s σ H x y v u Q I b a q;rcases q with q|q
 ·exact h pins s σ H x y v u Q I b a q
 ·exact h' pins s σ H x y v u Q I b a q
def dW {r:R2}(ho:qU X (compareOp op) r)(f:PE X a ta)(e:PE X b tb)(hm:behindInMarks op b=false):PE X (.Compare a [op] [b] pos) (WX r ta tb):=by
 intro pins s σ H Q I h;exact wpAny_Compare1 (Sx f e I h λv u s2 x y g i d c q=>ho pins s2 σ g x y v u Q i d c q) hm
noncomputable def II (t:TE):TT:=λσ H Q=>t σ H λx h=>∃k,x=.bl k/\Q k h
def dX {r:R2}(ho:qU X (compareOp op) r)(n:PE X a ta)(l:PE X b tb)(hm:behindInMarks op b=false):PT X (.Compare a [op] [b] pos) (II (WX r ta tb)):=by
 intro pins s σ H Q I h;refine wpAny_isTrue_Compare1 (zY (n pins s σ H _ I h) λv s1 ⟨x,H1,t,g,j⟩=>zY (l pins s1 σ H1 _ t j) λu s2 ⟨y,A,p,f,i⟩=>
  zY (ho pins s2 σ A x y v u _ p g f i) λc s3 ⟨z,w,o,d,k,e,q⟩=>?_) hm
 subst e;cases d;exact wpAny_truthy_bool ⟨w,o,q⟩
noncomputable def Th (r b:R2)(a T t:TE):TE:=λσ H Q=>a σ H λx H1=>T σ H1 λy d=>r x y d λz h=>∃k,z=.bl k/\
 (if k=true then t σ h λw c=>b y w c Q else Q (.bl false) h)
def dY {o:CmpOp}{r i:R2}(ho:qU X (compareOp op) r)(f:qU X (compareOp o) i)(J:PE X a ta)(E:PE X b tb)(D:PE X c tc)
  (hm:lastMarks [op,o] [b,c]=false:=by with_unfolding_all rfl):PE X (.Compare a [op,o] [b,c] pos) (Th r i ta tb tc):=by
 intro pins s σ H Q I h;refine Compare_chain (zY (J pins s σ H _ I h) λv s1 ⟨x,H1,M,t,C⟩=>chain_link (zY (E pins s1 σ H1 _ M C) λu s2 ⟨y,P,L,g,B⟩=>
  zY (ho pins s2 σ P x y v u _ L t g B) λd s3 ⟨z,l,j,p,k,e,q⟩=>?_)) hm
 subst e;cases p;refine wpAny_truthy_bool ?_;cases k with
 |false=>exact ite_ff ⟨.bl false,l,j,rfl,q⟩|true=>exact ite_tt (chain_last (zY (D pins s3 σ l _ j q) λw s4 ⟨Z,N,K,n,A⟩=>f pins s4 σ N y Z u w Q K g n A))
def dZ {o:CmpOp}{r i:R2}(ho:qU X (compareOp op) r)(f:qU X (compareOp o) i)(L:PE X a ta)(K:PE X b tb)(J:PE X c tc)
  (hm:lastMarks [op,o] [b,c]=false:=by with_unfolding_all rfl):PT X (.Compare a [op,o] [b,c] pos) (II (Th r i ta tb tc)):=by
 intro pins s σ H Q I h;refine isTrue_chain (zY (L pins s σ H _ I h) λv s1 ⟨x,H1,U,t,D⟩=>test_link (zY (K pins s1 σ H1 _ U D) λu s2 ⟨y,H2,T,g,C⟩=>
  zY (ho pins s2 σ H2 x y v u _ T t g C) λd s3 ⟨z,l,j,p,k,e,q⟩=>?_)) hm
 subst e;cases p;refine wpAny_truthy_bool ?_;cases k with
 |false=>
  obtain⟨k',N,E⟩:=q;cases N;exact ite_ff ⟨l,j,E⟩
 |true=>
  refine ite_tt (test_last (zY (J pins s3 σ l _ j q) λw s4 ⟨Z,H4,S,n,B⟩=>zY (f pins s4 σ H4 y Z u w _ S g n B) λd' s5 ⟨z2,Y,P,r5,k2,M,A⟩=>?_));subst M;cases r5;exact wpAny_truthy_bool ⟨Y,P,A⟩
def Hg (K:Frag)(x:V)(H:Hp)(k:Bool):Prop:=
 match x with
 |.non=>k=false|.bl b=>k=b|.int i=>k=(i != 0)|.str y=>y.length<=sizeLine/\k=((y.length:Int) != 0)|.byt y=>y.size<=sizeLine/\k=((y.size:Int) != 0)|.ref p=>(∃xs,je K H p xs/\k = !xs.isEmpty)∨(∃xs,qH K H p xs/\k = !xs.isEmpty)∨∃kvs,H p=some (.dK kvs)/\k = !kvs.isEmpty|_=>False
def CN {κ:Type}{kvs:List (κ×V)}{vs:List (κ×Value)}(r:KV kvs vs):(!vs.isEmpty) = !kvs.isEmpty:=by
 cases r<;>rfl
def OY {xs:List V}(r:Vals xs its):(!its.toArray.isEmpty) = !xs.isEmpty:=by
 cases r<;>simp
def Jy:(sizeLine:Nat)<2 ^ 63:=by rw[sizeLine_eq];decide
def d1:dB X (λx H Q=>∃k,Hg X.K x H k/\Q k H):=by
 intro pins s σ H x v Q I a h;obtain⟨k,e,q⟩:=h;have hl:=Jy;have g:sizeLine=16777216:=sizeLine_eq;cases x with
 |non=>
  cases a;have E:k=false:=e;subst E;exact truthy_none ⟨H,I,q⟩
 |bl b=>
  cases a;have E:k=b:=e;subst E;exact wpAny_truthy_bool ⟨H,I,q⟩
 |int i=>
  obtain⟨t,rfl⟩:=a;have E:k=(i != 0):=e;subst E;exact PySem.P.truthy_int ⟨H,I,q⟩
 |str y=>
  obtain⟨t,rfl⟩:=a;obtain⟨f,E⟩:y.length<=sizeLine/\k=((y.length:Int) != 0):=e;subst E;exact PySem.P.truthy_str (by omega) ⟨H,I.tok _,q⟩
 |byt y=>
  obtain⟨t,rfl⟩:=a;obtain⟨f,E⟩:y.size<=sizeLine/\k=((y.size:Int) != 0):=e;subst E;exact PySem.W.truthy_bytes (by omega) ⟨H,I.tok _,q⟩
 |ref p=>
  cases a;have E:(∃xs,je X.K H p xs/\k = !xs.isEmpty)∨(∃xs,qH X.K H p xs/\k = !xs.isEmpty)∨∃kvs,H p=some (.dK kvs)/\k = !kvs.isEmpty:=e;rcases E with ⟨xs,c,E⟩|⟨xs,c,E⟩|⟨kvs,c,E⟩
  ·subst E
   obtain⟨d,r,l,z⟩:=I.list c;have hlen:=r.length;exact wpAny_truthy_list l.isList (by simp only[aw];omega) ⟨H,I.tok _,by rw[OY r];exact q⟩
  ·subst E
   obtain⟨d,r,l,z⟩:=I.tuple c;have hlen:=r.length;exact truthy_tuple l (by simp only[aw];omega) ⟨H,I.tok _,by rw[OY r];exact q⟩
  ·subst E
   obtain⟨z,S,vs,r,m⟩:kvs.length<=sizeLine/\(p==sysModules)=false/\∃vs,KV kvs vs/\s.heap.DictOf (yX X.prog X.w) p vs:=I.hok p _ c;have hlen:kvs.length=vs.length:=Paired.length r;exact wpAny_truthy_dict S m (by omega) ⟨H,I.tok _,by rw[CN r];exact q⟩
 |_=>exact(show False from e).elim
def NG (c:PE X a ta)(he:∀whole,isTrue a X.env whole=(do let v <- whole;standAt a.pos;holding [v] (truthy v))):
  PT X a (λσ H Q=>ta σ H λx b=>∃k,Hg X.K x b k/\Q k b):=by
 intro pins s σ H Q I h;exact isTrue_plain (zY (c pins s σ H _ I h) λv s1 ⟨x,H1,i,r,q⟩=>d1 pins s1 σ H1 x v Q i r q) (he _)
def vals1 {x:V}(r:Vals [x] us):∃u,us=[u]/\RelV x u:=by
 cases r with
 |cons b a=>cases a;exact⟨_,rfl,b⟩
def vals2 {x y:V}(r:Vals [x,y] us):∃u w,us=[u,w]/\RelV x u/\RelV y w:=by
 cases r with
 |cons d c=>
  cases c with
  |cons b a=>cases a;exact⟨_,_,rfl,d,b⟩
def AW:yn X (.builtin "abs") (λxs H Q=>∃i,xs=[.int i]/\Q (.int (if i<0 then -i else i)) H):=by
 intro pins s σ H xs us Q I r h;obtain⟨i,rfl,q⟩:=h;obtain⟨u,rfl,t,rfl⟩:=vals1 r;exact call_abs_int λu T=>⟨.int (if i<0 then -i else i),H,I.tok _,⟨_,rfl⟩,q⟩
def Bk (c:X.calm=true):yn X (.builtin "max") (λxs H Q=>∃i j,xs=[.int i,.int j]/\Q (.int (if j > i then j else i)) H):=by
 intro pins s σ H xs us Q I r h;obtain⟨i,j,rfl,q⟩:=h;obtain⟨u,w,rfl,⟨t,rfl⟩,⟨t',rfl⟩⟩:=vals2 r;refine max_two_ints (I.ok.hd c) λh' T k=>⟨_,H,I.kept k,?_,q⟩
 by_cases a:j > i
 ·rw[aj a,aj a];exact⟨_,rfl⟩
 ·rw[ao a,ao a];exact⟨_,rfl⟩
def Aj (c:X.calm=true):yn X (.builtin "min") (λxs H Q=>∃i j,xs=[.int i,.int j]/\Q (.int (if j<i then j else i)) H):=by
 intro pins s σ H xs us Q I r h;obtain⟨i,j,rfl,q⟩:=h;obtain⟨u,w,rfl,⟨t,rfl⟩,⟨t',rfl⟩⟩:=vals2 r;refine min_two_ints (I.ok.hd c) λh' T k=>⟨_,H,I.kept k,?_,q⟩
 by_cases a:j<i
 ·rw[aj a,aj a];exact⟨_,rfl⟩
 ·rw[ao a,ao a];exact⟨_,rfl⟩
def Bi:yn X (.type "int") (λxs H Q=>(∃i,xs=[.int i]/\Q (.int i) H)∨∃k,xs=[.bl k]/\Q (.int (if k then 1 else 0)) H):=by
 intro pins s σ H xs us Q I r h;rcases h with ⟨i,rfl,q⟩|⟨k,rfl,q⟩
 ·obtain⟨u,rfl,t,rfl⟩:=vals1 r
  exact call_int_int ⟨.int i,H,I,⟨_,rfl⟩,q⟩
 ·obtain⟨u,rfl,a⟩:=vals1 r
  cases a;exact call_int_bool ⟨.int (if k then 1 else 0),H,I.tok _,⟨_,rfl⟩,q⟩
end
structure Su (h:Heap)(x dx C:Addr)(mA:bZ):Prop where
 obj:h.get? x=some (instObj C dx)
 ns:h.Ns1 dx mA
 ne:dx≠x
def BO {D:Addr}{M:bZ}(n:h.Ns1 D M):∃d,h.get? D=some d/\∀name,lookIn name d=some (M name):=by
 obtain⟨o,E,p,ho,hd,c,_,hm⟩:=n;refine⟨o,ho,λname=>?_⟩;have e:=hm name;unfold nsFind findBy at e;rw[<- Array.find?_toList]at e;unfold lookIn;rw[hd];dsimp only
 split
 ·rename_i y q
  rw[q]at e;exact congrArg some e
 ·rename_i q
  rw[q]at e;have a:E.toList.any (·.refKey)=false:=by
   rw[List.any_eq_false];intro y b;obtain⟨z,t,H⟩:=c y (Array.mem_toList_iff.mp b);simp[DictEntry.refKey,H]
  have A:¬E.toList.any (·.refKey)=true:=by rw[a];exact aD
  rw[ao A];exact congrArg some e
def Su.look {x d C:Addr}{M:bZ}(I:Su h x d C M):∃o,PySem.W.InstAt h x (instObj C d) C (some o)/\∀name,lookIn name o=some (M name):=
 let ⟨o,ho,hl⟩:=BO I.ns
 ⟨o,⟨I.obj,rfl,rfl,ho⟩,hl⟩
def Qz.some_of {v:V}{o:bQ}(r:Qz (some v) o):∃u,o=some u/\RelV v u:=by
 cases o with
 |none=>exact(show False from r).elim|some u=>exact⟨u,rfl,r⟩
section
variable {H:Hp}{C dx:Addr}{fs:List (Str×V)}
def d2 (hok:jy P w H h)(e:H a=some (.ins C dx fs)):∃M,Su h a dx C M/\(∀f,Qz (fs.lookup f) (M f))/\PySem.Within M (fs.map (·.1))/\fs.length<=1000/\H dx=some (.own a):=by
 obtain⟨d,z,ne,ob,M,n,r,q⟩:=(show jv P w H h a (.ins C dx fs) from hok a _ e)
 exact⟨M,⟨ob,n,ne⟩,r,q,z,d⟩
end
structure wY (K:Frag)(C:Addr):Prop where
 pg:plainGet K C Str.empty=true
 hd:PySem.W.hasDictIn K C=true
 po:PySem.W.plainOver K C=true
 sa:PySem.W.findIn K (.ref C) "__setattr__"=some (some (.builtin "object.__setattr__"))
def wY.get {K:Frag}{C:Addr}(c:wY K C)(f:Str):plainGet K C f=true:=c.pg
section
variable {X:Cx}{σ:St}{H:Hp}{A:Around}{c:Value}{b:Bool}
inductive gq (K:Frag)(H:Hp):V->Value->Prop where
 |non:gq K H .non (.type "NoneType")
 |bl (x:Bool):gq K H (.bl x) (.type "bool")
 |int (i:Int):gq K H (.int i) (.type "int")
 |str (x:Str):gq K H (.str x) (.type "str")
 |flt (x:UInt64):gq K H (.flt x) (.type "float")
 |lst {a:Addr} {xs:List V} (e:H a=some (.lst xs)):gq K H (.ref a) (.type "list")
 |frz {a:Addr} {o:Obj} {xs:List V} (e:H a=some (.frz o (.lst xs))):gq K H (.ref a) (.type "list")
 |tup {a:Addr} {xs:List V} (e:H a=some (.tup xs)):gq K H (.ref a) (.type "tuple")
 |dK {a:Addr} {kvs:List (Key×V)} (e:H a=some (.dK kvs)):gq K H (.ref a) (.type "dict")
 |dT {a:Addr} {kvs:List (List Key×V)} (e:H a=some (.dT kvs)):gq K H (.ref a) (.type "dict")
 |ins {a C dx:Addr} {fs:List (Str×V)} (e:H a=some (.ins C dx fs)) (cl:wY K C) (ha:PySem.W.findIn K (.ref C) "__class__"=some (some (.builtin "object.__class__")))
   (hn:PySem.W.specialIn K (.builtin "object.__class__") "__get__"=some (some (.builtin "getset_descriptor.__get__"))) (htk:PySem.W.takesIn K (.builtin "object.__class__")=some true)
   (hm:PySem.W.mroIn K C (.type "object")=some true):gq K H (.ref a) (.ref C)
def Nc {x:V}{t:Value}(I:Inv X pins σ H s)(r:RelV x u)(ty:gq X.K H x t)(e:kitOne X.K t c=some b)(h:∀T,Q (.bool b) { s with toks:=T }):
  wpAny (model X.prog X.w) A (call (.builtin "isinstance") [u,c]) Q E s:=by
 cases ty with
 |non=>cases (show u=Value.none from r);exact bA kitx_none I.kIn True.intro e (λz=>nomatch z) h
 |bl y=>cases (show u=Value.bool y from r);exact bA kitx_bool I.kIn True.intro e (λz=>nomatch z) h
 |int i=>obtain⟨t,q⟩:=(show ∃t,u=Value.int i t from r);cases q;exact bA kitx_int I.kIn True.intro e (λz=>nomatch z) h
 |str y=>obtain⟨t,q⟩:=(show ∃t,u=Value.str y t from r);cases q;exact bA kitx_str I.kIn True.intro e (λz=>nomatch z) h
 |flt y=>obtain⟨t,q⟩:=(show ∃t,u=Value.float y t from r);cases q;exact bA kitx_float I.kIn True.intro e (λz=>nomatch z) h
 |@lst a xs ea=>
  cases (show u=Value.ref a from r)
  obtain⟨_,_,n,_,h1⟩:=(show jv X.prog X.w H s.heap a (.lst xs) from I.hok a _ ea)
  exact bA kitx_list I.kIn ⟨_,h1,rfl⟩ e (λz=>nomatch z) h
 |@frz a ob xs ea=>
  cases (show u=Value.ref a from r)
  obtain⟨_,_,_,n,_,h1⟩:=(show jv X.prog X.w H s.heap a (.frz ob (.lst xs)) from I.hok a _ ea)
  exact bA kitx_list I.kIn ⟨_,h1,rfl⟩ e (λz=>nomatch z) h
 |@tup a xs ea=>
  cases (show u=Value.ref a from r)
  obtain⟨_,_,_,p⟩:=(show jv X.prog X.w H s.heap a (.tup xs) from I.hok a _ ea)
  obtain⟨o,h1,h2,_⟩:=p;exact bA kitx_tuple I.kIn ⟨o,h1,h2.1⟩ e (λz=>nomatch z) h
 |@dK a kvs ea=>
  cases (show u=Value.ref a from r)
  obtain⟨_,_,vs,_,p⟩:=(show jv X.prog X.w H s.heap a (.dK kvs) from I.hok a _ ea)
  obtain⟨o,g,j,h1,h2,_⟩:=p;exact bA kitx_dict I.kIn ⟨o,h1,h2.1⟩ e (λz=>nomatch z) h
 |@dT a kvs ea=>
  cases (show u=Value.ref a from r)
  obtain⟨_,_,xs,_,o,g,j,h1,h2,_⟩:=(show jv X.prog X.w H s.heap a (.dT kvs) from I.hok a _ ea)
  exact bA kitx_dict I.kIn ⟨o,h1,h2.1⟩ e (λz=>nomatch z) h
 |@ins a C dx fs ea cl f hn d hm=>
  cases (show u=Value.ref a from r)
  obtain⟨M,O,_⟩:=d2 I.hok ea;obtain⟨l,J,_⟩:=O.look;exact bA (PySem.W.kitx_own (cl.get _) cl.hd f hn d hm) I.kIn J e (λz=>nomatch z) h
end
structure jO (k:Nat)(A:Around):Prop where
 hd:A.handled=none
 dp:A.depth+3 * k+5<recursionLimit
 un:A.units+16 * k+200<cLine
def jO.mono {k:Nat}{A:Around}(r:jO k A)(h:j<=k):jO j A:=⟨r.hd,by have:=r.dp;omega,by have:=r.un;omega⟩
theorem jO.deeper {k:Nat}{A:Around}(r:jO (k+1) A)(env:Env):jO k (A.deeper env):=
 ⟨r.hd,by have:=r.dp;show A.depth+1+3 * k+5<_;omega,by have:=r.un;show A.units+3+16 * k+200<_;omega⟩
theorem jO.depth {k:Nat}{A:Around}(r:jO k A):A.depth<recursionLimit:=by have:=r.dp;omega
theorem jO.units {k:Nat}{A:Around}(r:jO k A):A.units+64<cLine:=by have:=r.un;omega
noncomputable def Sy:TA:=λ_ H Q=>Q [] H
noncomputable def XA (t:TE)(tr:TA):TA:=λσ H Q=>t σ H λx H1=>tr σ H1 λxs h=>Q (x::xs) h
section
variable {X:Cx}{te:TE}{t:TA}
def yg:PA X [] Sy:=λ_ _ _ _ H Q I h=>Calls.spliced_nil ⟨[],H,I,.nil,h⟩
def jD (f:PE X e te)(d:PA X es t)(c:starEach (e::es) X.env=(false,eval e X.env)::starEach es X.env:=by rfl):PA X (e::es) (XA te t):=by
 intro pos pins s σ H Q I h;rw[c];show wpAny _ _ (spliced ((false,eval e X.env)::backTo pos (starEach es X.env))) _ _ s;refine Calls.spliced_cons (zY (f pins s σ H _ I h) λu s1 ⟨x,H1,g,a,b⟩=>?_);exact zY (d pos pins s1 σ H1 _ g b) λus s2 ⟨xs,j,i,r,q⟩=>⟨x::xs,j,i,.cons a r,q⟩
def d4 (t:TA):TE:=λσ H Q=>t σ H λxs H1=>xs.length<=sizeLine/\∀p,H1 p=none->Q (.ref p) (upd H1 p (.tup xs))
def d6 (t:TA):TE:=λσ H Q=>t σ H λxs H1=>xs.length<=sizeLine/\∀p,H1 p=none->Q (.ref p) (upd H1 p (.lst xs))
def LM {x1}(h:PA X es t):PE X (.Tuple es x1 pos) (d4 t):=by
 intro pins s σ H Q I a;refine wpAny_Tuple_spliced (zY (h pos pins s σ H _ I a) λus s1 ⟨xs,H1,i,r,z,q⟩=>⟨by rw[<- r.length];exact z,?_⟩)
 have hf:H1 s1.heap.objs.size=none:=i.hok.fresh (aq _);refine⟨.ref s1.heap.objs.size,upd H1 s1.heap.objs.size (.tup xs),i.laid (t':=s1.toks) (λb u e=>af _ e) (aq _) ?_,rfl,q _ hf⟩;exact⟨z,us,r,⟨_,ay _ rfl,⟨rfl,rfl⟩,_,rfl⟩⟩
def d7 (h:PA X es t):PE X (.List es pos) (d6 t):=by
 intro pins s σ H Q I a;refine wpAny_List_spliced (zY (h pos pins s σ H _ I a) λus s1 ⟨xs,H1,i,r,z,q⟩=>⟨by rw[<- r.length];exact z,?_⟩)
 have hf:H1 s1.heap.objs.size=none:=i.hok.fresh (aq _);refine⟨.ref s1.heap.objs.size,upd H1 s1.heap.objs.size (.lst xs),i.laid (t':=s1.toks) (λb u e=>af _ e) (aq _) ?_,rfl,q _ hf⟩;exact⟨z,us,0,r,ay _ rfl⟩
end
abbrev Sp:=List V->Hp->VK->XK->Prop
abbrev gO:=List Env->Hp->Shared->XK->Value->Shared->Prop
structure YO (P:Program)(w:World)(K:Frag)(mg:bZ)(base:Heap)(A:Around)(outer:b0)(s:Shared)(H:Hp):Prop where
 frames:A.frames=some outer
 mod:Mod K mg base
 bs:∀b o,base.get? b=some o->s.heap.get? b=some o/\H b=none
 bsz:base.objs.size<=s.heap.objs.size
 funs:s.heap.FunFrames base outer
 frf:∀b∈qR outer,H b=none
 hok:jy P w H s.heap
 bare:AllBare s.gens
inductive CE (outer:b0)(P:Program)(w:World)(H:Hp)(s:Shared)(Q:VK)(u:Value)(s':Shared):Prop
 |mk (v:V) (H':Hp) (os:s'.os=s.os) (b:AllBare s'.gens) (un:Un (qR outer) [] H H' s.heap s'.heap) (hk:jy P w H' s'.heap) (r:RelV v u) (q:Q v H')
def CR (C:gO)(outer:b0)(P:Program)(w:World)(H:Hp)(s:Shared)(Q:VK)(E:XK)(r:Result)(s':Shared):Prop:=
 match r with
 |.ok (.ret u)=>CE outer P w H s Q u s'|.ok _=>False|.error e=>C outer H s E e s'
structure yG (P:Program)(w:World)(K:Frag)(mg:bZ)(base:Heap)(CX:gO)(k:Nat)(f:Addr)(fd:FuncData)(ps:bR)(sp:Sp):Prop where
 len:∀vs H Q E,sp vs H Q E->vs.length=ps.length
 run:∀(A:Around)(outer:b0)(s:Shared)(H:Hp)(args:Args)(us:bL)(vs:List V)(Q:VK)(E:XK),jO k A->YO P w K mg base A outer s H->BindsTo s fd args (ps.zip us)->Vals vs us->sp vs H Q E->
  codeAny (model P w) A (.call (.ref f) args) (CR CX outer P w H s Q E) s
theorem yG.mono {K:Frag}{C:gO}{k:Nat}{f:Addr}{sp:Sp}(F:yG P w K mg base C j f fd ps sp)(h:j<=k):
  yG P w K mg base C k f fd ps sp:=⟨F.len,λA outer s H args us vs Q E r=>F.run A outer s H args us vs Q E (r.mono h)⟩
def yG.imp {K:Frag}{C:gO}{k:Nat}{f:Addr}{sp S:Sp}(F:yG P w K mg base C k f fd ps sp)
  (h:∀vs H Q E,S vs H Q E->sp vs H Q E):yG P w K mg base C k f fd ps S:=
 ⟨λvs H Q E q=>F.len vs H Q E (h _ _ _ _ q),λA outer s H args us vs Q E r he b v a=>F.run A outer s H args us vs Q E r he b v (h _ _ _ _ a)⟩
section
variable {X:Cx}{σ:St}{H:Hp}
def Inv.env0 (I:Inv X pins σ H s):YO X.prog X.w X.K X.mg X.base X.A X.stack s H:=
 ⟨I.ok.frames,I.ok.mod,I.bs,a4 I.ok.bsz I.sz,I.stack,I.stkFree,I.hok,I.bare⟩
def Inv.after {Q:VK}(I:Inv X pins σ H s)(h:CE X.stack X.prog X.w H s Q u s'):EP X pins σ Q u s':=by
 obtain⟨v,c,os,bare,un,hok,r,q⟩:=h;obtain⟨a,g,d,t,o⟩:=s';obtain rfl:o=s.os:=os;exact⟨v,c,I.call (h':=a) (g':=g) (d':=d) (t':=t) (ch:=[]) un hok bare (λb z=>absurd z (by simp)),r,q⟩
end
noncomputable def d8 (sp:Sp)(d:List V)(E:XK)(t:TA):TE:=λσ H Q=>t σ H λvs H1=>sp (vs++d) H1 Q E
def Binds (K:Frag)(fd:FuncData)(ps:bR)(ds:bL):Prop:=
 ∀(s:Shared)(us:bL),K.In s.heap->(us++ds).length=ps.length->BindsTo s fd ⟨us,[]⟩ (ps.zip (us++ds))
def Binds.all {K:Frag}(h:∀us:bL,us.length=ps.length->bindArgs fd ⟨us,[]⟩=pure (ps.zip us)):Binds K fd ps []:=λs us _ hl=>by
 rw[a7]at hl ⊢;exact .of_eq (h us hl)
def Passes (C:gO)(X:Cx)(E:XK):Prop:=∀(pins:bN)(σ:St)(H:Hp)(s:Shared)(e:Value)(s':Shared),Inv X pins σ H s->C X.stack H s E e s'->X.xe e s'
section
variable {X:Cx}{CX:gO}{k:Nat}{f:Addr}{sp:Sp}{dvs:List V}{ds:bL}{E:XK}{t:TA}
def Ln {σ:St}{H:Hp}{Q:VK}{vs:List V}(F:yG X.prog X.w X.K X.mg X.base CX k f fd ps sp)(b:jO k X.A)(c:Binds X.K fd ps ds)(hd:Vals dvs ds)(x:Passes CX X E)
  (I:Inv X pins σ H s)(r:Vals vs us)(h:sp (vs++dvs) H Q E):wpAny (model X.prog X.w) X.A (call (.ref f) us) (EP X pins σ Q) X.xe s:=by
 have a:Vals (vs++dvs) (us++ds):=r.append hd;have hl:(us++ds).length=ps.length:=by rw[<- a.length];exact F.len _ _ _ _ h
 refine wpAny_call (codeAny_mono (F.run X.A X.stack s H ⟨us,[]⟩ (us++ds) (vs++dvs) Q E b I.env0 (c s us I.kIn hl) a h) λr s' q=>?_);cases r with
 |error e=>exact x pins σ H s e s' I q|ok fl=>
  cases fl with
  |ret u=>exact I.after q|next=>exact False.elim q|brk=>exact False.elim q|cont=>exact False.elim q
def Ms (F:yG X.prog X.w X.K X.mg X.base CX k f fd ps sp)(c:jO k X.A)(g:Gl X x)(hm:X.mg x=some (.ref f))(d:keepIn X.K (.ref f)=true)(j:Binds X.K fd ps ds)(hd:Vals dvs ds)(a:Passes CX X E)
  (n:PA X (e::es) t)(b:(x==("__debug__":Str))=false:=by decide)(he:starEach (e::es) X.env=(false,eval e X.env)::starEach es X.env:=by rfl)(l:(backTo pos (starEach es X.env)).any (·.1)=false:=by rfl):
  PE X (.Call (.Name x p) (e::es) [] pos) (d8 sp dvs E t):=by
 intro pins s σ H Q I h;refine wpAny_Call_Name_kw (K1 I g hm ?_ b);refine callWith_K (h₀:=X.base) I.ok.mod.kin d (zY (n pos pins s σ H _ I h) λus s1 ⟨vs,H1,i,r,q⟩=>⟨i.kIn,?_⟩) he l;exact Ln F c j hd a i r q
end
structure qC (N P:bR)(sc:Scope):Prop where
 kind:sc.kind=.function
 co:sc.isCoroutine=false
 gen:sc.isGenerator=false
 nd:N.Nodup
 pre:N.take P.length=P
 par:∀x∈P,sc.names.lookup x=some .local∨sc.names.lookup x=some .cell
 nofree:∀y∈sc.names,y.2≠.free
theorem Np {kindOf:Str->Option NameKind}:∀{binds:List (Str×Value)}{m:bZ},(∀v,(x,v)∉binds)->bindL kindOf binds m x=m x
 |[],_,_=>rfl|(n,v)::r,m,h=>by
  unfold bindL;rw[Np λw hw=>h w (au _ hw)]
  split
  ·have:x≠n:=by rintro rfl;exact h v aB
   simp[this]
  ·rfl
theorem Nb {kindOf:Str->Option NameKind}:∀{binds:List (Str×Value)}{m:bZ},(∀v,(x,v)∉binds)->bindC kindOf binds m x=m x
 |[],_,_=>rfl|(n,v)::r,m,h=>by
  unfold bindC;rw[Nb λw hw=>h w (au _ hw)]
  split
  ·rfl
  ·have:x≠n:=by rintro rfl;exact h v aB
   simp[this]
theorem Nq {kindOf:Str->Option NameKind}{v:Value}:∀{P:bR}{vs:bL}{i:Nat}{m:bZ},P.Nodup->P[i]? =some x->vs[i]? =some v->kindOf x=some .local->
  bindL kindOf (P.zip vs) m x=some v
 |[],_,_,_,_,h,_,_=>by simp at h|_::_,[],_,_,_,_,h,_=>by simp at h|p::P,w::vs,0,m,nd,h1,h2,H=>by
  simp at h1 h2;subst h1;subst h2;show bindL kindOf ((p,w)::P.zip vs) m p=_;unfold bindL;rw[Np λv a=>(List.nodup_cons.mp nd).1 (of_mem_zip a).1,aj H];simp
 |p::P,w::vs,i+1,m,nd,h1,h2,H=>by
  show bindL kindOf ((p,w)::P.zip vs) m x=_;unfold bindL;exact Nq (i:=i) (List.nodup_cons.mp nd).2 (by simpa using h1) (by simpa using h2) H
theorem Nr {kindOf:Str->Option NameKind}{v:Value}:∀{P:bR}{vs:bL}{i:Nat}{m:bZ},P.Nodup->P[i]? =some x->vs[i]? =some v->kindOf x≠some .local->
  bindC kindOf (P.zip vs) m x=some v
 |[],_,_,_,_,h,_,_=>by simp at h|_::_,[],_,_,_,_,h,_=>by simp at h|p::P,w::vs,0,m,nd,h1,h2,H=>by
  simp at h1 h2;subst h1;subst h2;show bindC kindOf ((p,w)::P.zip vs) m p=_;unfold bindC;rw[Nb λv a=>(List.nodup_cons.mp nd).1 (of_mem_zip a).1,ao H];simp
 |p::P,w::vs,i+1,m,nd,h1,h2,H=>by
  show bindC kindOf ((p,w)::P.zip vs) m x=_;unfold bindC;exact Nr (i:=i) (List.nodup_cons.mp nd).2 (by simpa using h1) (by simpa using h2) H
noncomputable def start (N:bR)(vs:List V):St:=vs.map some++List.replicate (N.length-vs.length) none
noncomputable def wj (C:gO)(P:Program)(w:World)(K:Frag)(mg:bZ)(base:Heap)(N:bR)(qual:Str)(scope:Scope)(f:Addr)(cd:Value)(A:Around)(outer:b0)(s:Shared)(H:Hp)(E:XK):Cx where
 prog:=P
 w:=w
 K:=K
 mg:=mg
 base:=base
 A:=A.deeper (envOfC qual scope s.heap.objs.size f cd)
 N:=N
 s0:=s
 H0:=H
 env:=envOfC qual scope s.heap.objs.size f cd
 outer:=outer
 stack:=envOfC qual scope s.heap.objs.size f cd::outer
 ex:=[]
 calm:=true
 fn:=λ_=>true
 pn:=[]
 xe:=λe s'=>wpAny (model P w) (A.deeper (envOfC qual scope s.heap.objs.size f cd)) (leaving (envOfC qual scope s.heap.objs.size f cd) e) (λ_ S=>C outer H s E e S) (λa S=>C outer H s E a S) s'
def NF (h:sc.names.lookup x=some .cell):∃c,(cellsFrom n sc.names []).lookup x=some c:=by
 have q:=cellsFrom_some sc.names n [] (.inl h);exact Option.isSome_iff_exists.mp q
def BB {X:gO}{K:Frag}{f:Addr}{cd:Value}{A:Around}{outer:b0}{s1:Shared}{H:Hp}{E:XK}{vs:List V}
  (S:qC N ps scope)(hd:A.handled=none)(d:YO P w K mg base A outer s H)(hl:vs.length=ps.length)(r:Vals vs us)
  (x:InCallC s s.heap.objs.size (bindL (envOfC qual scope s.heap.objs.size f cd).kindOf (ps.zip us) λ_=>none) (cellsFrom (s.heap.objs.size+1) scope.names []) (bindC (envOfC qual scope s.heap.objs.size f cd).kindOf (ps.zip us) λ_=>none) s1):
  Inv (wj X P w K mg base N qual scope f cd A outer s H E) [] (start N vs) H s1:=by
 have I:ps.length<=N.length:=by have:=congrArg List.length S.pre;rw[bC]at this;omega
 obtain⟨h1,T,rfl,C⟩:=x.done;have g:∀b:Addr,b∉(wj X P w K mg base N qual scope f cd A outer s H E).ex:=λb z=>absurd (show b∈([]:bM) from z) (by simp)
 refine⟨⟨d.mod,S.kind,rfl,rfl,aq _,λy z c h1 h2=>?_,λy j=>?_,λy c _ h=>?_,λ_=>hd,Around.frames_deeper d.frames,.inr ⟨rfl,rfl⟩,λb z=>absurd z (g b),d.bs,d.bsz,λb _ _=>g b,λb z=>absurd z (g b),d.funs,d.frf⟩,
  rfl,d.bare,Un.kept C,⟨_,x.toInCall.ns,λi y v h1 h2 L=>?_⟩,λy c h=>⟨_,x.cell y c h⟩,d.hok.fresh (aq _),λy c h=>?_,λp o=>absurd (show p∈([]:bN) from o) (by simp),d.hok.kept C,?_⟩
 ·exact name_of_addr x.apart (PySem.mem_of_lookup h1) (PySem.mem_of_lookup h2)
 ·have j:scope.names.lookup y=some .cell∨scope.names.lookup y=some .free:=j
  rcases j with j|j
  ·exact NF j
  ·exact absurd rfl (S.nofree _ (PySem.mem_of_lookup j))
 ·exact bz (x.above y c (PySem.mem_of_lookup h))
 ·have t:i<vs.length:=by
   unfold start at h2
   by_cases t:i<vs.length
   ·exact t
   ·rw[ar (by simpa using t)]at h2
    rw[bw]at h2
    split at h2<;>cases h2
  have J:vs[i]? =some v:=by
   unfold start at h2;rw[ag (by simpa using t),ax]at h2
   cases e:vs[i]? with
   |none=>rw[e]at h2;cases h2|some a=>rw[e]at h2;cases h2;rfl
  obtain⟨u,B,D⟩:=r.get J;have o:ps[i]? =some y:=by
   rw[<- S.pre,List.getElem?_take_of_lt (by omega)];exact h1
  have l:ps.Nodup:=by rw[<- S.pre];exact S.nd.sublist (List.take_sublist _ _)
  refine⟨u,D,?_⟩;rcases S.par y (bg o) with k|k
  ·exact .inl ⟨k,Nq l o B k⟩
  ·obtain⟨c,e⟩:=NF (n:=s.heap.objs.size+1) k
   refine .inr ⟨.inl k,c,e,?_⟩;have q:=x.cell y c e;rw[Nr l o B (by show scope.names.lookup y≠_;rw[k];decide)]at q
   exact q
 ·exact d.hok.fresh (bz (x.above y c (PySem.mem_of_lookup h)))
 ·unfold start
  show _=N.length;rw[av,ak,bB];omega
def Sf {C:gO}{K:Frag}{k:Nat}{f:Addr}{name:Str}{params:Arguments}{D kV doc pm c ct M:Value}{an L:cb}
  {sp:Sp}(lk:K.lookup f=some ⟨M,L,.func (fnOf name qual params body scope D kV doc pm an c ct),osl⟩)(B:codeIn K c qual=true)(S:qC N ps scope)
  (len:∀vs H Q E,sp vs H Q E->vs.length=ps.length)
  (g:∀(A:Around)(outer:b0)(s:Shared)(H:Hp)(vs:List V)(Q:VK)(E:XK),jO k (A.deeper (envOfC qual scope s.heap.objs.size f c))->sp vs H Q E->
   ∃t,yM (wj C P w K mg base N qual scope f c A outer s H E) body t/\t { nx:=λ_ h=>Q .non h,rt:=Q } (start N vs) H):
  yG P w K mg base C (k+1) f (fnOf name qual params body scope D kV doc pm an c ct) ps sp:=by
 refine⟨len,λA outer s H args us vs Q E z j Z r p=>?_⟩;have hl:=len _ _ _ _ p;have X:K.In s.heap:=j.mod.kin.keeps λb o e=>(j.bs b o e).1;have lim:s.heap.NoLimit:=j.mod.nolimit.keeps λb o e=>(j.bs b o e).1;have d:∀y∈ps.zip us,scope.names.lookup y.1=some .local∨(scope.names.lookup y.1=some .cell/\((cellsFrom (s.heap.objs.size+1) scope.names []).lookup y.1).isSome=true):=λ⟨n,v⟩ T=>by
  rcases S.par n (of_mem_zip T).1 with q|q
  ·exact .inl q
  ·exact .inr ⟨q,cellsFrom_some _ _ _ (.inl q)⟩
 refine codeAny_call_function z.depth (X _ _ lk) rfl S.co S.gen rfl (PySem.W.codeRec_of X B) (Z _ _ _ _ ?_);refine wpAny_newFunctionEnv_cells S.kind d λenv he s1 x=>?_;subst he;refine⟨lim.keeps x.toInCall.keep,codeAny_func ?_⟩;obtain⟨t,U,Y⟩:=g A outer s H vs Q E (z.deeper _) p;have I:Inv (wj C P w K mg base N qual scope f c A outer s H E) [] (start N vs) H s1:=BB S z.hd j hl r x;refine wpAny_mono (U [] s1 (start N vs) H _ I Y) (λfl s' i=>?_) λe s' i=>i;have fin:∀{a:St}{h:Hp}{v:V}{u:Value},Inv (wj C P w K mg base N qual scope f c A outer s H E) [] a h s'->RelV v u->Q v h->CE outer P w H s Q u s':=
  λ {a h v u} J l q=>⟨v,h,J.os,J.bare,J.base,J.hok,l,q⟩
 cases fl with
 |ret u=>
  obtain⟨v,a,h,J,l,q⟩:=i;exact fin J l q
 |next=>
  obtain⟨a,h,J,q⟩:=i;exact fin (v:=V.non) (u:=Value.none) J rfl q
 |brk=>
  obtain⟨_,_,_,q⟩:=i;exact False.elim q
 |cont=>
  obtain⟨_,_,_,q⟩:=i;exact False.elim q
section
variable {X:Cx}{t:TA}{id T:String}{r:List V->Hp->VK->Prop}
noncomputable def Vf (r:List V->Hp->VK->Prop)(t:TA):TE:=λσ H Q=>t σ H λvs H1=>r vs H1 Q
def Z5 (c:yn X (.builtin id) r)(g:Gl X x)(hm:X.mg x=none)(v:bootBuiltins x=some (.builtin id))(d:PA X (e::es) t)(hn:x ≠ "__name__":=by decide)(b:(x==("__debug__":Str))=false:=by decide)
  (he:starEach (e::es) X.env=(false,eval e X.env)::starEach es X.env:=by rfl)(l:(backTo pos (starEach es X.env)).any (·.1)=false:=by rfl):PE X (.Call (.Name x p) (e::es) [] pos) (Vf r t):=by
 intro pins s σ H Q I h;refine wpAny_Call_Name_kw (Qe I g hm v ?_ hn b);exact PyProof.Rows.callWith_builtin1 (zY (d pos pins s σ H _ I h) λus s1 ⟨vs,H1,i,a,q⟩=>c pins s1 σ H1 vs us Q i a q) he l
def KG (c:yn X (.type T) r)(g:Gl X x)(hm:X.mg x=none)(v:bootBuiltins x=some (.type T))(d:PA X (e::es) t)(hn:x ≠ "__name__":=by decide)(b:(x==("__debug__":Str))=false:=by decide)
  (he:starEach (e::es) X.env=(false,eval e X.env)::starEach es X.env:=by rfl)(l:(backTo pos (starEach es X.env)).any (·.1)=false:=by rfl):PE X (.Call (.Name x p) (e::es) [] pos) (Vf r t):=by
 intro pins s σ H Q I h;refine wpAny_Call_Name_kw (Qe I g hm v ?_ hn b);exact PyProof.Rows.callWith_type1 (zY (d pos pins s σ H _ I h) λus s1 ⟨vs,H1,i,a,q⟩=>c pins s1 σ H1 vs us Q i a q) he l
end
end L2
variable {X:L2.Cx}{o:L2.HO}{H:L2.Hp}{kvs:List (L2.Key×L2.V)}{vs xs ys:List L2.V}{r:List L2.V->L2.Hp->L2.VK->Prop}{σ:L2.St}{v:L2.V}
namespace HT
open PySem PyProof.Rows
section
open PySem.SeqAt
open PySem.AutoSeq1 (wpAny_loadPart')
open PySem.MeetsSeq PySem.MeetsSeq2 PySem.MeetsSeq3
end
section
variable {prog:Program}{A:Around}
def zct {t:Addr}{vs ws:bL}(a:IsTup s.heap t vs.toArray)(f:IsTup s.heap b ws.toArray)(v:vs≠[])
  (h1:ws=[]->Q (.ref t) s)(h2:ws≠[]->Q (.ref s.heap.objs.size) { s with heap:=s.heap.push { cls:=.type "tuple",data:=.seq (vs++ws).toArray } })
  (z:vs.length+ws.length<=sizeLine):wpAny (model prog w) A (binaryOp .Add (.ref t) (.ref b)) Q E s:=by
 obtain⟨⟨cls,dd,data,sl⟩,ho,c,n,hd⟩:=id a;obtain⟨⟨C,d,data2,S⟩,h,H,N,hd2⟩:=id f;simp only at c hd H hd2;subst c hd H hd2;have e:vs.toArray++ws.toArray=(vs++ws).toArray:=by simp
 by_cases hw:ws=[]
 ·exact concat_meets ⟨_,ho,rfl⟩ ⟨_,h,rfl⟩ noFill_tuple_add seq_tuple_add slot_tuple_add entry_tuple_add (args_tuple_add_2 _ _)
   (tuple_addW1 t b vs.toArray ws.toArray n N dd d sl S (by simpa using v) (by simp[hw])) ⟨ho,h,h1 hw⟩
 ·refine concat_meets ⟨_,ho,rfl⟩ ⟨_,h,rfl⟩ noFill_tuple_add seq_tuple_add slot_tuple_add entry_tuple_add (args_tuple_add_2 _ _)
   (tuple_addW2 t b vs.toArray ws.toArray n N dd d sl S (by simpa using v) (by simpa using hw) (by rw[aw,aw];exact z)) ⟨ho,h,?_⟩
  rw[e];exact h2 hw
noncomputable def qB (n d:Nat):Option Int->Nat
 |none=>d|some v=>if v<0 then(v+(n:Int)).toNat else min v.toNat n
def AY (n d:Nat):qB n d none=d:=rfl
def zbm (n d k:Nat):qB n d (some (k:Int))=min k n:=by
 show(if (k:Int)<0 then((k:Int)+(n:Int)).toNat else min (k:Int).toNat n)=min k n;rw[ao (by omega),aG]
def d9 (n d:Nat)(hd:d<=n)(o:bV):qB n d o<=n:=by
 cases o with
 |none=>exact hd|some v=>
  show(if v<0 then(v+(n:Int)).toNat else min v.toNat n)<=n
  by_cases h:v<0
  ·rw[aj h];omega
  ·rw[ao h];exact Nat.min_le_right _ _
def La (v:Int)(n d:Nat):(if v<0 then max (v+(n:Int)) 0 else min v (n:Int))=((qB n d (some v):Nat):Int):=by
 show(if v<0 then max (v+(n:Int)) 0 else min v (n:Int))=(((if v<0 then(v+(n:Int)).toNat else min v.toNat n):Nat):Int)
 by_cases h:v<0
 ·simp only[aj h];omega
 ·simp only[ao h];omega
def CO (lo h:bV)(n:Nat):Builtin.Slice.sliceAdjust lo h 1 (n:Int)=(((qB n 0 lo:Nat):Int),((qB n n h:Nat):Int)):=by
 have h1:¬((1:Int)<0):=by omega
 unfold Builtin.Slice.sliceAdjust;simp only[h1,if_false];refine Prod.ext ?_ ?_
 ·cases lo with
  |none=>rfl|some v=>exact La v n 0
 ·cases h with
  |none=>rfl|some v=>exact La v n n
def CM (i j:Nat):Builtin.Slice.slicePlaces (i:Int) (j:Int) 1=j-i:=by
 unfold Builtin.Slice.slicePlaces;have h1:(1:Int) > 0:=by omega
 simp only[h1,if_true,ediv_one]
 split<;>omega
def O1 {v:Value}{o:bV}{Q:Option Int->Shared->Prop}(p:IsPart v o)(h:Q o s):wpAny (model prog w) A (Builtin.Slice.slicePartIndex v) Q E s:=by
 cases p with
 |none=>exact slicePart_none h|int i t=>exact slicePart_int h
def RT {sl:Addr}{l v:Value}{lo i:bV}{Q:Int×Int×Nat->Shared->Prop}(b:s.heap.IsSliceOf sl l v .none)(p:IsPart l lo)(pu:IsPart v i)
  (h:Q (((qB n 0 lo:Nat):Int),1,qB n n i-qB n 0 lo) s):wpAny (model prog w) A (Builtin.Slice.sliceApplied (.ref sl) (pure (n:Int))) Q E s:=by
 obtain⟨os,H,c,a⟩:=id b;unfold Builtin.Slice.sliceApplied Builtin.Slice.sliceFields;refine cf (cf (wpAny_field H a (x:=l) rfl (cf (wpAny_field H a (x:=v) rfl (cf (wpAny_field H a (x:=.none) rfl (cg ?_)))))));refine cf (slicePart_none ?_);show wpAny _ _ (if ((1:Int)==0)=true then _ else _) _ _ s;rw[ao (by decide)]
 refine cf (O1 p (cf (O1 pu (cf (cg ?_)))));show wpAny _ _ (match Builtin.Slice.sliceAdjust lo i 1 (n:Int) with|(lo,i)=>pure (lo,(1:Int),Builtin.Slice.slicePlaces lo i 1)) _ _ s
 rw[CO lo i n];show wpAny _ _ (pure (((qB n 0 lo:Nat):Int),(1:Int),Builtin.Slice.slicePlaces ((qB n 0 lo:Nat):Int) ((qB n n i:Nat):Int) 1)) _ _ s;rw[CM];exact cg h
def ed (xs:Array Value)(i k:Nat):((List.range k).filterMap λ(m:Nat)=>xs[((i:Int)+(m:Int) * 1).toNat]?).toArray=((xs.toList.drop i).take k).toArray:=by
 have e:(λ(m:Nat)=>xs[((i:Int)+(m:Int) * 1).toNat]?)=λm=>xs[i+m]?:=by
  funext m
  have:((i:Int)+(m:Int) * 1).toNat=i+m:=by omega
  rw[this]
 rw[e]
 have:=pick_run xs i k
 rw[List.filterMap_map]at this;have E:((λx=>xs[x]?) ∘ λx=>i+x)=λm=>xs[i+m]?:=rfl;rw[E]at this;rw[this]
def FA {t sl:Addr}{l v:Value}{lo i:bV}(a:IsTup s.heap t items)(e:s.heap.IsSliceOf sl l v .none)(p:IsPart l lo)(pu:IsPart v i)
  (hw:¬(qB items.size 0 lo=0/\qB items.size items.size i=items.size))
  (h:Q (.ref s.heap.objs.size) { s with heap:=s.heap.push { cls:=.type "tuple",data:=.seq ((items.toList.drop (qB items.size 0 lo)).take (qB items.size items.size i-qB items.size 0 lo)).toArray } })
  (z:items.size<=sizeLine):wpAny (model prog w) A (getItem (.ref t) (.ref sl)) Q E s:=by
 have H:sizeOk (.seq ((items.toList.drop (qB items.size 0 lo)).take (qB items.size items.size i-qB items.size 0 lo)).toArray):=by
  show((items.toList.drop (qB items.size 0 lo)).take (qB items.size items.size i-qB items.size 0 lo)).toArray.size<=sizeLine;rw[aw,bC,length_drop,bt];omega
 have n:qB items.size items.size i<=items.size:=d9 _ _ (aq _) i;obtain⟨os,b,c,f⟩:=id e;have d:s.TypeIs (.ref sl) "slice":=⟨os,b,c⟩;unfold getItem
 try with_reducible refine wpAny_holding ?_
 first|refine cf (cg ?_)|skip
 refine cf (wpAny_sequenceKey a.typeIs (by decide) ?_)
 refine cf (wpAny_callSpecial?_slot (name:=Str.ofString "__getitem__") a.typeIs PyProof.Rows.slot_tuple_getitem
  (wpAny_call_entry PyProof.Rows.slot_tuple_getitem a.typeIs entry_tuple_getitem ?_ (args_tuple_getitem _ _)))
 show wpAny _ _ (Builtin.Tuple.tupleItemsOf (.ref t) >>= _) _ _ s;refine cf (tupleItemsOf_ a ?_);refine cf (wpAny_typeOf d ?_);rw[aj (by decide)]
 refine cf (RT e p pu ?_);have o:¬((((qB items.size 0 lo:Nat):Int)==0&&(1:Int)==1&&(qB items.size items.size i-qB items.size 0 lo)==items.size)=true):=by
  intro q;rw[ah,ah]at q;have j:((qB items.size 0 lo:Nat):Int)=0:=eq_of_beq q.1.1;have g:qB items.size items.size i-qB items.size 0 lo=items.size:=eq_of_beq q.2;exact hw ⟨by omega,by omega⟩
 show wpAny _ _ (if (((qB items.size 0 lo:Nat):Int)==0&&(1:Int)==1&&(qB items.size items.size i-qB items.size 0 lo)==items.size)=true then _ else _) _ _ s;rw[ao o,ed]
 first
  |exact cf (m:=Builtin.Tuple.tupleExact _) (wpAny_newObj_type (cg ⟨_,rfl,cg h⟩) H)
  |exact cf (m:=Builtin.Tuple.tupleExact _) (wpAny_newObj_type (cf (cg (cg ⟨_,rfl,cg h⟩))) H)
  |exact cf (cf (m:=Builtin.Tuple.tupleExact _) (wpAny_newObj_type (cg (cg ⟨_,rfl,cg h⟩)) H))
  |exact cf (cf (m:=Builtin.Tuple.tupleExact _) (wpAny_newObj_type (cg ⟨_,rfl,cg h⟩) H))
end
end HT
namespace L2
open PySem PySem.Spec PyProof.Rows
abbrev TO:=St->Hp->(Option Int->Hp->Prop)->Prop
def PO (X:Cx)(e:Option Expr)(t:TO):Prop:=
 ∀(pins:bN)(s:Shared)(σ:St)(H:Hp)(Q:Option Int->Hp->Prop),Inv X pins σ H s->t σ H Q->
  wpAny (model X.prog X.w) X.A (evalPart e X.env) (λu s'=>∃o h,Inv X pins σ h s'/\IsPart u o/\Q o h) X.xe s
noncomputable def eg:TO:=λ_ H Q=>Q none H
noncomputable def eh (t:TE):TO:=λσ H Q=>t σ H λx H1=>∃i,x=.int i/\Q (some i) H1
section
variable {te:TE}{lo hi:Option Expr}{tl th:TO}{p2:Pos}
def ej:PO X none eg:=by
 intro pins s σ H Q I h;rw[evalPart_none];exact cg ⟨none,H,I,.none,h⟩
def el (h:PE X e te):PO X (some e) (eh te):=by
 intro pins s σ H Q I hw;rw[evalPart_some];refine zY (h pins s σ H _ I hw) λu s1 ⟨x,H1,b,r,a⟩=>?_;obtain⟨i,rfl,q⟩:=a;obtain⟨t,rfl⟩:=r;exact⟨some i,H1,b,.int i t,q⟩
def W4 (X:Cx)(r:V->Option Int->Option Int->Hp->VK->Prop):Prop:=
 ∀(pins:bN)(s:Shared)(σ:St)(H:Hp)(x:V)(v l u:Value)(lo hi:bV)(sl:Addr)(Q:VK),Inv X pins σ H s->RelV x v->s.heap.IsSliceOf sl l u .none->IsPart l lo->IsPart u hi->r x lo hi H Q->
  ∃T id,typeLookup (.type T) "__getitem__"=pure (some (.builtin id))/\s.TypeIs v T/\wpAny (model X.prog X.w) X.A (getItem v (.ref sl)) (EP X pins σ Q) X.xe s
noncomputable def eu (r:V->Option Int->Option Int->Hp->VK->Prop)(T:TE)(t th:TO):TE:=λσ H Q=>T σ H λx H1=>t σ H1 λl a=>th σ a λu h=>r x l u h Q
def ew {r:V->Option Int->Option Int->Hp->VK->Prop}(o:W4 X r)(he:PE X e te)(hl:PO X lo tl)(n:PO X hi th):PE X (.Subscript e (.Slice lo hi none p2) pos) (eu r te tl th):=by
 intro pins s σ H Q I h;refine Subscript_ (zY (he pins s σ H _ I h) λv s1 ⟨x,H1,D,f,j⟩=>?_);refine wpAny_Slice (zY (hl pins s1 σ H1 _ D j) λc s2 ⟨l,E,C,p,i⟩=>zY (n pins s2 σ E _ C i) λa s3 ⟨u,d,B,pu,g⟩=>?_);rw[evalPart_none];refine cg ?_;have z:Inv X pins σ d { s3 with heap:=s3.heap.push { cls:=.type "slice",data:=.fields #[c,a,.none] } }:=B.kept (t':=s3.toks) λb ob q=>af _ q
 obtain⟨T,id,hT,t,y⟩:=o pins { s3 with heap:=s3.heap.push { cls:=.type "slice",data:=.fields #[c,a,.none] } } σ d x v c a l u s3.heap.objs.size Q z f (Heap.IsSliceOf.new ..) p pu g
 show wpAny (model X.prog X.w) X.A (subscriptTail e (.Slice lo hi none p2) v (.ref s3.heap.objs.size)) (EP X pins σ Q) X.xe { s3 with heap:=s3.heap.push { cls:=.type "slice",data:=.fields #[c,a,.none] } }
 exact tail_any (ops:=[.ref s3.heap.objs.size,v]) t hT y (by with_unfolding_all rfl)
noncomputable def Zl (xs:List V)(lo h:bV):List V:=(xs.drop (HT.qB xs.length 0 lo)).take (HT.qB xs.length xs.length h-HT.qB xs.length 0 lo)
def OS (xs:List V)(lo h:bV):(Zl xs lo h).length<=xs.length:=by
 unfold Zl;rw[bC,length_drop];omega
def eA (K:Frag):V->Option Int->Option Int->Hp->VK->Prop:=λx lo h H Q=>∃a xs,x=.ref a/\qH K H a xs/\
 ¬(HT.qB xs.length 0 lo=0/\HT.qB xs.length xs.length h=xs.length)/\∀p,H p=none->Q (.ref p) (upd H p (.tup (Zl xs lo h)))
def eB:W4 X (eA X.K):=by
 intro pins s σ H x v l u lo c sl Q I d f p pu h;obtain⟨a,xs,rfl,e,hw,q⟩:=h;cases d;obtain⟨i,r,t,z⟩:=I.tuple e;have hlen:i.toArray.size=xs.length:=by rw[aw];exact r.length.symm
 refine⟨"tuple",_,PyProof.Rows.slot_tuple_getitem.lookup,t.typeIs,?_⟩;refine HT.FA t f p pu (by rw[hlen];exact hw) ?_ (by rw[hlen];exact z)
 rw[hlen];refine⟨.ref s.heap.objs.size,_,I.laid (t':=s.toks) (o:=.tup (Zl xs lo c)) (λb ob q=>af _ q) (aq _) ?_,rfl,q _ (I.hok.fresh (aq _))⟩;exact⟨a4 (OS xs lo c) z,_,(r.drop (HT.qB xs.length 0 lo)).take (HT.qB xs.length xs.length c-HT.qB xs.length 0 lo),ZG.new _ _⟩
def Ic (K:Frag):R2:=λx y H Q=>∃a b xs ys,x=.ref a/\y=.ref b/\qH K H a xs/\qH K H b ys/\xs≠[]/\xs.length+ys.length<=sizeLine/\
 (ys=[]->Q (.ref a) H)/\(ys≠[]->∀p,H p=none->Q (.ref p) (upd H p (.tup (xs++ys))))
def Vals.nil_iff (r:Vals xs us):us=[]↔xs=[]:=by
 cases r with
 |nil=>simp|cons _ _=>simp
def eC:qU X (binaryOp .Add) (Ic X.K):=by
 intro pins s σ H x y v u Q I f e h;obtain⟨a,b,xs,ys,rfl,rfl,A,t,n,d,j,g⟩:=h;cases f;cases e;obtain⟨l,c,P,_⟩:=I.tuple A;obtain⟨i,r,p,_⟩:=I.tuple t;refine HT.zct P p (λz=>n (c.nil_iff.mp z)) (λz=>⟨.ref a,H,I,rfl,j (r.nil_iff.mp z)⟩) (λz=>?_) (by rw[<- c.length,<- r.length];exact d)
 refine⟨.ref s.heap.objs.size,_,I.laid (t':=s.toks) (o:=.tup (xs++ys)) (λb ob q=>af _ q) (aq _) ?_,rfl,g (λw=>z (r.nil_iff.mpr w)) _ (I.hok.fresh (aq _))⟩;exact⟨by rw[av];exact d,_,c.append r,ZG.new _ _⟩
end
noncomputable def gT (n:Nat)(i:Int):Option Nat:=if 0<=i then(if i<n then some i.toNat else none) else if -(n:Int)<=i then some (i+n).toNat else none
def w5 (xs:List α)(i:Int):Option α:=(gT xs.length i).bind λj=>xs[j]?
def MK {i:Int}(h:gT n i=some j):seqIndex? i n=some j/\j<n/\-(n:Int)<=i/\i<n:=by
 unfold gT at h
 by_cases h0:0<=i
 ·rw[aj h0]at h
  by_cases h1:i<n
  ·rw[aj h1]at h
   have e:i.toNat=j:=aF h;exact⟨by rw[seqIndex_of h0 h1,e],by omega,by omega,h1⟩
  ·rw[ao h1]at h;cases h
 ·rw[ao h0]at h
  by_cases h1:-(n:Int)<=i
  ·rw[aj h1]at h
   have e:(i+n).toNat=j:=aF h;exact⟨by rw[seqIndex_neg (by omega) h1,e],by omega,h1,by omega⟩
  ·rw[ao h1]at h;cases h
def Te {xs:List α}{i:Int}{v:α}(h:w5 xs i=some v):∃j,seqIndex? i xs.length=some j/\xs[j]? =some v/\j<xs.length/\-(xs.length:Int)<=i/\i<xs.length:=by
 unfold w5 at h;cases e:gT xs.length i with
 |none=>rw[e]at h;cases h|some j=>
  rw[e]at h;obtain⟨h1,h2,a,H⟩:=MK e;exact⟨j,h1,h,h2,a,H⟩
def Xk {xs:List α}{v:α}(h:xs[j]? =some v):w5 xs (j:Int)=some v:=by
 have H:j<xs.length:=(ck.mp h).1;have e:gT xs.length (j:Int)=some j:=by
  unfold gT;rw[aj (by omega),aj (by omega)];simp
 unfold w5;rw[e];exact h
def Mo (b:Expr):Prop:=∀o i,subscripted b false o i=operate [o,i] (getItem o i)
def QC (X:Cx)(r:R2):Prop:=
 ∀(value slice:Expr)(pins:bN)(s:Shared)(σ:St)(H:Hp)(x y:V)(v u:Value)(Q:VK),Inv X pins σ H s->RelV x v->RelV y u->r x y H Q->
  subscripted slice false v u=operate [v,u] (getItem v u)->wpAny (model X.prog X.w) X.A (subscriptTail value slice v u) (EP X pins σ Q) X.xe s
def Y3 (X:Cx)(id:String)(r:V->List V->Hp->VK->Prop):Prop:=
 ∀(pins:bN)(s:Shared)(σ:St)(H:Hp)(x:V)(xs:List V)(v:Value)(us:bL)(Q:VK),Inv X pins σ H s->RelV x v->Vals xs us->r x xs H Q->
  wpAny (model X.prog X.w) X.A (call (.builtin id) (v::us)) (EP X pins σ Q) X.xe s
section
variable {a b:Expr}{ta tb:TE}
def QC.or {r c:R2}(h:QC X r)(h':QC X c):QC X (λx y H Q=>r x y H Q∨c x y H Q):=by
 intro value slice pins s σ H x y v u Q I b a q d;rcases q with q|q
 ·exact h value slice pins s σ H x y v u Q I b a q d
 ·exact h' value slice pins s σ H x y v u Q I b a q d
def eD {r:R2}(f:QC X r)(i:PE X a ta)(g:PE X b tb)(e:Mo b):PE X (.Subscript a b pos) (WX r ta tb):=by
 intro pins s σ H Q I h;exact Subscript_ (Sx i g I h λv u s2 x y l j d c q=>f a b pins s2 σ l x y v u Q j d c q (e _ _))
def IY (K:Frag):R2:=λx y H Q=>∃p xs i v,x=.ref p/\y=.int i/\je K H p xs/\w5 xs i=some v/\Q v H
def Hj (K:Frag):R2:=λx y H Q=>∃p xs i v,x=.ref p/\y=.int i/\qH K H p xs/\w5 xs i=some v/\Q v H
def IU:R2:=λx y H Q=>∃z i c,x=.str z/\y=.int i/\z.length<=sizeLine/\w5 z.cps.toList i=some c/\Q (.str ⟨#[c]⟩) H
def eE:QC X (IY X.K):=by
 intro value slice pins s σ H x y v u Q I g f h d;obtain⟨p,xs,i,z,rfl,rfl,l,he,q⟩:=h;cases g;obtain⟨t,rfl⟩:=f;obtain⟨b,r,P,A⟩:=I.list l;obtain⟨j,h1,h2,B,o,n⟩:=Te he;obtain⟨w,e,a⟩:=r.get h2;have hl:=r.length;have hn:=Jy;have fin:EP X pins σ Q w s:=⟨z,H,I,a,q⟩
 by_cases h0:0<=i
 ·have c:i.toNat=j:=by
   rw[seqIndex_of h0 n]at h1;exact aF h1
  exact item_listR P.isList h0 (by omega) (by rw[c];simpa using e) fin d
 ·have c:(i+(b.toArray.size:Int)).toNat=j:=by
   rw[seqIndex_neg (by omega) o]at h1
   rw[aw,<- hl];exact aF h1
  exact subscriptTail_builtinR (x:=w) P.isList.typeIs slot_list_getitem.lookup
   (wpAny_getItem_list_neg (Q:=λr s'=>r=w/\EP X pins σ Q r s') P.isList (by omega) (by rw[aw]<;>omega) (by omega) (by rw[c];simpa using e) ⟨rfl,fin⟩) d
def eF:QC X (Hj X.K):=by
 intro value slice pins s σ H x y v u Q I c b h e;obtain⟨p,xs,i,z,rfl,rfl,f,he,q⟩:=h;cases c;obtain⟨t,rfl⟩:=b;obtain⟨d,r,P,g⟩:=I.tuple f;obtain⟨j,h1,h2,o,n,l⟩:=Te he;obtain⟨w,E,a⟩:=r.get h2;have hl:=r.length;have hn:=Jy;have fin:EP X pins σ Q w s:=⟨z,H,I,a,q⟩;exact subscriptTail_builtinR (x:=w) P.typeIs slot_tuple_getitem.lookup
  (getItem_tuple (j:=j) (Q:=λr s'=>r=w/\EP X pins σ Q r s') P (by omega) (by omega) (by rw[aw,<- hl];exact h1) (by simpa using E) ⟨rfl,fin⟩) e
def eG:QC X IU:=by
 intro value slice pins s σ H x y v u Q I a r h b;obtain⟨z,i,c,rfl,rfl,g,he,q⟩:=h;obtain⟨t,rfl⟩:=a;obtain⟨t',rfl⟩:=r;obtain⟨j,h1,h2,l,e,d⟩:=Te he;have hl:z.cps.toList.length=z.length:=by simp[Str.length]
 rw[hl]at h1 e d;have hn:=Jy;exact tail_any (typeIs_str s z t) slot_str_getitem.lookup (getItem_str (c:=c) (by
  have f:decide (i < -(2 ^ 63:Int))=false:=aK (by omega)
  have E:decide (i ≥ 2 ^ 63)=false:=aK (by omega)
  rw[f,E,Bool.or_false]) (by rw[h1];simpa using h2) ⟨.str ⟨#[c]⟩,H,I.tok _,⟨_,rfl⟩,q⟩) b
def HC (K:Frag):R2:=λx y H Q=>IY K x y H Q∨Hj K x y H Q∨IU x y H Q
def eH:QC X (HC X.K):=eE.or (eF.or eG)
def CP (i:bL)(n j:Nat)(u:Value):Obj.mapSeq (·.setIfInBounds j u) { cls:=.type "list",data:=.seq i.toArray n }={ cls:=.type "list",data:=.seq (i.set j u).toArray n }:=by
 simp[Obj.mapSeq]
theorem Inv.lst {pins:bN}{σ:St}{H:Hp}{s:Shared}{p:Addr}{xs:List V}(I:Inv X pins σ H s)(h:H p=some (.lst xs)):
  ∃(i:bL) (n:Nat),Vals xs i/\s.heap.get? p=some { cls:=.type "list",data:=.seq i.toArray n }/\xs.length<=sizeLine:=by
 obtain⟨z,i,n,r,e⟩:=I.hok p _ h;exact⟨i,n,r,e,z⟩
def Inv.lstUpd {p:Addr}{its':bL}{N:Nat}{f:Obj->Obj}(I:Inv X pins σ H s)(h:H p=some (.lst xs))
  (ho:s.heap.get? p=some { cls:=.type "list",data:=.seq its.toArray n })(hf:f { cls:=.type "list",data:=.seq its.toArray n }={ cls:=.type "list",data:=.seq its'.toArray N })(r:Vals ys its')(z:ys.length<=sizeLine)(t:Nat):
  Inv X pins σ (upd H p (.lst ys)) { s with heap:=s.heap.update p f,toks:=t }:=by
 have e:(s.heap.update p f).get? p=some { cls:=.type "list",data:=.seq its'.toArray N }:=by
  rw[Heap.get?_update_self f ho (by rw[hf]<;>rfl),hf]
 refine I.write (x:=p) (e:=p) (by rw[h];trivial) (.inl rfl) (λb u a q=>(br _ _ (Ne.symm a)).trans q) ⟨_,e⟩ ?_
 exact⟨z,its',N,r,e⟩
def Iu:V->V->V->Hp->(Hp->Prop)->Prop:=λo i v H Q=>∃p xs k j,o=.ref p/\i=.int k/\H p=some (.lst xs)/\gT xs.length k=some j/\Q (upd H p (.lst (xs.set j v)))
def set_list:X5 X Iu:=by
 intro pins s σ H o i v ov x u Q I ro l g h;obtain⟨p,xs,k,j,rfl,rfl,c,w,q⟩:=h;cases ro;obtain⟨t,rfl⟩:=l;obtain⟨a,n,r,ho,z⟩:=I.lst c;obtain⟨h1,h2,e,d⟩:=MK w;have hl:=r.length;have hn:=Jy;have f:Inv X pins σ (upd H p (.lst (xs.set j v))) { s with heap:=s.heap.update p (Obj.mapSeq (·.setIfInBounds j u)) }:=
  I.lstUpd c ho (CP a n j u) (r.set g j) (by rw[length_set];exact z) s.toks
 by_cases h0:0<=k
 ·have b:k.toNat=j:=by
   rw[seqIndex_of h0 d]at h1;exact aF h1
  exact PySem.W.ki_setAt ho h0 (by omega) (by rw[aw,<- hl];exact d) (by rw[b];exact⟨_,f,q⟩)
 ·have b:(k+(a.toArray.size:Int)).toNat=j:=by
   rw[seqIndex_neg (by omega) e]at h1
   rw[aw,<- hl];exact aF h1
  exact PySem.W.ki_setBack ho (by omega) (by rw[aw,<- hl];exact e) (by omega) (by rw[b];exact⟨_,f,q⟩)
def DT (lo H:bV)(n:Nat):(sliceBounds lo H none n).1=((HT.qB n 0 lo:Nat):Int)/\(sliceBounds lo H none n).2.1=((HT.qB n n H:Nat):Int)/\(sliceBounds lo H none n).2.2=1:=by
 refine⟨?_,?_,rfl⟩
 ·cases lo with
  |none=>simp[sliceBounds,HT.qB]|some i=>
   simp only[sliceBounds,HT.qB,getD_none,show(1:Int) > 0 by decide,if_true]
   by_cases h:i<0
   ·simp only[h,if_true]<;>omega
   ·simp only[h,if_false]<;>omega
 ·cases H with
  |none=>simp[sliceBounds,HT.qB]|some i=>
   simp only[sliceBounds,HT.qB,getD_none,show(1:Int) > 0 by decide,if_true]
   by_cases h:i<0
   ·simp only[h,if_true]<;>omega
   ·simp only[h,if_false]<;>omega
def Ep (i:bL)(lo h:bV):slicePick i.toArray lo h none=((i.drop (HT.qB i.length 0 lo)).take (HT.qB i.length i.length h-HT.qB i.length 0 lo)).toArray:=by
 obtain⟨h1,h2,H⟩:=DT lo h i.toArray.size;unfold slicePick;rw[h1,h2,H];simp only[sliceRange_one,pick_run,aw]<;>rfl
def Ha (K:Frag):V->Option Int->Option Int->Hp->VK->Prop:=λx lo h H Q=>∃a xs,x=.ref a/\je K H a xs/\∀p,H p=none->Q (.ref p) (upd H p (.lst (Zl xs lo h)))
def eI:W4 X (Ha X.K):=by
 intro pins s σ H x v l u lo i sl Q I c f p pu h;obtain⟨a,xs,rfl,e,q⟩:=h;cases c;obtain⟨d,r,t,z⟩:=I.list e;have hlen:=r.length;refine⟨"list",_,slot_list_getitem.lookup,t.isList.typeIs,?_⟩;refine wpAny_getItem_list_slice t.isList f p pu .none (by simp) ?_ (by rw[aw]<;>omega)
 rw[Ep,<- hlen];refine⟨.ref s.heap.objs.size,_,I.laid (t':=s.toks) (o:=.lst (Zl xs lo i)) (λb ob q=>af _ q) (aq _) ?_,rfl,q _ (I.hok.fresh (aq _))⟩;exact⟨a4 (OS xs lo i) z,_,0,(r.drop (HT.qB xs.length 0 lo)).take (HT.qB xs.length xs.length i-HT.qB xs.length 0 lo),ay _ rfl⟩
noncomputable def wg:V->Bool
 |.non=>true|.bl _=>true|.int _=>true|.str _=>true|_=>false
noncomputable def gu:V->V->Bool
 |.non,.non=>true|.bl a,.bl b=>a==b|.bl a,.int b=>(if a then 1 else 0)==b|.int a,.bl b=>a==(if b then 1 else 0)|.int a,.int b=>a==b|.str a,.str b=>a==b|_,_=>false
def eJ {A:Around}{y x:V}{v:Value}(c:RelV y u)(r:RelV x v)(f:wg y=true)(fx:wg x=true):SeqAt.EqAt A s u v (gu y x):=by
 cases y with
 |non=>
  cases c;cases x with
  |non=>cases r;exact SeqAt.EqAt.same _|bl b=>cases r;exact SeqAt.EqAt.none_bool b|int b=>obtain⟨t,rfl⟩:=r;exact SeqAt.EqAt.none_int b t|str b=>obtain⟨t,rfl⟩:=r;exact SeqAt.EqAt.none_str b t|_=>exact absurd (show false=true from fx) aD
 |bl a=>
  cases c;cases x with
  |non=>cases r;exact SeqAt.EqAt.bool_none a|bl b=>cases r;exact SeqAt.EqAt.bool_bool a b|int b=>obtain⟨t,rfl⟩:=r;exact SeqAt.EqAt.bool_int a b t|str b=>obtain⟨t,rfl⟩:=r;exact SeqAt.EqAt.bool_str a b t|_=>exact absurd (show false=true from fx) aD
 |int a=>
  obtain⟨t',rfl⟩:=c;cases x with
  |non=>cases r;exact SeqAt.EqAt.int_none a t'|bl b=>cases r;exact SeqAt.EqAt.int_bool a t' b|int b=>obtain⟨t,rfl⟩:=r;exact SeqAt.EqAt.int_int a t' b t|str b=>obtain⟨t,rfl⟩:=r;exact SeqAt.EqAt.int_str a t' b t|_=>exact absurd (show false=true from fx) aD
 |str a=>
  obtain⟨t',rfl⟩:=c;cases x with
  |non=>cases r;exact SeqAt.EqAt.str_none a t'|bl b=>cases r;exact SeqAt.EqAt.str_bool a t' b|int b=>obtain⟨t,rfl⟩:=r;exact SeqAt.EqAt.str_int a t' b t|str b=>obtain⟨t,rfl⟩:=r;exact SeqAt.EqAt.str_str a t' b t|_=>exact absurd (show false=true from fx) aD
 |_=>exact absurd (show false=true from f) aD
def kN (x:V)(u:Value):Bool:=match u with
 |.none=>gu .non x|.bool b=>gu (.bl b) x|.int i _=>gu (.int i) x|.str z _=>gu (.str z) x|_=>false
def Tz {x y:V}(r:RelV y u)(f:wg y=true):kN x u=gu y x:=by
 cases y with
 |non=>cases r;rfl|bl b=>cases r;rfl|int i=>obtain⟨t,rfl⟩:=r;rfl|str z=>obtain⟨t,rfl⟩:=r;rfl|_=>exact absurd (show false=true from f) aD
theorem KO {x:V}:∀{xs:List V}{us:bL},Vals xs us->xs.all wg=true->us.any (kN x)=xs.any λy=>gu y x
 |_,_,.nil,_=>rfl|y::xs,u::us,.cons r t,f=>by
  rw[List.all_cons,ah]at f;rw[any_cons,any_cons,Tz r f.1,KO t f.2]
theorem Js {A:Around}{x:V}{v:Value}(a:RelV x v)(fx:wg x=true):∀{xs:List V}{us:bL},Vals xs us->xs.all wg=true->∀u∈us,SeqAt.EqAt A s u v (kN x u)
 |_,_,.nil,_=>λu h=>by cases h|y::xs,u::us,.cons r t,f=>λU h=>by
  rw[List.all_cons,ah]at f;rcases cm.mp h with rfl|h
  ·rw[Tz r f.1];exact eJ r a f.1 fx
  ·exact Js a fx t f.2 U h
def Vh (x:V)(xs:List V):Bool:=xs.any λy=>gu y x
def Rv (K:Frag)(neg:Bool):R2:=λx y H Q=>∃p xs,y=.ref p/\(je K H p xs∨qH K H p xs)/\wg x=true/\xs.all wg=true/\Q (.bl (if neg then !Vh x xs else Vh x xs)) H
def Bo:qU X (compareOp .In) (Rv X.K false):=by
 intro pins s σ H x y v u Q I b c h;obtain⟨p,xs,rfl,a,fx,fs,q⟩:=h;cases c;rcases a with a|a
 ·obtain⟨i,r,P,z⟩:=I.list a
  refine SeqAt.in_listAt (kN x) P.isList (λw hw=>Js b fx r fs w (by simpa using hw)) ⟨.bl _,H,I,rfl,?_⟩
  rw[show i.toArray.any (kN x)=i.any (kN x) by simp,KO r fs]
  exact q
 ·obtain⟨i,r,P,z⟩:=I.tuple a
  refine SeqAt.in_tupleAt (kN x) P (λw hw=>Js b fx r fs w (by simpa using hw)) ⟨.bl _,H,I,rfl,?_⟩
  rw[show i.toArray.any (kN x)=i.any (kN x) by simp,KO r fs]
  exact q
def DX:qU X (compareOp .NotIn) (Rv X.K true):=by
 intro pins s σ H x y v u Q I b c h;obtain⟨p,xs,rfl,a,fx,fs,q⟩:=h;cases c;rcases a with a|a
 ·obtain⟨i,r,P,z⟩:=I.list a
  refine SeqAt.notIn_listAt (kN x) P.isList (λw hw=>Js b fx r fs w (by simpa using hw)) ⟨.bl _,H,I,rfl,?_⟩
  rw[show i.toArray.any (kN x)=i.any (kN x) by simp,KO r fs]
  exact q
 ·obtain⟨i,r,P,z⟩:=I.tuple a
  refine SeqAt.notIn_tupleAt (kN x) P (λw hw=>Js b fx r fs w (by simpa using hw)) ⟨.bl _,H,I,rfl,?_⟩
  rw[show i.toArray.any (kN x)=i.any (kN x) by simp,KO r fs]
  exact q
def Dw:yn X (.builtin "len") (λxs H Q=>∃p ys,xs=[.ref p]/\(je X.K H p ys∨qH X.K H p ys)/\Q (.int ys.length) H):=by
 intro pins s σ H xs us Q I r h;obtain⟨p,ys,rfl,a,q⟩:=h;obtain⟨u,rfl,x⟩:=vals1 r;cases x;have hn:=Jy;rcases a with a|a
 ·obtain⟨i,b,P,z⟩:=I.list a
  have hlen:=b.length;exact Calls.call_len_list P.isList (by simp only[aw]<;>omega) ⟨.int ys.length,H,I.tok _,⟨s.toks+1,by rw[aw,hlen]⟩,q⟩
 ·obtain⟨i,b,P,z⟩:=I.tuple a
  have hlen:=b.length;exact len_tuple P (by simp only[aw]<;>omega) ⟨.int ys.length,H,I.tok _,⟨s.toks+1,by rw[aw,hlen]⟩,q⟩
def DQ:yn X (.type "list") (λxs H Q=>∃p ys,xs=[.ref p]/\(je X.K H p ys∨qH X.K H p ys)/\∀l,H l=none->Q (.ref l) (upd H l (.lst ys))):=by
 intro pins s σ H xs us Q I r h;obtain⟨p,ys,rfl,d,q⟩:=h;obtain⟨u,rfl,x⟩:=vals1 r;cases x;have fin:∀(its:bL),Vals ys its->ys.length<=sizeLine->∀(h':Heap)(c:Nat),(∀b o',s.heap.get? b=some o'->h'.get? b=some o')->
   h'.get? s.heap.objs.size=some { cls:=.type "list",dict:=none,data:=.seq its.toArray c,slots:=#[] }->EP X pins σ Q (.ref s.heap.objs.size) { s with heap:=h' }:=λits a z h' c kp e=>
  ⟨.ref s.heap.objs.size,_,I.laid (t':=s.toks) kp (aq _) (show jv X.prog X.w _ h' _ (.lst ys) from ⟨z,its,c,a,e⟩),rfl,q _ (I.hok.fresh (aq _))⟩
 rcases d with d|d
 ·obtain⟨its,a,P,z⟩:=I.list d
  have hlen:=a.length;obtain⟨o,ho,f,n,hd⟩:=P.isList;exact call_list_seq p (.inl rfl) ho f hd (λh' c kp e=>fin its a z h' c kp e) (by simp only[aw]<;>omega)
 ·obtain⟨its,a,P,z⟩:=I.tuple d
  have hlen:=a.length;obtain⟨o,ho,f,n,hd⟩:=P;exact call_list_seq p (.inr rfl) ho f hd (λh' c kp e=>fin its a z h' c kp e) (by simp only[aw]<;>omega)
def Ew:yn X (.type "tuple") (λxs H Q=>∃p ys,xs=[.ref p]/\((je X.K H p ys/\∀l,H l=none->Q (.ref l) (upd H l (.tup ys)))∨(qH X.K H p ys/\Q (.ref p) H))):=by
 intro pins s σ H xs us Q I r h;obtain⟨p,ys,rfl,h⟩:=h;obtain⟨u,rfl,x⟩:=vals1 r;cases x;rcases h with ⟨c,q⟩|⟨c,q⟩
 ·obtain⟨i,a,P,z⟩:=I.list c
  have hlen:=a.length;refine call_tuple_list P.isList (λh' kp=>?_) (by simp only[aw]<;>omega)
  have d:Inv X pins σ H { s with heap:=h' }:=I.kept (t':=s.toks) kp
  have f:Inv X pins σ (upd H h'.objs.size (.tup ys)) { s with heap:=h'.push { cls:=.type "tuple",data:=.seq i.toArray } }:=
   d.laid (t':=s.toks) (λb o e=>af _ e) (aq _) (show jv X.prog X.w _ _ _ (.tup ys) from ⟨z,i,a,ZG.new _ _⟩)
  exact⟨.ref h'.objs.size,_,f,rfl,q _ (d.hok.fresh (aq _))⟩
 ·obtain⟨i,a,P,z⟩:=I.tuple c
  exact call_tuple_same P ⟨.ref p,H,I,rfl,q⟩
def Vl (K:Frag)(T:String)(x:V)(H:Hp):Prop:=match x with
 |.str _=>T = "str"
 |.int _=>T = "int"
 |.ref p=>(T = "list" /\ ∃xs,je K H p xs)∨(T = "tuple" /\ ∃o,K.lookup p=some o/\o.cls=.type "tuple" /\ o.dict=none)∨
   (T = "dict" /\ ((∃kvs,H p=some (.dK kvs))∨∃kvs,H p=some (.dT kvs)))∨(T = "set" /\ ∃S n,H p=some (.set S n))
 |_=>False
def eK {T:String}{x:V}{v:Value}(I:Inv X pins σ H s)(r:RelV x v)(ty:Vl X.K T x H):
  s.TypeIs v T/\∀a,v=.ref a->∃ob,s.heap.get? a=some ob/\ob.dict=none:=by
 cases x with
 |str z=>
  obtain⟨t,rfl⟩:=r;cases (show T = "str" from ty)
  exact⟨typeIs_str s z t,λ_ e=>nomatch e⟩
 |int i=>
  obtain⟨t,rfl⟩:=r;cases (show T = "int" from ty)
  exact⟨typeIs_int s i t,λ_ e=>nomatch e⟩
 |ref p=>
  cases r;rcases ty with ⟨rfl,xs,q⟩|⟨rfl,o,h,d,hd⟩|⟨rfl,h⟩|⟨rfl,S,n,h⟩
  ·obtain⟨b,_,P,_⟩:=I.list q
   refine⟨P.isList.typeIs,λa e=>?_⟩;cases e;obtain⟨o,n,e,c,hd,_⟩:=P;exact⟨o,e,hd⟩
  ·refine⟨⟨o,I.kIn p o h,d⟩,λa e=>?_⟩
   cases e;exact⟨o,I.kIn _ o h,hd⟩
  ·have z:∃o,s.heap.get? p=some o/\o.ExactDict:=by
    rcases h with ⟨kvs,h⟩|⟨kvs,h⟩
    ·obtain⟨_,_,_,_,o,_,_,e,ex,_⟩:=I.hok p _ h
     exact⟨o,e,ex⟩
    ·obtain⟨_,_,_,_,o,_,_,e,ex,_⟩:=I.hok p _ h
     exact⟨o,e,ex⟩
   obtain⟨o,e,ex⟩:=z;refine⟨⟨o,e,ex.1⟩,λa E=>?_⟩;cases E;exact⟨o,e,ex.2.1⟩
  ·obtain⟨o,_,_,_,e,ex,_⟩:=I.hok p _ h
   refine⟨⟨o,e,ex.1⟩,λa E=>?_⟩;cases E;exact⟨o,e,ex.2.1⟩
 |_=>exact False.elim ty
noncomputable def eL (K:Frag)(T:String)(r:V->List V->Hp->VK->Prop)(to:TE)(t:TA):TE:=λσ H Q=>to σ H λx H1=>Vl K T x H1/\t σ H1 λxs h=>r x xs h Q
variable {o:Expr}{to:TE}{t:TA}{name:Str}{T id:String}{r:V->List V->Hp->VK->Prop}
def Iq (p:PlainAttrs T)(slot:Slot T name id)(y:typeOf (.builtin id)=pure (.type "method_descriptor"))(hm:Y3 X id r)(ho:PE X o to)(j:PA X (e::es) t)
  (b:attributeBase o name X.env (eval o X.env)=eval o X.env:=by rfl)
  (w:((backTo cpos (starEach (e::es) X.env)).all (λx=>!x.1)&&(backToKw cpos (keywordEach [] X.env)).all (λx=>x.1.isSome)
   && decide ((e::es).length+([]:b9).length+(if ([]:b9).isEmpty then 0 else 1)<30))=true:=by rfl)
  (a:(apos.endLine==cpos.line)=true:=by rfl)(g:starEach (e::es) X.env=(false,eval e X.env)::starEach es X.env:=by rfl)(n:(backTo cpos (starEach es X.env)).any (·.1)=false:=by rfl):
  PE X (.Call (.Attribute o name apos) (e::es) [] cpos) (eL X.K T r to t):=by
 intro pins s σ H Q I h;refine wpAny_Call_method_late b w a rfl (zY (ho pins s σ H _ I h) λv s1 ⟨x,H1,i,c,ty,f⟩=>?_);obtain⟨h1,h2⟩:=eK i c ty;refine⟨T,id,p,slot,y,h1,h2,?_⟩;have A:=j cpos pins s1 σ H1 _ i f;rw[g]at A ⊢;refine Calls.callWith_builtin (by show(false || (backTo cpos (starEach es X.env)).any (·.1))=false;rw[n]<;>rfl) (Calls.evalArgs_plain ?_)
 exact zY A λus s2 ⟨vs,u,l,d,q⟩=>hm pins s2 σ u x vs v us Q l c d q
end
def Rp (X:Cx)(id:String)(r:V->List V->Hp->VK->Prop):Prop:=
 ∀(pins:bN)(s:Shared)(σ:St)(H:Hp)(x:V)(xs:List V)(v:Value)(us:bL)(Q:VK),Inv X pins σ H s->RelV x v->Vals xs us->r x xs H Q->
  wpAny (model X.prog X.w) X.A (call (.builtin id) (v::us)) (EP X pins σ Q) X.xe s
def Vals.one {x:V}(h:Vals [x] us):∃u,us=[u]/\RelV x u:=by
 cases h with
 |cons r t=>cases t;exact⟨_,rfl,r⟩
def Vals.two {x y:V}(h:Vals [x,y] us):∃u v,us=[u,v]/\RelV x u/\RelV y v:=by
 cases h with
 |cons r t=>exact(Vals.one t).elim λv e=>⟨_,v,by rw[e.1],r,e.2⟩
theorem Vals.zero:∀{us:bL},Vals [] us->us=[]
 |_,.nil=>rfl
theorem Vals.eraseIdx:∀{xs:List V}{us:bL}(i:Nat),Vals xs us->Vals (xs.eraseIdx i) (us.eraseIdx i)
 |_,_,_,.nil=>.nil|_,_,0,.cons _ t=>t|_,_,i+1,.cons r t=>.cons r (Vals.eraseIdx i t)
theorem Vals.rep (h:Vals xs us):∀k:Nat,Vals (List.replicate k xs).flatten (List.replicate k us).flatten
 |0=>.nil|k+1=>by
  rw[ba,ba,a9,a9];exact Vals.append h (Vals.rep h k)
theorem O9:∀(l:List α)(i:Nat),(l.eraseIdx i).length<=l.length
 |[],_=>aq _|_::_,0=>Nat.le_succ _|_::r,i+1=>Nat.succ_le_succ (O9 r i)
theorem foldl_rep (i:bL):∀(k:Nat)(acc:bL),
  List.foldl (λx1 x2=>x1++x2) acc.toArray (List.replicate k i.toArray)=(acc++(List.replicate k i).flatten).toArray
 |0,acc=>by simp|k+1,acc=>by
  have e:acc.toArray++i.toArray=(acc++i).toArray:=by simp
  have E:(acc++i)++(List.replicate k i).flatten=acc++(List.replicate (k+1) i).flatten:=by
   rw[ba,a9,aN]
  rw[<- E,<- foldl_rep i k (acc++i),<- e,ba,List.foldl_cons]
section
variable {l:Addr}
def Inv.lset {its':bL}{f:Array Value->Array Value}(I:Inv X pins σ H s)(c:H l=some (.lst xs))
  (e:s.heap.get? l=some { cls:=.type "list",data:=.seq its.toArray n })(hf:f its.toArray=its'.toArray)(v:Vals ys its')(h:ys.length<=sizeLine):
  Inv X pins σ (upd H l (.lst ys)) { s with heap:=s.heap.update l (Obj.mapSeq f),toks:=t' }:=by
 have q:=PySem.IsL.update e f;rw[hf]at q;refine I.write (x:=l) (e:=l) (by rw[c];exact trivial) (.inl rfl) (λB u b a=>(br s.heap (Obj.mapSeq f) (Ne.symm b)).trans a) ⟨_,q⟩ ?_
 exact⟨h,its',_,v,q⟩
def Inv.lnew (I:Inv X pins σ H s)(v:Vals ys its)(h:ys.length<=sizeLine):
  Inv X pins σ (upd H s.heap.objs.size (.lst ys)) { s with heap:=s.heap.push { cls:=.type "list",data:=.seq its.toArray },toks:=t' }:=
 I.laid (λ_ _ q=>af _ q) (aq _) ⟨h,its,0,v,ay _ rfl⟩
theorem Inv.fresh (I:Inv X pins σ H s):H s.heap.objs.size=none:=I.hok.fresh (aq _)
def Inv.lstM (I:Inv X pins σ H s)(h:H l=some (.lst xs)):xs.length<=sizeLine/\∃(i:bL) (n:Nat),Vals xs i/\xs.length=i.length/\s.heap.get? l=some { cls:=.type "list",data:=.seq i.toArray n }:=by
 obtain⟨z,i,n,r,e⟩:=I.hok l _ h;exact⟨z,i,n,r,r.length,e⟩
def NZ (h:n<=sizeLine):Builtin.List.listTooLong n=false:=by
 unfold Builtin.List.listTooLong;exact aK (by omega)
end
section
def eM:V->List V->Hp->VK->Prop:=λx vs H Q=>∃l xs y,x=.ref l/\vs=[y]/\H l=some (.lst xs)/\xs.length<sizeLine/\Q .non (upd H l (.lst (xs++[y])))
def Nu:Rp X "list.append" eM:=by
 intro pins s σ H x vs v us Q I b c h;obtain⟨l,xs,y,rfl,rfl,a,f,q⟩:=h;cases b;obtain⟨u,rfl,d⟩:=c.one;obtain⟨z,i,n,r,hl,e⟩:=I.lstM a;refine call_meets F.slot_list_append ⟨_,e,rfl⟩ F.entry_list_append (F.args_list_append_2 _ _) (PySem.list_append l i.toArray n u (by rw[aw];omega)) ⟨e,?_⟩
 refine⟨.non,_,I.lset (its':=i++[u]) a e (by simp) (r.append (.cons d .nil)) ?_,rfl,q⟩
 rw[av,aW];omega
def eN:V->List V->Hp->VK->Prop:=λx vs H Q=>∃l b xs zs,x=.ref l/\vs=[.ref b]/\H l=some (.lst xs)/\H b=some (.lst zs)/\xs.length+zs.length<=sizeLine/\Q .non (upd H l (.lst (xs++zs)))
def BN:Rp X "list.extend" eN:=by
 intro pins s σ H x vs v us Q I f j h;obtain⟨l,b,xs,zs,rfl,rfl,d,hB,w,q⟩:=h;cases f;obtain⟨u,rfl,o⟩:=j.one;cases o;obtain⟨z,a,n,r,hl,e⟩:=I.lstM d;obtain⟨Z,i,N,p,t,E⟩:=I.lstM hB;have c:a.toArray.size+i.toArray.size<=sizeLine:=by rw[aw,aw];omega
 have g:¬(!a.toArray.isEmpty&&Builtin.List.listTooLong (a.toArray.size+i.toArray.size))=true:=by
  rw[NZ c,Bool.and_false];exact aD
 refine call_meets F.slot_list_extend ⟨_,e,rfl⟩ F.entry_list_extend (F.args_list_extend_2 _ _)
  (AutoSeq1.list_extend_list_list_0 l a.toArray n b i.toArray N g (by rw[aw];omega) (by omega)) ⟨e,E,?_⟩
 refine⟨.non,_,I.lset (its':=a++i) d e (by simp) (r.append p) ?_,rfl,q⟩
 rw[av];omega
def eO:V->List V->Hp->VK->Prop:=λx vs H Q=>∃l xs i k y,x=.ref l/\vs=[.int i]/\H l=some (.lst xs)/\-(2 ^ 63)<=i/\i<2 ^ 63/\seqIndex? i xs.length=some k/\xs[k]? =some y/\Q y (upd H l (.lst (xs.eraseIdx k)))
def eQ:Rp X "list.pop" eO:=by
 intro pins s σ H x vs v us Q I d f h;obtain⟨l,xs,i,k,y,rfl,rfl,c,h1,h2,o,j,q⟩:=h;cases d;obtain⟨u,rfl,g⟩:=f.one;obtain⟨t,rfl⟩:=g;obtain⟨z,a,n,r,hl,e⟩:=I.lstM c;obtain⟨w,hw,b⟩:=r.get j;refine call_meets F.slot_list_pop ⟨_,e,rfl⟩ F.entry_list_pop (F.args_list_pop_2 _ _)
  (MeetsSeq.list_pop_at l a.toArray n i t k w (fitsIndex_both h1 h2) (by rw[aw,<- hl];exact o) (by rw[<- Array.getElem?_toList];exact hw) (by rw[aw];omega)) ⟨e,?_⟩
 refine⟨y,_,I.lset (its':=a.eraseIdx k) c e ?_ (r.eraseIdx k) ?_,b,q⟩
 ·show a.toArray.eraseIdxIfInBounds k=(a.eraseIdx k).toArray
  rw[List.eraseIdxIfInBounds_toArray]
 ·have:=O9 xs k
  omega
def IS:R2:=λx y H Q=>∃l b xs zs,x=.ref l/\y=.ref b/\H l=some (.lst xs)/\H b=some (.lst zs)/\xs.length+zs.length<=sizeLine/\∀p,H p=none->Q (.ref p) (upd H p (.lst (xs++zs)))
def eR:qU X (binaryOp .Add) IS:=by
 intro pins s σ H x y v u Q I d c h;obtain⟨l,b,xs,zs,rfl,rfl,j,hB,p,q⟩:=h;cases d;cases c;obtain⟨z,a,n,r,hl,e⟩:=I.lstM j;obtain⟨Z,i,N,f,g,o⟩:=I.lstM hB;refine PySem.P.add_list e o ?_ (by rw[aw,aw];omega)
 have E:a.toArray++i.toArray=(a++i).toArray:=by simp
 rw[E];exact⟨.ref _,_,I.lnew (t':=s.toks) (r.append f) (by rw[av];omega),rfl,q _ I.fresh⟩
def He:R2:=λx y H Q=>∃l k xs,x=.ref l/\y=.int k/\H l=some (.lst xs)/\-(2 ^ 63)<=k/\k<2 ^ 63/\xs.length * k.toNat<=sizeLine/\
 ∀p,H p=none->Q (.ref p) (upd H p (.lst (List.replicate k.toNat xs).flatten))
def len_rep (xs:List α)(k:Nat):(List.replicate k xs).flatten.length=k * xs.length:=by
 induction k with
 |zero=>simp|succ k i=>rw[ba,a9,av,i,succ_mul,add_comm]
def eS:qU X (binaryOp .Mult) He:=by
 intro pins s σ H x y v u Q I f d h;obtain⟨l,k,xs,rfl,rfl,j,h1,h2,c,q⟩:=h;cases f;obtain⟨t,rfl⟩:=d;obtain⟨z,i,n,r,hl,e⟩:=I.lstM j;have hlen:i.toArray.size * k.toNat<=sizeLine:=by rw[aw,<- hl];exact c
 have p:¬i.toArray.size * k.toNat > (2 ^ 63-1)/8:=by
  have:(sizeLine:Nat)<=(2 ^ 63-1)/8:=by decide
  omega
 have b:¬(!Builtin.List.listFitsIndex k)=true:=by
  rw[fitsIndex_both h1 h2];exact aD
 have g:¬Builtin.List.listTooLong (i.toArray.size * k.toNat)=true:=by
  rw[NZ hlen];exact aD
 have w:List.foldl (λx1 x2=>x1++x2) #[] (List.replicate (if i.toArray.isEmpty=true then 0 else k.toNat) i.toArray)=(List.replicate k.toNat i).flatten.toArray:=by
  have f0:∀m:Nat,List.foldl (λx1 x2=>x1++x2) #[] (List.replicate m i.toArray)=(List.replicate m i).flatten.toArray:=λm=>by
   have:=foldl_rep i m []
   rw[bf]at this;exact this
  rw[f0];cases i with
  |nil=>simp|cons a o=>rw[ao (by simp)]
 refine wpAny_binaryOp_repeat_ref (T := "list") (U := "int") (by decide) ⟨_,e,rfl⟩ (λs'=>typeIs_int s' k t) noFill_list_mul F.fills_int_mul F.slot_int_rmul repeat_list F.slot_int_index.lookup
  (call_meets F.slot_int_rmul (typeIs_int s k t) F.entry_int_rmul (F.args_int_rmul_2 _ _) (int___rmul___int_list k t l i.toArray n)
   ⟨e,rfl,⟨_,e,rfl⟩,call_meets F.slot_list_mul ⟨_,e,rfl⟩ F.entry_list_mul (F.args_list_mul_2 _ _) (AutoListH.list___mul___list_int_3 l i.toArray n k t b p g) ⟨e,?_⟩⟩)
 rw[w];exact⟨.ref _,_,I.lnew (t':=s.toks) (r.rep k.toNat) (by rw[len_rep,mul_comm];exact c),rfl,q _ I.fresh⟩
end
section
set_option maxRecDepth 100000 in
end
end L2
namespace Att
open PySem PySem.W PySem.Calls PyProof.Rows
def FW {P:Params}:∀(ns:bK)(vs:bL),WellAll P h vs (ns.map WData.int)->IntsAre vs ns:=by
 intro ns
 induction ns with
 |nil=>
  intro vs w;rw[map_nil]at w;cases w;exact .nil
 |cons n ns i=>
  intro vs w;rw[aS]at w;cases w with
  |cons a b=>
   cases a;exact .cons _ _ (i _ b)
def BQ {l:OpenLaw}(hn:l.most=some n){P:Params}{args:List WData}{vals:bL}
  (H:l.row.toRowW.claim.pre args=true)(f:WellAll P h vals args):
  ∃a vs ns,vals=[Value.ref a]/\args=[WData.list (ns.map WData.int)]/\h.get? a=some { cls:=.type "list",data:=.seq vs.toArray }/\IntsAre vs ns/\ns.length<=n:=by
 have g:WShape.hasAll [] args [.list .int]=true:=(pre_splitW H).1;have i:l.pre.holds [] { args:=args }=true:=(pre_splitW H).2;obtain⟨d,r,rfl,h1,h2⟩:=hasAllW_cons g;obtain rfl:=hasAllW_nil h2;obtain⟨xs,rfl,o⟩:=hasW_list h1;obtain⟨ns,rfl⟩:=items_int o;have hlen:ns.length<=n:=by
  unfold OpenLaw.pre at i;have e:(WTm.not (.lt (.lit (.int (n:Int))) (.len (.arg 0)))).holds [] { args:=[.list (ns.map .int)] }=true:=by
   have e:=(holds_andW i).1;rw[hn]at e;exact e
  have c:=condW_of e (w_not (w_lt w_lit (w_len_list (w_arg rfl))));rw[ak]at c;refine Nat.le_of_not_lt λq=>?_;have Q:(n:Int)<((ns.length:Nat):Int):=by omega
  first
   |(rw[aI Q]at c;exact absurd c (by decide))
   |(simp at c;omega)
 cases f with
 |cons j w=>
  cases w;cases j with
  |list ho b=>exact⟨_,_,ns,rfl,rfl,ho,FW ns _ b,hlen⟩
def Ag (l:OpenLaw)(args:List WData):l.row.toRowW.claim.post args (.bool true) args=true:=
 postW_of (r:=l.row.toRowW) (X:=(true==true))
  (show WShape.has [] (.bool true) .bool=true by first|rfl|decide|simp[WShape.has,WShape.arms,WShape.armsAll])
  (show(WTm.eq .res (.lit (.bool true))).value [] { args:=args,res:=some (.bool true),after:=args }=some (.bool (true==true)) from w_eq_bool (w_res rfl) w_lit) rfl
def Cr {l:OpenLaw}{q:Program}{loose:bR}{P:World->Heap->Prop}{d:DefRec}
  (hn:l.most=some n)(e:d.params.defaults=[])
  (call:∀(w:World)(S s:Shared)(mg M:bZ)(b:Addr)(o:Obj)(pm cd doc:Value)(a:Addr)(vs:bL)(ns:bK),
   Ground q loose [] XP w S mg M s.heap->P w s.heap->
   s.heap.get? b=some o->o.data=.func (docDef d.name d.params d.body d.scope pm cd doc)->s.heap.CodeRec cd d.name->mg d.name=some (.ref b)->
   s.heap.get? a=some { cls:=.type "list",data:=.seq vs.toArray }->IntsAre vs ns->ns.length<=n->s.gens=#[]->
   codeAny (model l.prog w) callerA (.call (.ref b) ⟨[.ref a],[]⟩) (λr s'=>r=.ok (.ret (.bool true))/\OldK s.heap s'.heap/\s'.os=s.os/\AllBare s'.gens) s):
  WalkO q loose XP P l.row.toRowW d [] (λf vs=>PySem.call f vs):=by
 intro w S s mg M G Y b o pm cd doc z kV ho hd i D g u args vals as h y j c t;obtain rfl:z=.none:=Dflts.none D e;obtain rfl:kV=.none:=Dflts.noKw D;obtain⟨a,vs,ns,rfl,rfl,H,hints,hlen⟩:=BQ hn h c;refine enter_call (codeAny_mono (call w S s mg M b o pm cd doc a vs ns G Y ho (fd_plain hd) i g H hints hlen u) λr s' p=>?_);obtain⟨rfl,h2,x,v⟩:=p;exact⟨.inl ⟨.bool true,.bool true,[],rfl,λ_=>rfl,.bool true,Ag l _,λ_=>⟨List.Pairwise.nil,λ_ hm=>(nomatch hm)⟩⟩,h2,x,v⟩
end Att
namespace L2
open PySem PySem.Spec PyProof.Rows
noncomputable abbrev Hr {K:Frag}(_:K.In h):Frag:=K
noncomputable def Qc (s:Stmt):Arguments:=match s with
 |.FunctionDef _ a _ _ _ _ _ _ _ _=>a|_=>{ posonlyargs:=[],args:=[],vararg:=none,kwonlyargs:=[],kw_defaults:=[],kwarg:=none,defaults:=[] }
noncomputable def yW (s:Stmt):cc:=match s with
 |.FunctionDef _ _ b _ _ _ _ _ _ _=>b|_=>[]
noncomputable def zZ (s:Stmt):Scope:=match s with
 |.FunctionDef _ _ _ _ _ _ sc _ _ _=>sc|_=>{ kind:=.function,names:=[],isGenerator:=false,isCoroutine:=false }
noncomputable abbrev wc:gO:=λ_ _ _ _ _ _=>False
noncomputable abbrev E0:XK:=λ_ _ _=>False
def eT:Passes wc X E0:=λ_ _ _ _ _ _ _ h=>h.elim
structure kR (K:Frag)(x qual:Str)(st:Stmt)(f:Addr)(fd:FuncData):Prop where
 ex:∃(oc:Value) (od:cb) (kV doc pm:Value) (an:cb) (cdv ct:Value) (osl:Array (bQ)),
  fd=fnOf x qual (Qc st) (yW st) (zZ st) .none kV doc pm an cdv ct/\K.lookup f=some ⟨oc,od,.func fd,osl⟩/\codeIn K cdv qual=true
 kp:keepIn K (.ref f)=true
section
variable {K:Frag}
def kR.ok {st:Stmt}{f:Addr}{k:Nat}{sp:Sp}(F:kR K x qual st f fd)(S:qC N ps (zZ st))(len:∀vs H Q E,sp vs H Q E->vs.length=ps.length)
  (y:∀(c:Value)(A:Around)(outer:b0)(s:Shared)(H:Hp)(vs:List V)(Q:VK)(E:XK),jO k (A.deeper (envOfC qual (zZ st) s.heap.objs.size f c))->sp vs H Q E->
   ∃t,yM (wj wc P w K mg base N qual (zZ st) f c A outer s H E).nox (yW st) t/\t { nx:=λ_ a=>Q .non a,rt:=Q } (start N vs) H):yG P w K mg base wc (k+1) f fd ps sp:=by
 obtain⟨e,b,kV,doc,pm,an,c,ct,o,rfl,lk,d⟩:=F.ex;refine Sf lk d S len λA outer s H vs Q E r p=>?_;obtain⟨t,h,q⟩:=y c A outer s H vs Q E r p;exact⟨t,h.nox,q⟩
def kR.binds {st:Stmt}{f:Addr}(F:kR K x qual st f fd)
  (h:∀(kV doc pm:Value)(an:cb)(c ct:Value)(us:bL),us.length=ps.length->bindArgs (fnOf x qual (Qc st) (yW st) (zZ st) .none kV doc pm an c ct) ⟨us,[]⟩=pure (ps.zip us)):Binds K fd ps []:=by
 obtain⟨a,d,kV,doc,pm,an,c,ct,o,rfl,lk,H⟩:=F.ex;exact .all (h kV doc pm an c ct)
def eU {st:Stmt}{f:Addr}{a:Value}{o an:cb}{kV doc pm C ct:Value}(l:K.lookup f=some ⟨a,o,.func (fnOf x qual (Qc st) (yW st) (zZ st) .none kV doc pm an C ct),osl⟩)
  (c:codeIn K C qual=true)(k:keepIn K (.ref f)=true):kR K x qual st f (fnOf x qual (Qc st) (yW st) (zZ st) .none kV doc pm an C ct):=⟨⟨a,o,kV,doc,pm,an,C,ct,osl,rfl,l,c⟩,k⟩
end
def eV {A:Around}{k:Nat}(h:jO k A):A.units+1<cLine:=Nat.lt_of_le_of_lt (Nat.add_le_add_left (by decide:1<=64) _) h.units
section
variable {κ:Type}[DecidableEq κ]
noncomputable def kJ (kvs:List (κ×V))(k:κ):Option V:=(kvs.find? λK=>decide (K.1=k)).map (·.2)
noncomputable def putK (kvs:List (κ×V))(k:κ)(v:V):List (κ×V):=
 if (kvs.any λK=>decide (K.1=k))=true then kvs.map (λK=>if K.1=k then(K.1,v) else K) else kvs++[(k,v)]
def GJ {p:κ×V}{r:List (κ×V)}{k:κ}(e:p.1=k):kJ (p::r) k=some p.2:=by simp[kJ,find?_cons,e]
def GS {p:κ×V}{r:List (κ×V)}{k:κ}(e:¬p.1=k):kJ (p::r) k=kJ r k:=by simp[kJ,find?_cons,e]
theorem ND (k:κ):∀kvs:List (κ×V),(kvs.any λK=>decide (K.1=k))=(kJ kvs k).isSome
 |[]=>rfl|p::r=>by
  rw[any_cons]
  by_cases e:p.1=k
  ·simp only[GJ e,aI e,Bool.true_or,isSome_some]
  ·rw[GS e,aK e,Bool.false_or];exact ND k r
def Cd (kvs:List (κ×V))(k:κ)(v:V):(putK kvs k v).length<=kvs.length+1:=by
 unfold putK
 split
 ·rw[ak];omega
 ·rw[av,bo,length_nil];omega
def AH {kvs:List (κ×V)}{k:κ}(v:V)(h:kJ kvs k=none):putK kvs k v=kvs++[(k,v)]:=by
 unfold putK;rw[ND,h];exact ao (by decide)
def KV.val {kvs:List (κ×V)}{vs:List (κ×Value)}(r:KV kvs vs)(k:κ):Qz (kJ kvs k) (valueAt vs k):=by
 unfold KV at r
 induction r with
 |nil=>exact True.intro|@cons p q ps Q h t i=>
  obtain⟨h1,h2⟩:=h
  by_cases e:p.1=k
  ·have E:q.1=k:=h1.symm.trans e
   have b:valueAt (q::Q) k=some q.2:=by simp[valueAt,find?_cons,E]
   rw[GJ e,b];exact h2
  ·have E:¬q.1=k:=λz=>e (h1.trans z)
   have b:valueAt (q::Q) k=valueAt Q k:=by simp[valueAt,find?_cons,E]
   rw[GS e,b];exact i
theorem KV.any {kvs:List (κ×V)}{vs:List (κ×Value)}(r:KV kvs vs)(k:κ):(kvs.any λK=>decide (K.1=k))=vs.any λK=>decide (K.1=k):=by
 unfold KV at r
 induction r with
 |nil=>rfl|cons h t i=>rw[any_cons,any_cons,i,h.1]
def KV.repl {kvs:List (κ×V)}{vs:List (κ×Value)}(r:KV kvs vs)(k:κ){y:V}(a:RelV y u):
  KV (kvs.map λK=>if K.1=k then(K.1,y) else K) (vs.map λK=>if K.1=k then(K.1,u) else K):=by
 unfold KV at r ⊢
 induction r with
 |nil=>exact .nil|@cons p q ps Q h t i=>
  rw[aS,aS];refine .cons ?_ i;obtain⟨h1,h2⟩:=h
  by_cases e:p.1=k
  ·rw[aj e,aj (h1.symm.trans e)];exact⟨h1,a⟩
  ·rw[ao e,ao (λz=>e (h1.trans z))];exact⟨h1,h2⟩
def KV.put {kvs:List (κ×V)}{vs:List (κ×Value)}(r:KV kvs vs)(k:κ){y:V}(a:RelV y u):KV (putK kvs k y) (stored vs k u):=by
 unfold putK stored;rw[r.any k]
 by_cases e:(vs.any λK=>decide (K.1=k))=true
 ·rw[aj e,aj e];exact r.repl k a
 ·rw[ao e,ao e];exact Paired.snoc r ⟨rfl,a⟩
theorem KV.length {kvs:List (κ×V)}{vs:List (κ×Value)}(r:KV kvs vs):kvs.length=vs.length:=Paired.length r
end
def Sj {k:Key}(r:RelV (kV k) u):(yX P w).is k u=true:=by
 cases k with
 |inl i=>obtain⟨t,e⟩:=(show ∃t,u=Value.int i t from r);subst e;exact Cf P w i t|inr x=>obtain⟨t,e⟩:=(show ∃t,u=Value.str x t from r);subst e;exact Cp P w x t
theorem O7:∀{ks:List Key}{us:bL},Vals (ks.map kV) us->ItemsAre (yX P w) ks us
 |[],_,r=>by rw[map_nil]at r;cases r;exact .nil|k::ks,_,r=>by
  rw[aS]at r;cases r with
  |cons h t=>exact .cons (Sj h) (O7 t)
abbrev KT (H:Hp):List (List Key×V)->List (List Key×Addr×Value)->Prop:=Paired λp q=>p.1=q.1/\H q.2.1=some (.tup (p.1.map kV))/\RelV p.2 q.2.2
def KT.val {kvs:List (List Key×V)}{xs:List (List Key×Addr×Value)}(r:KT H kvs xs)(k:List Key):Qz (kJ kvs k) ((atKey xs k).map (·.2)):=by
 induction r with
 |nil=>exact True.intro|@cons p q ps Q h t i=>
  obtain⟨h1,_,h2⟩:=h
  by_cases e:p.1=k
  ·have E:q.1=k:=h1.symm.trans e
   have b:atKey (q::Q) k=some q.2:=by simp[atKey,find?_cons,E]
   rw[GJ e,b];exact h2
  ·have E:¬q.1=k:=λz=>e (h1.trans z)
   have b:atKey (q::Q) k=atKey Q k:=by simp[atKey,find?_cons,E]
   rw[GS e,b];exact i
section
def IH {u:HO}(ok:jy P w H h)(e:Rd H a u):jv P w H h a u:=e.ok ok
def T4 (ok:jy P w H h)(e:Rd H a (.dK kvs)):kvs.length<=sizeLine/\(a==sysModules)=false/\∃vs,KV kvs vs/\h.DictOf (yX P w) a vs:=
 show jv P w H h a (.dK kvs) from IH ok e
def Ip (ok:jy P w H h)(e:H a=some (.dK kvs)):kvs.length<=sizeLine/\(a==sysModules)=false/\∃vs,KV kvs vs/\h.DictOf (yX P w) a vs:=T4 ok (.inl e)
def LG {ks:List Key}(ok:jy P w H h)(e:H a=some (.tup (ks.map kV))):(tupleKind (yX P w)).is h ks a:=by
 obtain⟨_,i,r,o,h1,h2,n,b⟩:=(show jv P w H h a (.tup (ks.map kV)) from ok a _ e)
 exact⟨o,i.toArray,n,h1,h2.1,b,by simpa using O7 r⟩
def Ig {kvs:List (List Key×V)}(ok:jy P w H h)(e:Rd H a (.dT kvs)):kvs.length<=sizeLine/\(a==sysModules)=false/\
  ∃xs,KT H kvs xs/\h.DictOfH (tupleKind (yX P w)) a xs:=by
 obtain⟨z,y,xs,r,o,E,j,h1,h2,g,f,d⟩:=(show jv P w H h a (.dT kvs) from IH ok e)
 refine⟨z,y,xs,r,o,E,j,h1,h2,g,f,λx b=>?_,d⟩;have all:∀{l:List (List Key×V)}{m:List (List Key×Addr×Value)},KT H l m->∀x∈m,(tupleKind (yX P w)).is h x.1 x.2.1:=by
  intro l m q
  induction q with
  |nil=>intro x b;exact nomatch b
  |@cons p q ps Q c t i=>
   intro x b;rcases cm.mp b with e|b
   ·subst e
    exact LG ok (by rw[<- c.1];exact c.2.1)
   ·exact i x b
 exact all r x b
end
def YH (H:Hp)(a:Addr)(y:V)(r:Option V):Prop:=
 (∃kvs k,Rd H a (.dK kvs)/\y=kV k/\r=kJ kvs k)∨∃kvs k b,Rd H a (.dT kvs)/\y=.ref b/\H b=some (.tup (k.map kV))/\r=kJ kvs k
theorem YH.k {k:Key}(e:H a=some (.dK kvs)):YH H a (kV k) (kJ kvs k):=.inl ⟨kvs,k,.inl e,rfl,rfl⟩
section
variable {y:V}{o:Option V}{A:Around}
def Inv.big (I:Inv X pins σ H s):sysModules<s.heap.objs.size:=by
 have h:mainGlobals<s.heap.objs.size:=(I.mod.glob.keeps I.bk).lt;exact lt_trans (by decide) h
def Bs (j:A.units+1<cLine)(I:Inv X pins σ H s)(g:YH H a y (some v))(i:RelV y u)(h:∀c s',Inv X pins σ H s'->RelV v c->Q c s'):
  wpAny (model X.prog X.w) A (getItem (.ref a) u) Q E s:=by
 rcases g with ⟨kvs,k,e,f,l⟩|⟨kvs,k,b,e,f,q,l⟩
 ·subst f
  obtain⟨z,hd,vs,rel,dd⟩:=T4 I.hok e;obtain⟨c,hw,r⟩:=Qz.some_of (v:=v) (o:=valueAt vs k) (by rw[l];exact rel.val k)
  exact wpAny_getItem_of (Sj i) dd.mapOf hw (h c _ (I.tok _) r)
 ·subst f
  cases (show u=Value.ref b from i)
  obtain⟨z,hd,xs,rel,dd⟩:=Ig I.hok e;obtain⟨c,hw,r⟩:=Qz.some_of (v:=v) (o:=(atKey xs k).map (·.2)) (by rw[l];exact rel.val k)
  obtain⟨p,n,d⟩:=Option.map_eq_some_iff.mp hw;refine wpAny_getItem_heap (tupleKind_room_in1 j) (LG I.hok q) dd n ?_;rw[d];exact h c _ (I.tok _) r
def eW {ob:HO}(I:Inv X pins σ H s)(M:WR (H a))(h:Heap.SameBut a s.heap h')(he:∃q,h'.get? a=some q)(new:jv X.prog X.w (upd H a ob) h' a ob):
  Inv X pins σ (upd H a ob) { s with heap:=h',toks:=t' }:=
 I.write (x:=a) (e:=a) M (.inl rfl) (λb q c z=>(h.2 b c).trans z) he new
def eX {H:Hp}{vs:List (Key×Value)}(z:kvs.length<=sizeLine)(hd:(a==sysModules)=false)(rel:KV kvs vs)(dd:h'.DictOf (yX P w) a vs):
  jv P w H h' a (.dK kvs):=⟨z,hd,vs,rel,dd⟩
end
def SD (i:Expr):Prop:=∀ov I,subscripted i false ov I=operate [ov,I] (getItem ov I)
def eY {prog:Program}{A:Around}{value slice:Expr}{T id:String}
  (hl:typeLookup (.type T) "__getitem__"=pure (some (.builtin id)))(e:SD slice)
  (h:wpAny (model prog w) A (eval value env) (λo b=>wpAny (model prog w) A (eval slice env) (λi S=>S.TypeIs o T/\wpAny (model prog w) A (getItem o i) Q E S) E b) E s):
  wpAny (model prog w) A (eval (.Subscript value slice pos) env) Q E s:=by
 refine Subscript_ (wpAny_mono h (λo b d=>wpAny_mono d (λi S H=>?_) λ_ _ x=>x) λ_ _ x=>x);obtain⟨hT,H⟩:=H;unfold subscriptTail;refine cf ?_;rw[getitemInPython_of_ne hT.not_modules];refine cf (wpAny_specialOf hT hl ?_);have fin:wpAny (model prog w) A (subscripted slice false o i) (λr a=>wpAny (model prog w) A (letTemporaryGo value o r >>= λ_=>pure r) Q E a) E S:=by
  rw[e o i];exact wpAny_operating (wpAny_mono H (λr a c=>cf (wpAny_letTemporaryGo (cg c))) λ_ _ x=>x)
 first
  |exact cg (cf fin)
  |exact cf (cg (cf fin))
  |exact cf fin
def Ck {y:V}{o:Option V}(I:Inv X pins σ H s)(g:YH H a y o):s.TypeIs (.ref a) "dict":=by
 rcases g with ⟨kvs,k,e,_,_⟩|⟨kvs,k,b,e,_,_,_⟩
 ·obtain⟨_,_,vs,_,dd⟩:=T4 I.hok e
  exact dd.typeIs
 ·obtain⟨_,_,xs,_,dd⟩:=Ig I.hok e
  exact dd.typeIs
noncomputable def eZ (td ty:TE):TE:=λσ H Q=>td σ H λx H1=>ty σ H1 λy h=>∃a v,x=.ref a/\YH h a y (some v)/\Q v h
section
variable {o i:Expr}{td ty:TE}
def fb (f:X.A.units+1<cLine)(ho:PE X o td)(l:PE X i ty)(j:SD i):PE X (.Subscript o i pos) (eZ td ty):=by
 intro pins s σ H Q I h;refine eY PySem.F.slot_dict_getitem.lookup j (zY (ho pins s σ H _ I h) λu s1 ⟨x,H1,p,d,e⟩=>zY (l pins s1 σ H1 _ p e) λz s2 ⟨y,t,b,c,a,v,ex,g,q⟩=>?_);subst ex;obtain rfl:u=Value.ref a:=d;exact⟨Ck b g,Bs f b g c λw s3 n r=>⟨v,t,n,r,q⟩⟩
end
def AB (h:Heap)(b:sysModules<h.objs.size):jv P w H (h.push { cls:=.type "dict",data:=.dict #[] }) h.objs.size (.dK []):=
 ⟨zero_le _,beq_eq_false_iff_ne.mpr (Ne.symm (aQ b)),[],.nil,Heap.DictOf.new h⟩
def fc:TE:=λ_ H Q=>∀p,H p=none->Q (.ref p) (upd H p (.dK []))
section
def AL:PE X (.Dict [] [] pos) fc:=λpins s σ H Q I h=>
 wpAny_Dict_empty ⟨.ref s.heap.objs.size,_,I.laid (a:=s.heap.objs.size) (o:=.dK []) (t':=s.toks) (λ_ _ q=>af _ q) (aq _) (AB s.heap I.big),rfl,h _ (I.hok.fresh (aq _))⟩
end
noncomputable def kX (env:Env):List (Str×NameKind)->List (Str×Addr)->List (Str×Addr)
 |[],acc=>acc|(n,k)::r,acc=>kX env r (if k==.free then(n,(env.cells.lookup n).getD 0)::acc else acc)
def fe (f:Str×NameKind->List (Str×Addr)->Sem (ForInStep (b8)))
  (hf:∀n k r,f (n,k) r=if (k==NameKind.free)=true then(do let c <- cellOf env n;pure (ForInStep.yield ((n,c)::r))) else pure (ForInStep.yield r)):
  ∀(names:List (Str×NameKind))(acc:b8),(∀y∈names,y.2=.free->∃c,env.cells.lookup y.1=some c)->(forIn names acc f:Sem (b8))=pure (kX env names acc):=by
 intro names
 induction names with
 |nil=>intro acc _;rfl|cons y r i=>
  intro acc b;obtain⟨n,k⟩:=y;rw[forIn_cons,hf];unfold kX;have h:=i (if k==.free then(n,(env.cells.lookup n).getD 0)::acc else acc) (λy g=>b y (au _ g))
  by_cases a:k=.free
  ·subst a
   obtain⟨c,d⟩:=b (n,.free) aB rfl;have e:cellOf env n=pure c:=by unfold cellOf;rw[d]
   have H:List.lookup n env.cells=some c:=d;simp only[e,H,Option.getD_some,bH,if_true]at h ⊢;exact h
  ·have j:(k==NameKind.free)=false:=by simpa using a
   simp only[j,false_eq_true,if_false]at h ⊢;exact h
def OW (h:∀y∈scope.names,y.2=.free->∃c,env.cells.lookup y.1=some c):closureFor scope env=pure (kX env scope.names []):=by
 unfold closureFor;dsimp only;rw[fe _ (λn k r=>rfl) scope.names [] h]
 rfl
theorem Jn {n:Str}:∀(names:List (Str×NameKind))(acc:b8),(n,c)∈kX env names acc->(n,c)∈acc∨((n,NameKind.free)∈names/\c=(env.cells.lookup n).getD 0)
 |[],acc,h=>.inl h|(x,k)::r,acc,h=>by
  unfold kX at h;rcases Jn r _ h with h|⟨h1,h2⟩
  ·by_cases H:k=.free
   ·subst H
    simp only[bH,if_true]at h;rcases cm.mp h with e|h
    ·cases e;exact .inr ⟨aB,rfl⟩
    ·exact .inl h
   ·have b:(k==NameKind.free)=false:=by simpa using H
    simp only[b,false_eq_true,if_false]at h;exact .inl h
  ·exact .inr ⟨au _ h1,h2⟩
theorem GC {n:Str}:∀(names:List (Str×NameKind))(acc:b8),((n,NameKind.free)∈names∨(acc.lookup n).isSome=true)->((kX env names acc).lookup n).isSome=true
 |[],acc,h=>by
  rcases h with h|h
  ·cases h
  ·exact h
 |(x,k)::r,acc,h=>by
  unfold kX;refine GC r _ ?_;rcases h with h|h
  ·rcases cm.mp h with e|h
   ·cases e
    right
    simp
   ·exact .inl h
  ·right
   by_cases H:(k==NameKind.free)=true
   ·rw[aj H,lookup_cons]
    cases a:n==x
    ·exact h
    ·rfl
   ·rw[ao H];exact h
theorem V1 {n:Str}:∀(names:List (Str×NameKind))(k:Nat)(acc:b8),(n,c)∈cellsFrom k names acc->(n,c)∈acc∨(k<=c/\(n,NameKind.cell)∈names)
 |[],_,_,h=>.inl h|(x,q)::r,k,acc,h=>by
  unfold cellsFrom at h
  by_cases a:(q==NameKind.cell)=true
  ·rw[aj a]at h
   have H:q=.cell:=by simpa using a
   rcases V1 r _ _ h with h|⟨h1,h2⟩
   ·rcases cm.mp h with e|h
    ·cases e;subst H;exact .inr ⟨aq _,aB⟩
    ·exact .inl h
   ·exact .inr ⟨by omega,au _ h2⟩
  ·rw[ao a]at h
   rcases V1 r _ _ h with h|⟨h1,h2⟩
   ·exact .inl h
   ·exact .inr ⟨h1,au _ h2⟩
theorem VV:∀(names:List (Str×NameKind))(k:Nat)(acc:b8),(∀n c,(n,c)∈acc->c<k)->(∀n N c,(n,c)∈acc->(N,c)∈acc->n=N)->∀n N c,(n,c)∈cellsFrom k names acc->(N,c)∈cellsFrom k names acc->n=N
 |[],_,_,_,hi,n,N,c,h,h'=>hi n N c h h'|(x,q)::r,k,acc,hl,hi,n,N,c,h,h'=>by
  unfold cellsFrom at h h'
  by_cases a:(q==NameKind.cell)=true
  ·rw[aj a]at h h'
   refine VV r (k+1) ((x,k)::acc) (λm d hm=>?_) (λm M d hm H=>?_) n N c h h'
   ·rcases cm.mp hm with e|hm
    ·cases e;exact bx _
    ·exact bh (hl m d hm)
   ·rcases cm.mp hm with e|hm
    ·rcases cm.mp H with E|H
     ·cases e;cases E;rfl
     ·cases e;exact absurd (hl M _ H) (aV _)
    ·rcases cm.mp H with E|H
     ·cases E;exact absurd (hl m _ hm) (aV _)
     ·exact hi m M d hm H
  ·rw[ao a]at h h'
   exact VV r k acc hl hi n N c h h'
theorem VS {n:Str}:∀(names:List (Str×NameKind))(h:Heap)(acc:b8),(n,c)∈cellsFrom h.objs.size names acc->(n,c)∈acc∨(pushCells h names).IsCell c none
 |[],_,_,q=>.inl q|(x,k)::r,h,acc,q=>by
  unfold cellsFrom at q;unfold pushCells
  by_cases H:(k==NameKind.cell)=true
  ·rw[aj H]at q ⊢
   have:=VS r (h.push { cls:=.type "cell",data:=.cell none }) ((x,h.objs.size)::acc) (by rw[bq];exact q)
   rcases this with z|z
   ·rcases cm.mp z with e|z
    ·cases e
     exact .inr ⟨_,pushCells_keeps r _ _ _ (ay _ rfl),rfl⟩
    ·exact .inl z
   ·exact .inr z
  ·rw[ao H]at q ⊢
   exact VS r h acc q
def Fz {A:Around}{globals:Addr}{cl:b8}{Q:Env->Shared->Prop}
  (h:Q { scope,locals:=s.heap.objs.size,globals,cells:=cellsFrom (s.heap.objs.size+1) scope.names cl,qual,func:=none,code:=env.code,frame:=env.frame,builtins:=env.builtins }
   { s with heap:=pushCells (s.heap.push { cls:=.type "dict",data:=.dict #[] }) scope.names }):
  wpAny M A (newFunctionEnv scope globals cl [] qual none .none (some env)) Q E s:=by
 simp only[newFunctionEnv,isSome_some,if_true];refine cf (wpAny_alloc ?_);refine cf (wpAny_layCells _ (λname kind cells=>by cases H:kind==NameKind.cell<;>simp[H]) _ _ _ _ ?_)
 rw[show({ s with heap:=s.heap.push { cls:=.type "dict",data:=.dict #[] } }:Shared).heap.objs.size=s.heap.objs.size+1 from bq ..]
 rw[forIn_nil];exact cf (cg (cg h))
def jT (X:Cx)(N:bR)(scope:Scope)(s:Shared)(H:Hp)(fp:bM)(xe:bS):Cx where
 prog:=X.prog
 w:=X.w
 K:=X.K
 mg:=X.mg
 base:=X.base
 A:=X.A
 N:=N
 s0:=s
 H0:=H
 env:={ scope:=relabel scope X.env,locals:=s.heap.objs.size,globals:=X.env.globals,cells:=cellsFrom (s.heap.objs.size+1) scope.names (kX X.env scope.names []),qual:=X.env.qual,func:=none,code:=X.env.code,frame:=X.env.frame,builtins:=X.env.builtins }
 outer:=X.stack
 stack:=X.stack
 ex:=fp
 fn:=λx=>scope.names.lookup x==some .local || scope.names.lookup x==some .cell
 calm:=X.calm
 pn:=[]
 xe:=xe
structure gE (X:Cx)(scope:Scope):Prop where
 kind:scope.kind=.function
 nd:(scope.names.map (·.1)).Nodup
 free:∀y∈scope.names,y.2=.free->X.env.kindOf y.1=some .cell∨X.env.kindOf y.1=some .free
theorem J2 {k:α}:∀{l:List (Str×α)},(l.map (·.1)).Nodup->(x,k)∈l->l.lookup x=some k
 |(y,q)::r,nd,h=>by
  rw[aS,List.nodup_cons]at nd;rw[lookup_cons];rcases cm.mp h with e|h
  ·cases e;simp
  ·have ne:(x==y)=false:=by
    rw[beq_eq_false_iff_ne];intro e
    apply nd.1
    rw[<- e];exact List.mem_map_of_mem (f:=(·.1)) h
   rw[ne];exact J2 nd.2 h
def VN {k:NameKind}(h:(relabel scope env).names.lookup x=some k):scope.names.lookup x=some k∨(k=.cell/\scope.names.lookup x=some .free/\env.kindOf x=some .cell):=by
 unfold relabel at h;dsimp only at h;generalize scope.names=names at h ⊢
 induction names with
 |nil=>cases h|cons y r i=>
  obtain⟨n,q⟩:=y;rw[aS]at h;have split:(if (q==NameKind.free&&env.scope.kind==.function&&env.kindOf n==some .cell)=true then(n,NameKind.cell) else(n,q)).1=n:=by split<;>rfl
  rw[lookup_cons]at h ⊢;dsimp only at h;rw[split]at h;cases a:x==n with
  |false=>rw[a]at h;exact i h|true=>
   rw[a]at h;have e:x=n:=aH.mp a;subst e
   by_cases H:(q==NameKind.free&&env.scope.kind==.function&&env.kindOf x==some .cell)=true
   ·rw[aj H]at h
    simp only[ah,aH]at H;cases h
    right
    exact⟨rfl,by rw[H.1.1],H.2⟩
   ·rw[ao H]at h
    left
    exact h
section
def Inv.capt (I:Inv X pins σ H s)(S:gE X scope)(h:(x,NameKind.free)∈scope.names):∃c,X.env.cells.lookup x=some c:=I.ok.has x (S.free _ h rfl)
def Yh (I:Inv X pins σ H s)(S:gE X scope)(h:(x,c)∈cellsFrom (s.heap.objs.size+1) scope.names (kX X.env scope.names [])):
  ((x,NameKind.free)∈scope.names/\X.env.cells.lookup x=some c/\c<s.heap.objs.size)∨((x,NameKind.cell)∈scope.names/\s.heap.objs.size<c/\∀h0:Heap,h0.objs.size=s.heap.objs.size+1->(pushCells h0 scope.names).IsCell c none):=by
 rcases V1 _ _ _ h with h1|⟨h1,h2⟩
 ·left
  rcases Jn _ _ h1 with z|⟨z,e⟩
  ·cases z
  ·obtain⟨C,a⟩:=I.capt S z
   rw[a]at e;have E:c=C:=e;subst E;obtain⟨v,q⟩:=I.cell x c a;exact⟨z,a,q.lt⟩
 ·right
  refine⟨h2,h1,λh0 b=>?_⟩;have h':=h;rw[<- b]at h';rcases VS _ h0 _ h' with z|z
  ·exfalso
   rcases Jn _ _ z with z|⟨z,e⟩
   ·cases z
   ·obtain⟨C,a⟩:=I.capt S z
    rw[a]at e;have E:c=C:=e;subst E;obtain⟨v,q⟩:=I.cell x c a;exact aV _ (aE (bh q.lt) h1)
  ·exact z
def fg {xe:bS}{f:St}(I:Inv X pins σ H s)(S:gE X scope)(hf:∀b∈fp,wC X pins H b)(A:∀b∈fp,b<s.heap.objs.size)(hl:f.length=N.length)
  (hs:∀(j:Nat)(x:Str)(v:V),N[j]? =some x->f[j]? =some (some v)->(x,NameKind.free)∈scope.names/\∃i:Nat,X.N[i]? =some x/\σ[i]? =some (some v)):
  Inv (jT X N scope s H fp xe) [] f H { s with heap:=pushCells (s.heap.push { cls:=.type "dict",data:=.dict #[] }) scope.names }:=by
 have K:∀b o,s.heap.get? b=some o->(pushCells (s.heap.push { cls:=.type "dict",data:=.dict #[] }) scope.names).get? b=some o:=λb o e=>pushCells_keeps _ _ _ _ (af _ e);have Q:(s.heap.push { cls:=.type "dict",data:=.dict #[] }).objs.size=s.heap.objs.size+1:=bq ..;have l:∀{x:Str}{c:Addr},(jT X N scope s H fp xe).env.cells.lookup x=some c->(x,c)∈cellsFrom (s.heap.objs.size+1) scope.names (kX X.env scope.names []):=λh=>PySem.mem_of_lookup h;have L:∀{x:Str},((jT X N scope s H fp xe).env.kindOf x=some .cell∨(jT X N scope s H fp xe).env.kindOf x=some .free)->∃c,(jT X N scope s H fp xe).env.cells.lookup x=some c:=λ {x} h=>by
  refine Option.isSome_iff_exists.mp (cellsFrom_some _ _ _ ?_);have two:scope.names.lookup x=some .cell∨scope.names.lookup x=some .free:=by
   rcases h with h|h
   ·rcases VN h with z|⟨_,z,_⟩
    ·exact .inl z
    ·exact .inr z
   ·rcases VN h with z|⟨z,_⟩
    ·exact .inr z
    ·cases z
  rcases two with z|z
  ·exact .inl z
  ·exact .inr (GC _ _ (.inl (PySem.mem_of_lookup z)))
 have exP:∀b∈fp,∀x c,(jT X N scope s H fp xe).env.cells.lookup x=some c->c≠b:=λb a x c e=>by
  rcases Yh I S (l e) with ⟨_,q,_⟩|⟨_,q,_⟩
  ·exact(hf b a).2.2.2.2.1 x c q
  ·intro z;subst z;exact aV _ (lt_trans q (A _ a))
 refine⟨⟨I.ok.mod,S.kind,I.ok.glob,I.ok.blt,aq _,λx y c h1 h2=>?_,λx h=>L h,λx c g h=>?_,I.ok.hd,I.ok.frames,.inl rfl,λb a=>⟨?_,exP b a⟩,I.bs,a4 I.ok.bsz I.sz,λb o e a=>?_,λb a z=>?_,I.stack,I.stkFree⟩,
  rfl,I.bare,Un.kept K,⟨λ_=>none,?_,λj x v h1 h2 Y=>?_⟩,λx c e=>?_,I.fresh,λx c e=>?_,λp hp=>?_,I.hok.kept K,hl⟩
 ·refine VV _ _ _ (λn c h=>?_) (λn n' c h h'=>?_) x y c (l h1) (l h2)
  ·rcases Jn _ _ h with z|⟨z,e⟩
   ·cases z
   ·obtain⟨c',D⟩:=I.capt S z
    rw[D]at e;have M:c=c':=e;subst M;obtain⟨v,q⟩:=I.cell n c D;exact bh q.lt
  ·rcases Jn _ _ h with z|⟨z,e⟩
   ·cases z
   ·rcases Jn _ _ h' with Z|⟨Z,M⟩
    ·cases Z
    ·obtain⟨d,hd⟩:=I.capt S z
     obtain⟨d',B⟩:=I.capt S Z;rw[hd]at e;rw[B]at M;have J:c=d:=e;have e2:c=d':=M;subst J;subst e2;exact I.ok.inj _ _ _ hd B
 ·rcases Yh I S (l h) with ⟨z,_,_⟩|⟨_,z,_⟩
  ·exfalso
   have J:=J2 S.nd z;have t:(scope.names.lookup x==some .local || scope.names.lookup x==some .cell)=true:=g;rw[J]at t;cases t
  ·exact bz z
 ·exact aQ (A b a)
 ·obtain⟨_,_,_,E,_⟩:=hf b a
  rcases E with E|E
  ·exact I.ok.noex b o e E
  ·exact absurd (aE (aL e) (a4 I.ok.bsz E)) (aV _)
 ·obtain⟨_,h2,Y,_⟩:=hf b a
  rcases cm.mp (I.stkSub b z) with e|e
  ·exact h2 e
  ·exact Y e
 ·exact(Heap.Ns.new s.heap (.type "dict")).keeps (pushCells_keeps _ _)
 ·obtain⟨g,i,J,e2⟩:=hs j x v h1 h2
  obtain⟨m,hn,U⟩:=I.loc;have P:W6 X.env.scope x:=.inr (S.free _ g rfl);obtain⟨u,r,lk⟩:=U i x v J e2 P;refine⟨u,r,.inr ?_⟩;have w:(jT X N scope s H fp xe).env.kindOf x=some .cell∨(jT X N scope s H fp xe).env.kindOf x=some .free:=by
   rcases Y with z|z|z
   ·exfalso
    rcases VN z with Z|⟨Z,_⟩
    ·rw[J2 S.nd g]at Z;cases Z
    ·cases Z
   ·exact .inl z
   ·exact .inr z
  refine⟨w,?_⟩;obtain⟨c,D⟩:=L w;refine⟨c,D,?_⟩;rcases Yh I S (l D) with ⟨_,q,_⟩|⟨q,_,_⟩
  ·rcases lk with ⟨z,_⟩|⟨_,c',C,cell⟩
   ·exfalso
    rcases S.free _ g rfl with k|k<;>(rw[k]at z;cases z)
   ·rw[q]at C;cases C
    exact cell.keeps K
  ·exfalso
   have a1:=J2 S.nd g;have a2:=J2 S.nd q;rw[a1]at a2;cases a2
 ·rcases Yh I S (l e) with ⟨_,q,_⟩|⟨_,_,q⟩
  ·obtain⟨v,z⟩:=I.cell x c q
   exact⟨v,z.keeps K⟩
  ·exact⟨_,q _ Q⟩
 ·rcases Yh I S (l e) with ⟨_,q,_⟩|⟨_,q,_⟩
  ·exact I.freeC x c q
  ·exact I.hok.fresh (bz q)
 ·have T:p∈([]:bN):=hp
  cases T
end
abbrev gx:=Addr->St->Hp->(St->Hp->Prop)->Prop
noncomputable def WL (elt:Expr)(gens:List Comprehension)(sc:Scope)(pos:Pos)(d:Nat)(acc:Value)(env:Env)(k:Sem Fin):Sem Fin:=
 match gens[d+1]? with
 |some g'=>do
  let x <- eval g'.iter env
  standAt g'.iter.pos
  let x <- foldedSetIterable g'.iter env x
  let _ <- runOwn (.compStart (.ListComp elt gens sc pos) (d+1) (<- holding [x] (pyIter x)) acc env) env
  k
 |none=>do
  (do let _ <- call (.builtin "list.append") [acc,<- eval elt env])
  k
theorem fh {d:Nat}{it acc:Value}(h:gens[d]? =some ⟨tg,iter,ifs,0⟩)(H:∀g',gens[d+1]? =some g'->g'.is_async=0):
  compTurn (.ListComp elt gens sc pos) d it acc env=(do
   standAt iter.pos
   match <- pyNext it with
   |none=>pure (.done .next)|some v=>
    letOwnedTupleGo tg it v
    assign tg env v
    let mut ok:=true
    for c in ifs do
     if ok then ok <- isTrue c env (eval c env)
    if ok then WL elt gens sc pos d acc env (again (.compLoop (.ListComp elt gens sc pos) d it acc env))
    else again (.compLoop (.ListComp elt gens sc pos) d it acc env)):=by
 unfold compTurn WL;dsimp only;rw[h];cases hn:gens[d+1]? with
 |none=>rfl|some g'=>
  obtain⟨t',i,f,a⟩:=g';have e:a=0:=H _ hn;subst e
  rfl
def Qp (X:Cx)(ifs:bU)(t:TT):Prop:=
 ∀(pins:bN)(s:Shared)(σ:St)(H:Hp)(Q:Bool->Hp->Prop),Inv X pins σ H s->t σ H Q->
  wpAny (model X.prog X.w) X.A (forIn ifs true λc r=>if r=true then do let ok <- isTrue c X.env (eval c X.env);pure (ForInStep.yield ok) else pure (ForInStep.yield r)) (TP X pins σ Q) X.xe s
noncomputable def fj:TT:=λ_ H Q=>Q true H
def Ap:Qp X [] fj:=λpins s σ H Q I h=>wpAny_tests_nil ⟨H,I,h⟩
def fk {c:Expr}{t:TT}(h:PT X c t):Qp X [c] t:=λpins s σ H Q I hw=>wpAny_tests_one (h pins s σ H Q I hw)
def wW (X:Cx)(elt:Expr)(gens:List Comprehension)(sc:Scope)(pos:Pos)(d:Nat)(t:gx):Prop:=
 ∀(pins:bN)(s:Shared)(σ:St)(H:Hp)(D:Addr)(Q:St->Hp->Prop)(k:Sem Fin)(Q':Fin->Shared->Prop)(E:bS),Inv X pins σ H s->t D σ H Q->
  (∀s' a h,Inv X pins a h s'->Q a h->wpAny (model X.prog X.w) X.A k Q' E s')->wpAny (model X.prog X.w) X.A (WL elt gens sc pos d (.ref D) X.env k) Q' E s
def fm (t:TE):gx:=λD σ H Q=>t σ H λy H1=>∃ys,H1 D=some (.lst ys)/\ys.length<sizeLine/\Q σ (upd H1 D (.lst (ys++[y])))
def Wt (J:It)(g:TG)(ti:TT)(tm:gx):gx:=λD σ H Q=>∃W:Nat->Nat->St->Hp->Prop,(∃m,W 0 m σ H)/\∀i m σ H,W i m σ H->
 (J.stop i H/\Q σ H)∨(J.go i H/\∃N:St->Hp->Prop,(∀c h,N c h->∃M,M<m/\W (i+1) M c h)/\∀x h,J.yld i H x h->g x σ h λa H1=>ti a H1 λb d=>if b=true then tm D a d N else N a d)
def fq (w:TI)(g:TG)(ti:TT)(tm:gx):gx:=λD σ H Q=>w σ H λJ H1=>Wt J g ti tm D σ H1 Q
section
variable {d:Nat}
def Yq (h:∀e s,X.xe e s->False){t:Sem α}{Q':α->Shared->Prop}(H:wpAny (model X.prog X.w) X.A t Q' X.xe s'):wpAny (model X.prog X.w) X.A t Q' E s':=
 wpAny_mono H (λ_ _ z=>z) λe s' z=>(h e s' z).elim
def AN {t:TE}(x:∀e s,X.xe e s->False)(he:PE X elt t)(g:gens[d+1]? =none):wW X elt gens sc pos d (fm t):=by
 intro pins s σ H D Q k Q' E I h b;unfold WL;rw[g];refine cf (cf (Yq x (zY (he pins s σ H _ I h) λu s1 ⟨y,H1,f,r,ys,c,z,a⟩=>?_)));refine cf (Yq x (zY (Nu pins s1 σ H1 (.ref D) [y] (.ref D) [u] (λ_ l=>Q σ l) f rfl (.cons r .nil) ⟨D,ys,y,rfl,rfl,c,z,a⟩) λ_ s2 ⟨_,j,i,_,q⟩=>?_));exact cg (b s2 σ j i q)
def ft {g:TG}{ti:TT}{tm:gx}(Y:∀e s,X.xe e s->False)(Z:X.calm=true)(hg:gens[d]? =some ⟨tg,iter,ifs,0⟩)(ha:∀g',gens[d+1]? =some g'->g'.is_async=0)(M:PG X tg g)(hi:Qp X ifs ti)(hm:wW X elt gens sc pos d tm)
  {Q:St->Hp->Prop}{J:It}{it:Addr}{B:Nat->Heap->Prop}(T:Turn X.prog X.w X.K tg J fp it B)(I:Inv X pins σ H s)(st:B 0 s.heap)(hf:∀b∈fp,wC X pins H b)
  (h:Wt J g ti tm D σ H Q){R:Result->Shared->Prop}(hR:∀s' a c,Inv X pins a c s'->Q a c->R (.ok .next) s'):
  codeAny (model X.prog X.w) X.A (.compLoop (.ListComp elt gens sc pos) d (.ref it) (.ref D) X.env) R s:=by
 obtain⟨W,⟨m0,w0⟩,turn⟩:=h;have S:∀{c:Hp},(∀b∈fp,c b=none)->∀b∈fp,wC X pins c b:=λhn b l=>⟨hn b l,(hf b l).2⟩;refine codeAny_loop rfl (λn s'=>∃i a c,Inv X pins a c s'/\B i s'.heap/\(∀b∈fp,c b=none)/\W i n a c) (λn s3 hI=>?_) m0 ⟨0,σ,H,I,st,λb l=>(hf b l).1,w0⟩;show wpAny _ X.A ((compTurn (.ListComp elt gens sc pos) d (.ref it) (.ref D) X.env).onRaise (λx=>do noteFrame x X.env;theTreesLotGoes x)) _ _ s3
 refine wpAny_noted ?_;rw[fh hg ha];refine cf (wpAny_standAt ?_);obtain⟨i,j,C,I3,Zn,z,w3⟩:=hI;rcases turn i n j C w3 with ⟨stop,qn⟩|⟨go,N,hN,step⟩
 ·refine cf (zY (T.done X rfl rfl rfl Z i pins s3 j C _ I3 (S z) Zn stop) λr s4 ⟨L,I4⟩=>?_)
  subst L;exact cg (hR s4 j C I4 qn)
 ·refine cf (zY (T.item X rfl rfl rfl Z i pins s3 j C _ I3 (S z) Zn go) λr s4 ⟨u,L,h4⟩=>?_)
  subst L;refine cf (zY h4 λ_ s5 ⟨x,H5,I5,r5,y5,p,P⟩=>?_);have U:=I5.pinned (S P) (T.obj _ _ p);have back:∀{f:St}{q:Hp}{t:Shared},Inv X (pins++K9 fp s5.heap) f q t->N f q->∃m,m<n/\∃i a c,Inv X pins a c t/\B i t.heap/\(∀b∈fp,c b=none)/\W i m a c:=λ {f q t} v n7=>by
   obtain⟨m',hm,w7⟩:=hN f q n7;refine⟨m',hm,i+1,f,q,v.unpinned,T.keep _ _ _ p λb l o e=>(v.pin (b,o) (aR _ (aR _ (GD l e)))).1,λb l=>?_,w7⟩;obtain⟨o,e,d⟩:=T.obj _ _ p b l;exact(v.pin (b,o) (aR _ (aR _ (GD l e)))).2.1
  refine cf (Yq Y (zY (M _ s5 j H5 x u _ U r5 (step x H5 y5)) λ_ s6 ⟨y,H6,I6,q6⟩=>?_));refine cf (Yq Y (zY (hi _ s6 y H6 _ I6 q6) λok t ⟨q,v,E⟩=>?_));cases ok with
  |false=>exact cg ⟨rfl,back v E⟩|true=>
   rw[aj rfl]at E;exact hm _ t y q D _ _ _ _ v E λs8 σ8 H8 I8 q8=>cg ⟨rfl,back I8 q8⟩
def Im {g:TG}{ti:TT}{tm:gx}(i:∀e s,X.xe e s->False)(o:X.calm=true)(c:gens[d]? =some ⟨tg,iter,ifs,0⟩)(p:∀g',gens[d+1]? =some g'->g'.is_async=0)(t:PG X tg g)(j:Qp X ifs ti)(hm:wW X elt gens sc pos d tm)
  {Q:St->Hp->Prop}{J:It}{it:Addr}{n:Nat->Heap->Prop}(T:Turn X.prog X.w X.K tg J fp it n)(I:Inv X pins σ H s)(st:n 0 s.heap)(hf:∀b∈fp,wC X pins H b)
  (h:Wt J g ti tm D σ H Q){R:Result->Shared->Prop}(q:∀s' a f,Inv X pins a f s'->Q a f->R (.ok .next) s'):
  codeAny (model X.prog X.w) X.A (.compStart (.ListComp elt gens sc pos) d (.ref it) (.ref D) X.env) R s:=by
 have loop:=ft i o c p t j hm T I st hf h q;refine codeAny_of_tree ?_;show wpAny _ _ ((compStart (.ListComp elt gens sc pos) d (.ref it) (.ref D) X.env).onRaise (λx=>do noteFrame x X.env;standAt theWindowsPlace)) _ _ s
 refine wpAny_notedAt ?_;unfold compStart;have l:(clausesOf (.ListComp elt gens sc pos))[d]? =some ⟨tg,iter,ifs,0⟩:=c;rw[l];show wpAny _ _ (ask >>= _) _ _ s;refine cf (wpAny_askSetting (wpAny_ite ?_))
 split
 ·first
   |exact cf (cg (cg (And.intro rfl loop)))
   |exact cg (And.intro rfl loop)
 ·first
   |exact cf (wpAny_rule (cf (wpAny_standAt (cf (T.self _ 0 s _ _ st (cg (And.intro rfl loop)))))))
   |(refine cf (wpAny_rule ?_);show wpAny _ _ (standAt iter.pos >>= _) _ _ s;exact cf (wpAny_standAt (cf (T.self _ 0 s _ _ st (cg (And.intro rfl loop))))))
def AS {w:TI}{g:TG}{ti:TT}{tm:gx}(b:∀e s,X.xe e s->False)(o:X.calm=true)(c:gens[d+1]? =some ⟨tg,iter,ifs,0⟩)(p:∀g',gens[d+2]? =some g'->g'.is_async=0)(hw:PI X tg iter w)(t:PG X tg g)(n:Qp X ifs ti)(hm:wW X elt gens sc pos (d+1) tm)
  (j:∀x,foldedSetIterable iter X.env x=pure x:=by intro _;rfl):wW X elt gens sc pos d (fq w g ti tm):=by
 intro pins s σ H D Q k Q' E I h l;unfold WL;rw[c];refine cf (Yq b (zY (hw pins s σ H _ I h) λv s1 h1=>?_));refine cf (wpAny_standAt (cf (wpAny_of_eq (j v) ?_)));refine cf (wpAny_holding (Yq b (zY h1 λi s2 h2=>?_)));obtain⟨it,fp,z,J,A,e,r,T,gZ,f2,q⟩:=h2;subst e;refine cf (wpAny_runOwn (Im b o c p t n hm T r gZ f2 q λs' a y u f=>?_));exact l s' a y u f
end
noncomputable def ZQ (nl:Nat)(cap:bP)(σ:St):St:=List.replicate nl none++cap.map λi=>(σ[i]?).join
noncomputable def Qm (M N:bR)(scope:Scope)(nl:Nat)(cap:bP):Bool:=
 N.length==nl+cap.length&&(List.range cap.length).all λk=>match N[nl+k]?,M[cap.getD k 0]? with
  |some x,some y=>x==y&&scope.names.any λz=>z.1==x&&z.2==NameKind.free|_,_=>false
def AF {M:bR}{nl:Nat}(h:Qm M N scope nl cap=true):(ZQ nl cap σ).length=N.length/\
  ∀(j:Nat)(x:Str)(v:V),N[j]? =some x->(ZQ nl cap σ)[j]? =some (some v)->(x,NameKind.free)∈scope.names/\∃i:Nat,M[i]? =some x/\σ[i]? =some (some v):=by
 unfold Qm at h;rw[ah,aH]at h;obtain⟨h1,h2⟩:=h;refine⟨by unfold ZQ;simp[h1],λj x v q E=>?_⟩
 unfold ZQ at E
 by_cases b:j<nl
 ·rw[ag (by simpa using b),bw]at E
  split at E<;>cases E
 ·rw[ar (by simpa using b),bB,ax]at E
  cases c:cap[j-nl]? with
  |none=>rw[c]at E;cases E|some i=>
   rw[c]at E;have e:(σ[i]?).join=some v:=aF E;have f:j-nl<cap.length:=(ck.mp c).1;have H:=cn.mp h2 (j-nl) (cj.mpr f);have n:nl+(j-nl)=j:=by omega
   rw[n,q]at H;have p:cap.getD (j-nl) 0=i:=by rw[aa,c];rfl
   rw[p]at H;cases hm:M[i]? with
   |none=>rw[hm]at H;cases H|some y=>
    rw[hm]at H;rw[ah,aH]at H;obtain⟨l,g⟩:=H;subst l;obtain⟨z,d,a⟩:=List.any_eq_true.mp g;rw[ah,aH,aH]at a;refine⟨?_,i,hm,?_⟩
    ·obtain⟨r,Z⟩:=z
     obtain⟨a1,a2⟩:=a;cases a1;cases a2;exact d
    ·cases s:σ[i]? with
     |none=>rw[s]at e;cases e|some o=>rw[s]at e;cases o with
      |none=>cases e|some w=>cases e;rfl
noncomputable abbrev yr:Value->Shared->Prop:=λ_ _=>False
def XI (K:Frag)(w:TI)(g:TG)(ti:TT)(tm:gx)(nl:Nat)(cap:bP):TE:=λσ H Q=>w σ H λJ h=>∀D,h D=none->K.lookup D=none->Wt J g ti tm D (ZQ nl cap σ) (upd h D (.lst [])) λ_ a=>Q (.ref D) a
section
variable {wi:TI}{g:TG}{ti:TT}{tm:gx}{nl:Nat}
def UZ (hc:X.calm=true)(S:gE X sc)(t:Qm X.N N sc nl cap=true)(ha:∀g',gs[0]? =some g'->g'.is_async=0)(hw:PI X tg iter wi)
  
  (hin:∀s H fp,Inv X pins σ H s->(∀b∈fp,wC X pins H b)->PG (jT X N sc s H fp yr) tg g/\Qp (jT X N sc s H fp yr) ifs ti/\wW (jT X N sc s H fp yr) elt (⟨tg,iter,ifs,0⟩::gs) sc pos 0 tm)
  {Q:VK}(I:Inv X pins σ H s)(h:XI X.K wi g ti tm nl cap σ H Q)
  {use:Option (Value->Sem Unit)}{Q':bS}
  (r:∀(D C:Addr)(s':Shared)(n:Hp)(m:bZ),Inv X pins σ n s'->Q (.ref D) n->s'.heap.Ns C m->n C=none->C≠X.env.locals->X.s0.heap.objs.size<=C->(∀x c,X.env.cells.lookup x=some c->c≠C)->(∀q∈X.pn++pins,q.1≠C)->
   compPost (model X.prog X.w) X.A X.xe use Q' (.ref D) C (.ok .next) s')
  (hs:∀x,foldedSetIterable iter X.env x=pure x:=by intro _;rfl):
  wpAny (model X.prog X.w) X.A (comprehension (.ListComp elt (⟨tg,iter,ifs,0⟩::gs) sc pos) sc X.env p (newList []) false (eval iter X.env) use) Q' X.xe s:=by
 have j:∀y∈sc.names,y.2=.free->∃c,X.env.cells.lookup y.1=some c:=λy Y e=>I.ok.has _ (S.free y Y e);refine wpAny_comprehension_free (use:=use) rfl hs (OW j) S.kind (λy Y e=>by
  obtain⟨y1,y2⟩:=y;have e':y2=.local:=e;subst e';exact J2 S.nd Y) ?_
 refine zY (hw pins s σ H _ I h) λv s1 h1=>zY h1 λitv s2 h2=>?_;obtain⟨it,fp,tn,J,M,e,I2,T,gZ,f2,q2⟩:=h2;subst e;refine wpAny_newObj_type ?_;have hD:M s2.heap.objs.size=none:=I2.fresh;have hKD:X.K.lookup s2.heap.objs.size=none:=by
  cases ek:X.K.lookup s2.heap.objs.size with
  |none=>rfl|some o=>exact absurd (aL (I2.kIn _ _ ek)) (aV _)
 have U:=q2 _ hD hKD;generalize Z:({ s2 with heap:=s2.heap.push { cls:=.type "list",data:=.seq ([]:bL).toArray } }:Shared)=s3
 have f:s3={ s2 with heap:=s2.heap.push { cls:=.type "list",data:=.seq ([]:bL).toArray } }:=Z.symm
 have i:Inv X pins σ (upd M s2.heap.objs.size (.lst [])) s3:=by
  rw[f];exact I2.laid (t':=s2.toks) (λb u e=>af _ e) (aq _) ⟨by simp,[],0,.nil,ay _ rfl⟩
 have B:∀b∈fp,∃o,s2.heap.get? b=some o:=λb a=>let ⟨o,e,_⟩:=T.obj 0 _ gZ b a;⟨o,e⟩
 have P:s3.heap.objs.size=s2.heap.objs.size+1:=by rw[f];exact bq ..
 have Zn:tn 0 s3.heap:=T.keep _ _ _ gZ λb a o e=>by rw[f];exact af _ e
 have E:∀b∈fp,b<s3.heap.objs.size:=λb a=>by
  obtain⟨o,e⟩:=B b a;rw[P];exact bh (aL e)
 have L:∀b∈fp,wC X pins (upd M s2.heap.objs.size (.lst [])) b:=λb a=>by
  obtain⟨o,e⟩:=B b a;refine⟨?_,(f2 b a).2⟩;rw[qz (aQ (aL e))];exact(f2 b a).1
 generalize upd M s2.heap.objs.size (.lst [])=H3 at i L U;generalize s2.heap.objs.size=D at U ⊢;refine Fz ?_;obtain⟨cl,cs⟩:=AF t (σ:=σ);have I4:=fg (xe:=yr) i S L E cl cs;obtain⟨hgt,hi,hm⟩:=hin s3 H3 fp i L;refine Im (X:=jT X N sc s3 H3 fp yr) (gens:=⟨tg,iter,ifs,0⟩::gs) (d:=0) (λ_ _ z=>z) hc rfl ha hgt hi hm T I4 (T.keep _ _ _ Zn λb a o e=>pushCells_keeps _ _ _ _ (af _ e)) (λb a=>?_) U λs' σ' n l q'=>?_
 ·obtain⟨g1,g2,g3,g4,g5,g6⟩:=L b a
  refine⟨g1,aQ (E b a),λz=>?_,.inl a,(I4.ok.exf b a).2,λp hp=>absurd (show p∈([]:bN) from hp) (by simp)⟩
  rcases cm.mp (i.stkSub b z) with e|e
  ·exact g2 e
  ·exact g3 e
 ·have I5:Inv X pins σ n s':=i.call' l.os l.base l.hok l.bare λb a=>by
   obtain⟨g1,g2,g3,g4,g5,g6⟩:=L b a;exact⟨g4,g2,g5,g6⟩
  obtain⟨m,hn,_⟩:=l.loc;refine r D _ s' n m I5 q' hn l.free (ne_of_gt i.lt) i.sz (λx c e z=>?_) λq hq z=>?_
  ·obtain⟨v,w⟩:=i.cell x c e
   exact aV _ (aE w.lt (by rw[z];exact aq _))
  ·exact aV _ (aE (aL (i.pin q hq).1) (by rw[z];exact aq _))
def fv (d:X.calm=true)(S:gE X sc)(p:Qm X.N N sc nl cap=true)(i:∀g',gs[0]? =some g'->g'.is_async=0)(hw:PI X tg iter wi)
  (n:∀s H fp,PG (jT X N sc s H fp yr) tg g/\Qp (jT X N sc s H fp yr) ifs ti/\wW (jT X N sc s H fp yr) elt (⟨tg,iter,ifs,0⟩::gs) sc pos 0 tm)
  (c:∀x,foldedSetIterable iter X.env x=pure x:=by intro _;rfl):PE X (.ListComp elt (⟨tg,iter,ifs,0⟩::gs) sc pos) (XI X.K wi g ti tm nl cap):=by
 intro pins s σ H Q I h;rw[eval_ListComp];refine UZ (use:=none) d S p i hw (λs H fp _ _=>n s H fp) I h (λD C s' u m t q hn h1 h2 r l j=>?_) c;exact⟨m,hn,λh' a=>⟨.ref D,u,t.turned (t':=s'.toks) (λb o f e=>(a.2 b f).trans e) h1 h2 (.inr r) l j,rfl,q⟩⟩
def CQ {p:Pos}{c:Pos}(P:X.N.Nodup)(j:X.N[i]? =some x)(r:X.env.scope.names.lookup x=some .local)
  (w:swapsWith (.ListComp elt (⟨tg,iter,ifs,0⟩::gs) sc pos) (some (.Name x p)) c.line X.env=pure true)
  (J:X.calm=true)(S:gE X sc)(d:Qm X.N N sc nl cap=true)(M:∀g',gs[0]? =some g'->g'.is_async=0)(hw:PI X tg iter wi)
  (n:∀s H fp,PG (jT X N sc s H fp yr) tg g/\Qp (jT X N sc s H fp yr) ifs ti/\wW (jT X N sc s H fp yr) elt (⟨tg,iter,ifs,0⟩::gs) sc pos 0 tm)
  (B:∀x,foldedSetIterable iter X.env x=pure x:=by intro _;rfl):PS X (.Assign [.Name x p] (.ListComp elt (⟨tg,iter,ifs,0⟩::gs) sc pos) c) (XT (XI X.K wi g ti tm nl cap) (XM i)):=by
 intro pins s σ H D I h;rw[exec_Assign_Name_used _ _ _ _ w];refine cf (wpAny_standAt (cf ?_));show wpAny _ X.A (do let _ <- comprehension (.ListComp elt (⟨tg,iter,ifs,0⟩::gs) sc pos) sc X.env _ (newList []) false (eval iter X.env) (some (assign (.Name x p) X.env))) _ _ s
 refine cf (wpAny_mono (UZ (use:=some (assign (.Name x p) X.env)) (Q':=λ_ s'=>SP X pins D .next s') J S d M hw (λs H fp _ _=>n s H fp) I h (λu C s' H' m Z q hn h1 h2 T t Q=>?_) B) (λ_ s' E=>cg (cg E)) λ_ _ e=>e);show wpAny _ X.A (assign (.Name x p) X.env (.ref u)) _ _ _;refine wpAny_assign_Name (NA Z P j (.inl r) (v:=.ref u) rfl (λs2 Y ⟨a,y,U⟩=>?_) (.inr r));have l:C≠a:=by
  rcases U with e|e
  ·rw[e];exact h2
  ·exactλz=>t x a e z.symm
 refine⟨m,hn.sameBut y l,λh' f=>⟨_,H',Y.turned (t':=s2.toks) (λb o L e=>(f.2 b L).trans e) h1 h2 (.inr T) t Q,q⟩⟩
end
end L2
namespace Mi
open PySem PySem.Spec PyProof.Rows L2
inductive W where
 |non|bl (b:Bool)|int (i:Int)|str (x:Str)|tup (xs:List W)|ref (n:Nat)
 |clo (k:Nat) (xs:List W) (P:Obj->Addr->Obj->List V->Prop)
 |xc (x:Str)
 |fn (x:Str)
inductive O where
 |lst (xs:List W)|ro (xs:List W)|dct (kvs:List (Key×W))
 |td (kvs:List (List Int×W))
 |tr (kvs:List (List Int×W))
 |tab (q:Str) (P:Addr)
noncomputable def O.mut:O->Bool
 |.ro _=>false|.tr _=>false|_=>true
noncomputable abbrev Hx:=List O
noncomputable abbrev En:=List (Option W)
inductive R (α:Type) where
 |ok (a:α) (A:Hx)|exc (x:Str) (A:Hx)|bad
noncomputable def R.bind {β:Type}(r:R α)(f:α->Hx->R β):R β:=match r with
 |.ok a A=>f a A|.exc x A=>.exc x A|.bad=>.bad
def R.post (r:R α)(P:α->Hx->Prop)(E:Str->Hx->Prop):Prop:=match r with
 |.ok a A=>P a A|.exc x A=>E x A|.bad=>False
noncomputable def R.nox (r:R α):R α:=match r with
 |.ok a A=>.ok a A|.exc _ _=>.bad|.bad=>.bad
section
variable {β:Type}{r:R α}{f:α->Hx->R β}{P Q:α->Hx->Prop}{P':β->Hx->Prop}{E F:Str->Hx->Prop}
def zT {a:α}{A:Hx}:(R.ok a A).bind f=f a A:=rfl
def NW {A:Hx}:(R.exc x A:R α).bind f=.exc x A:=rfl
def qe:(r.bind f).post P' E↔r.post (λa A=>(f a A).post P' E) E:=by cases r<;>exact Iff.rfl
def qJ (h:r.post P E)(H:∀a A,P a A->Q a A)(b:∀x A,E x A->F x A):r.post Q F:=by
 cases r with
 |ok a A=>exact H _ _ h|exc x A=>exact b _ _ h|bad=>exact h
end
abbrev Ev:=En->Hx->R W
inductive zg3 (K:Frag)(H:Hp)(R:List V->Prop)(v:V):Prop
 |mk (a:Addr) (vs:List V) (e:v=.ref a) (h:qH K H a vs) (r:R vs)
inductive zgt (H:Hp)(P:Obj->Addr->Obj->List V->Prop)(R:List V->Prop)(v:V):Prop
 |mk (a:Addr) (ob:Obj) (u:HO) (c:Addr) (oc:Obj) (uc:HO) (vs:List V) (e:v=.ref a) (h1:H a=some (.frz ob u)) (h2:H c=some (.frz oc uc)) (p:P ob c oc vs) (r:R vs)
inductive zgX (R:V->Prop)(Rs:List V->Prop)(vs:List V):Prop
 |mk (v:V) (r:List V) (e:vs=v::r) (h:R v) (t:Rs r)
mutual
noncomputable def RV (K:Frag)(φ:bM)(H:Hp):W->V->Prop
 |.non,v=>v=.non|.bl b,v=>v=.bl b|.int i,v=>v=.int i|.str x,v=>v=.str x|.tup ws,v=>zg3 K H (zI K φ H ws) v|.ref n,v=>∃a,v=.ref a/\φ[n]? =some a|.clo _ ws P,v=>zgt H P (zI K φ H ws) v|.xc x,v=>∃a o u C,v=.ref a/\H a=some (.frz o u)/\o.cls=.ref C/\nsIn K mainGlobals x=some (some (.ref C))|.fn x,v=>∃a,v=.ref a/\nsIn K mainGlobals x=some (some (.ref a))
noncomputable def zI (K:Frag)(φ:bM)(H:Hp):List W->List V->Prop
 |[],vs=>vs=[]|w::ws,vs=>zgX (RV K φ H w) (zI K φ H ws) vs
end
structure Le (K:Frag)(φ:bM)(H:Hp)(φ':bM)(H':Hp):Prop where
 ex:∀(n:Nat)(a:Addr),φ[n]? =some a->φ'[n]? =some a
 tp:∀a vs,qH K H a vs->qH K H' a vs
 fr:∀a o,H a=some o->(∀n:Nat,φ[n]?≠some a)->H' a=some o
 nw:∀(n:Nat)(a:Addr),φ'[n]? =some a->φ[n]? =some a∨H a=none
 st:∀a,H' a=none->H a=none
 fz:∀a o u,H a=some (.frz o u)->H' a=some (.frz o u)
def Le.refl {K φ H}:Le K φ H φ H:=⟨λ_ _ h=>h,λ_ _ h=>h,λ_ _ h _=>h,λ_ _ h=>.inl h,λ_ h=>h,λ_ _ _ h=>h⟩
def Le.trans {K φ H φ1 H1 φ2 H2}(a:Le K φ H φ1 H1)(b:Le K φ1 H1 φ2 H2):Le K φ H φ2 H2 where
 ex:=λn x h=>b.ex n x (a.ex n x h)
 tp:=λn x h=>b.tp n x (a.tp n x h)
 fr:=λc o h n=>b.fr c o (a.fr c o h n) λk e=>by
  rcases a.nw k c e with e|e
  ·exact n k e
  ·rw[h]at e;cases e
 nw:=λn c e=>by
  rcases b.nw n c e with e|e
  ·exact a.nw n c e
  ·exact .inr (a.st c e)
 st:=λc e=>a.st c (b.st c e)
 fz:=λc o u h=>b.fz c o u (a.fz c o u h)
def Le.off {K φ H φ' H'}(l:Le K φ H φ' H')(h:H D=some o)(n:∀k:Nat,φ[k]?≠some D):H' D=some o/\∀k:Nat,φ'[k]?≠some D:=
 ⟨l.fr D o h n,λk e=>by
  rcases l.nw k D e with e|e
  ·exact n k e
  ·rw[h]at e;cases e⟩
section
variable {K:Frag}{φ':bM}{H':Hp}
structure QG (K:Frag)(φ:bM)(H:Hp)(φ':bM)(H':Hp):Prop where
 ex:∀(n:Nat)(a:Addr),φ[n]? =some a->φ'[n]? =some a
 tp:∀a vs,qH K H a vs->qH K H' a vs
 fz:∀a o u,H a=some (.frz o u)->H' a=some (.frz o u)
mutual
theorem RV.monoW (l:QG K φ H φ' H'):∀{w:W}{v:V},RV K φ H w v->RV K φ' H' w v
 |.non,_,h=>h|.bl _,_,h=>h|.int _,_,h=>h|.str _,_,h=>h|.tup ws,_,⟨a,vs,e,t,r⟩=>⟨a,vs,e,l.tp _ _ t,zI.monoW l r⟩|.ref n,_,⟨a,e,f⟩=>⟨a,e,l.ex _ _ f⟩|.clo _ ws P,_,⟨a,ob,u,c,b,uc,vs,e,h1,h2,d,r⟩=>⟨a,ob,u,c,b,uc,vs,e,l.fz _ _ _ h1,l.fz _ _ _ h2,d,zI.monoW l r⟩|.xc x,_,⟨a,o,u,C,e,h1,h2⟩=>⟨a,o,u,C,e,l.fz _ _ _ h1,h2⟩|.fn _,_,h=>h
theorem zI.monoW (l:QG K φ H φ' H'):∀{ws:List W}{vs:List V},zI K φ H ws vs->zI K φ' H' ws vs
 |[],_,h=>h|w::ws,_,⟨v,r,e,h,t⟩=>⟨v,r,e,RV.monoW l h,zI.monoW l t⟩
end
def RV.mono {w:W}(h:RV K φ H w v)(l:Le K φ H φ' H'):RV K φ' H' w v:=RV.monoW ⟨l.ex,l.tp,l.fz⟩ h
def zI.mono {w:List W}{v:List V}(h:zI K φ H w v)(l:Le K φ H φ' H'):zI K φ' H' w v:=zI.monoW ⟨l.ex,l.tp,l.fz⟩ h
structure yT (K:Frag)(D:Addr)(φ:bM)(H:Hp)(φ':bM)(H':Hp):Prop where
 ex:∀(n:Nat)(a:Addr),φ[n]? =some a->φ'[n]? =some a
 tp:∀a vs,qH K H a vs->qH K H' a vs
 fr:∀a o,a≠D->H a=some o->(∀n:Nat,φ[n]?≠some a)->H' a=some o
 nw:∀(n:Nat)(a:Addr),φ'[n]? =some a->φ[n]? =some a∨H a=none
 st:∀a,H' a=none->H a=none
 fz:∀a o u,H a=some (.frz o u)->H' a=some (.frz o u)
def yT.refl {D}:yT K D φ H φ H:=⟨λ_ _ h=>h,λ_ _ h=>h,λ_ _ _ h _=>h,λ_ _ h=>.inl h,λ_ h=>h,λ_ _ _ h=>h⟩
def Le.toD {D}(l:Le K φ H φ' H'):yT K D φ H φ' H':=⟨l.ex,l.tp,λa o _ h n=>l.fr a o h n,l.nw,l.st,l.fz⟩
def yT.trans {D φ1 H1 φ2 H2}(a:yT K D φ H φ1 H1)(b:yT K D φ1 H1 φ2 H2):yT K D φ H φ2 H2 where
 ex:=λn x h=>b.ex n x (a.ex n x h)
 tp:=λn x h=>b.tp n x (a.tp n x h)
 fr:=λc o ne h n=>b.fr c o ne (a.fr c o ne h n) λk e=>by
  rcases a.nw k c e with e|e
  ·exact n k e
  ·rw[h]at e;cases e
 nw:=λn c e=>by
  rcases b.nw n c e with e|e
  ·exact a.nw n c e
  ·exact .inr (a.st c e)
 st:=λc e=>a.st c (b.st c e)
 fz:=λc o u h=>b.fz c o u (a.fz c o u h)
def RV.monoD {D}{w:W}(h:RV K φ H w v)(l:yT K D φ H φ' H'):RV K φ' H' w v:=RV.monoW ⟨l.ex,l.tp,l.fz⟩ h
def zI.monoD {D}{w:List W}{v:List V}(h:zI K φ H w v)(l:yT K D φ H φ' H'):zI K φ' H' w v:=zI.monoW ⟨l.ex,l.tp,l.fz⟩ h
theorem zI.length:∀{ws:List W}{vs:List V},zI K φ H ws vs->ws.length=vs.length
 |[],_,h=>by cases h;rfl|w::ws,_,⟨v,r,e,_,t⟩=>by subst e;simp[zI.length t]
theorem zI.get:∀{ws:List W}{vs:List V}{i:Nat}{w:W},zI K φ H ws vs->ws[i]? =some w->∃v,vs[i]? =some v/\RV K φ H w v
 |[],_,_,_,_,e=>by simp at e|w::ws,_,0,_,⟨v,r,e,h,t⟩,q=>by subst e;simp at q;subst q;exact⟨v,by simp,h⟩|w::ws,_,i+1,x,⟨v,r,e,h,t⟩,q=>by
  subst e;obtain⟨y,h1,h2⟩:=zI.get (i:=i) (w:=x) t (by simpa using q)
  exact⟨y,by simpa using h1,h2⟩
theorem zI.append:∀{ws us:List W}{vs xs:List V},zI K φ H ws vs->zI K φ H us xs->zI K φ H (ws++us) (vs++xs)
 |[],_,_,_,h,t=>by cases h;exact t|w::ws,_,_,_,⟨v,r,e,h,t⟩,T=>by subst e;exact⟨v,r++_,rfl,h,zI.append t T⟩
def zI.one {w:W}(h:RV K φ H w v):zI K φ H [w] [v]:=⟨v,[],rfl,h,rfl⟩
def zI.nil:zI K φ H [] []:=rfl
def zI.cons {w:W}{v:V}{ws:List W}{vs:List V}(h:RV K φ H w v)(t:zI K φ H ws vs):zI K φ H (w::ws) (v::vs):=⟨v,vs,rfl,h,t⟩
theorem zI.set {w:W}(q:RV K φ H w v):∀{ws:List W}{vs:List V}(i:Nat),zI K φ H ws vs->zI K φ H (ws.set i w) (vs.set i v)
 |[],_,_,h=>by cases h;exact rfl|_::_,_,0,⟨a,r,e,h,t⟩=>by subst e;exact⟨v,r,rfl,q,t⟩|_::_,_,i+1,⟨a,r,e,h,t⟩=>by subst e;exact⟨a,_,rfl,h,zI.set q i t⟩
theorem zI.drop:∀{ws:List W}{vs:List V}(n:Nat),zI K φ H ws vs->zI K φ H (ws.drop n) (vs.drop n)
 |[],_,n,h=>by cases h;rw[List.drop_nil,List.drop_nil];exact zI.nil|_::_,_,0,h=>by simpa using h|_::_,_,n+1,⟨v,r,e,h,t⟩=>by subst e;simpa using zI.drop n t
theorem zI.take:∀{ws:List W}{vs:List V}(n:Nat),zI K φ H ws vs->zI K φ H (ws.take n) (vs.take n)
 |[],_,n,h=>by cases h;rw[List.take_nil,List.take_nil];exact zI.nil|_::_,_,0,h=>by rw[take_zero,take_zero];exact zI.nil|_::_,_,n+1,⟨v,r,e,h,t⟩=>by subst e;exact⟨v,_,rfl,h,zI.take n t⟩
theorem zI.erase:∀{ws:List W}{vs:List V}(n:Nat),zI K φ H ws vs->zI K φ H (ws.eraseIdx n) (vs.eraseIdx n)
 |[],_,n,h=>by cases h;rw[List.eraseIdx_nil,List.eraseIdx_nil];exact zI.nil|_::_,_,0,⟨v,r,e,h,t⟩=>by subst e;simpa using t|_::_,_,n+1,⟨v,r,e,h,t⟩=>by subst e;exact⟨v,_,rfl,h,zI.erase n t⟩
theorem zI.ints:∀{ns:bK}{vs:List V},zI K φ H (ns.map W.int) vs↔vs=ns.map V.int
 |[],vs=>Iff.rfl|n::ns,vs=>by
  constructor
  ·rintro⟨v,r,e,h,t⟩
   rw[e,(show v=V.int n from h),zI.ints.mp t];rfl
  ·intro e
   exact⟨V.int n,ns.map V.int,e,rfl,zI.ints.mpr rfl⟩
def Y0 (K:Frag)(H:Hp)(a:Addr)(xs:List V):Prop:=
 (∃ob,H a=some (.frz ob (.lst xs)))∨
  ∃(o:Obj) (its:Array Value) (n:Nat),K.lookup a=some o/\o.cls=.type "list" /\ o.dict=none/\o.data=.seq its n/\its.size<=sizeLine/\Vals xs its.toList
def Y0.sq (h:Y0 K H a xs):je K H a xs:=by
 rcases h with h|h
 ·exact .inl (.inr h)
 ·exact .inr h
inductive TabAt (H:Hp)(q:Str)(cv:Value):Prop
 |mk (c:Addr) (oc:Obj) (u:HO) (vs:Array Value) (t:Tok) (e:cv=.ref c) (h:H c=some (.frz oc u)) (d:oc.data=.fields vs/\vs[1]? =some (.str q t))
def WH (H:Hp)(q:Str)(ps:Array Value):Prop:=TriplesOk ps.toList/\∀pos cv,codeAmong pos ps.toList=some cv->TabAt H q cv
def WH.mono {q:Str}{ps:Array Value}(h:WH H q ps)(l:∀a o u,H a=some (.frz o u)->H' a=some (.frz o u)):WH H' q ps:=
 ⟨h.1,λpos cv e=>by obtain⟨c,b,u,vs,t,h1,h2,d⟩:=h.2 pos cv e;exact⟨c,b,u,vs,t,h1,l _ _ _ h2,d⟩⟩
noncomputable def hT (ks:bK):Int:=reduceHash (Builtin.Tuple.tupleHashOf (ks.map hashInt))
def fw (a:Addr)(xs:List (List Int×Addr×V))(h:Heap):Prop:=(a==sysModules)=false/\xs.length<=sizeLine/\∃zs:List (List Int×Addr×Value),
 Paired (λ(p:List Int×Addr×V) (q:List Int×Addr×Value)=>p.1=q.1/\p.2.1=q.2.1/\RelV p.2.2 q.2.2) xs zs/\
 ∃o e E,h.get? a=some o/\o.ExactDict/\o.data=.dict e E/\e.toList=zs.map (λx=>(⟨hT x.1,.ref x.2.1,x.2.2⟩:DictEntry))/\(zs.map (·.1)).Nodup
def fy (a:Addr)(xs:List (List Int×Addr×V))(o:Obj):Prop:=(a==sysModules)=false/\xs.length<=sizeLine/\∃zs:List (List Int×Addr×Value),
 Paired (λ(p:List Int×Addr×V) (q:List Int×Addr×Value)=>p.1=q.1/\p.2.1=q.2.1/\RelV p.2.2 q.2.2) xs zs/\
 ∃e E,o.ExactDict/\o.data=.dict e E/\e.toList=zs.map (λx=>(⟨hT x.1,.ref x.2.1,x.2.2⟩:DictEntry))/\(zs.map (·.1)).Nodup
def OR (K:Frag)(φ:bM)(H:Hp)(a:Addr):O->Prop
 |.lst ws=>∃vs,H a=some (.lst vs)/\zI K φ H ws vs|.ro ws=>∃vs,Y0 K H a vs/\zI K φ H ws vs|.dct kvs=>∃us,H a=some (.dK us)/\us.map (·.1)=kvs.map (·.1)/\zI K φ H (kvs.map (·.2)) (us.map (·.2))|.td kvs=>∃xs:List (List Int×Addr×V),H a=some (.ext (fw a xs))/\xs.map (·.1)=kvs.map (·.1)/\(∀x∈xs,qH K H x.2.1 (x.1.map V.int))/\zI K φ H (kvs.map (·.2)) (xs.map (·.2.2))|.tr kvs=>∃(ob:Obj) (u:HO) (xs:List (List Int×Addr×V)),H a=some (.frz ob u)/\fy a xs ob/\xs.map (·.1)=kvs.map (·.1)/\(∀x∈xs,qH K H x.2.1 (x.1.map V.int))/\zI K φ H (kvs.map (·.2)) (xs.map (·.2.2))|.tab q P=>a=P/\∃ps,H a=some (.tbl ps)/\WH H q ps
structure zQ (K:Frag)(φ:bM)(A:Hx)(H:Hp):Prop where
 len:φ.length=A.length
 inj:∀(i j:Nat)(a:Addr)(o o':O),φ[i]? =some a->φ[j]? =some a->A[i]? =some o->A[j]? =some o'->o.mut=true->o'.mut=true->i=j
 ob:∀(n:Nat)(o:O),A[n]? =some o->∃a,φ[n]? =some a/\OR K φ H a o
variable {A:Hx}
def OR.there {o:O}(h:OR K φ H a o)(m:o.mut=true):∃u,H a=some u/\(∀xs,u≠.tup xs)/\(∀ob v,u≠.frz ob v):=by
 cases o with
 |lst ws=>obtain⟨vs,e,_⟩:=h;exact⟨_,e,λ_ z=>(by cases z),λ_ _ z=>(by cases z)⟩|ro ws=>cases m|dct kvs=>obtain⟨vs,e,_⟩:=h;exact⟨_,e,λ_ z=>(by cases z),λ_ _ z=>(by cases z)⟩|td kvs=>obtain⟨vs,e,_⟩:=h;exact⟨_,e,λ_ z=>(by cases z),λ_ _ z=>(by cases z)⟩|tr _=>cases m|tab q P=>obtain⟨_,vs,e,_⟩:=h;exact⟨_,e,λ_ z=>(by cases z),λ_ _ z=>(by cases z)⟩
def Xa (h:qH K H a vs)(n:∀xs,H b≠some (.tup xs))(N:∀ob u,H b≠some (.frz ob u)):qH K (upd H b o) a vs:=by
 rcases h with (h|⟨ob,h⟩)|h
 ·exact .inl (.inl (by rw[qz];exact h;intro e;subst e;exact n _ h))
 ·exact .inl (.inr ⟨ob,by rw[qz];exact h;intro e;subst e;exact N _ _ h⟩)
 ·exact .inr h
theorem Le.upd {k:Nat}(c:φ[k]? =some b)(n:∀xs,H b≠some (.tup xs))(N:∀ob u,H b≠some (.frz ob u)):Le K φ H φ (upd H b o) where
 ex:=λ_ _ h=>h
 tp:=λ_ _ h=>Xa h n N
 fr:=λa u h z=>by
  rw[qz];exact h;intro e;subst e;exact z k c
 nw:=λ_ _ h=>.inl h
 st:=λa h=>by
  by_cases e:a=b
  ·subst e;rw[j5]at h;cases h
  ·rw[qz e]at h;exact h
 fz:=λa ob u h=>by
  rw[qz];exact h;intro e;subst e;exact N _ _ h
def Le.new {p:Addr}(b:H p=none):Le K φ H φ (L2.upd H p o) where
 ex:=λ_ _ h=>h
 tp:=λ_ _ h=>Xa h (λxs z=>by rw[b]at z;cases z) (λ_ _ z=>by rw[b]at z;cases z)
 fr:=λa u h z=>by
  rw[qz];exact h;intro e;subst e;rw[b]at h;cases h
 nw:=λ_ _ h=>.inl h
 st:=λa h=>by
  by_cases e:a=p
  ·subst e;rw[j5]at h;cases h
  ·rw[qz e]at h;exact h
 fz:=λa ob u h=>by
  rw[qz];exact h;intro e;subst e;rw[b]at h;cases h
def Le.alloc {p:Addr}(b:H p=none):Le K φ H (φ++[p]) (L2.upd H p o) where
 ex:=λn a h=>by
  have:=(ck.mp h).1
  rw[ag this];exact h
 tp:=(Le.new (φ:=φ) b).tp
 fr:=(Le.new (K:=K) (φ:=φ) b).fr
 nw:=λn a h=>by
  by_cases hn:n < φ.length
  ·rw[ag hn]at h;exact .inl h
  ·rw[ar (by omega)]at h
   have e:a=p:=by
    have:=bg h
    simpa using this
   subst e;exact .inr b
 st:=(Le.new (K:=K) (φ:=φ) b).st
 fz:=(Le.new (K:=K) (φ:=φ) b).fz
def Le.ofD (b:H D=none)(l:yT K D φ (L2.upd H D o) φ' H'):Le K φ H φ' H' where
 ex:=l.ex
 tp:=λa vs h=>l.tp a vs ((Le.new (K:=K) (φ:=φ) b).tp a vs h)
 fr:=λa u h n=>by
  have ne:a≠D:=by rintro rfl;rw[b]at h;cases h
  exact l.fr a u ne (by rw[qz ne];exact h) n
 nw:=λn a e=>by
  rcases l.nw n a e with e|e
  ·exact .inl e
  ·by_cases h:a=D
   ·subst h;rw[j5]at e;cases e
   ·rw[qz h]at e;exact .inr e
 st:=λa e=>by
  have E:=l.st a e
  by_cases h:a=D
  ·subst h;rw[j5]at E;cases E
  ·rw[qz h]at E;exact E
 fz:=λa ob u h=>l.fz a ob u (by rw[qz];exact h;rintro rfl;rw[b]at h;cases h)
theorem yT.upd (b:H D=some (.lst xs)):yT K D φ H φ (L2.upd H D o) where
 ex:=λ_ _ h=>h
 tp:=λa vs h=>Xa h (λxs z=>by rw[b]at z;cases z) (λ_ _ z=>by rw[b]at z;cases z)
 fr:=λa u ne h n=>by rw[qz ne];exact h
 nw:=λ_ _ h=>.inl h
 st:=λa e=>by
  by_cases h:a=D
  ·subst h;rw[j5]at e;cases e
  ·rw[qz h]at e;exact e
 fz:=λa ob u h=>by
  rw[qz];exact h;intro e;subst e;rw[b]at h;cases h
def OR.keep {o:O}(h:OR K φ H a o)(l:Le K φ H φ' H')(e:∀u,H a=some u->H' a=some u):OR K φ' H' a o:=by
 cases o with
 |lst ws=>obtain⟨vs,q,r⟩:=h;exact⟨vs,e _ q,r.mono l⟩|dct kvs=>obtain⟨vs,q,k,r⟩:=h;exact⟨vs,e _ q,k,r.mono l⟩|td kvs=>obtain⟨vs,q,k,t,r⟩:=h;exact⟨vs,e _ q,k,λx b=>l.tp _ _ (t x b),r.mono l⟩|tr kvs=>obtain⟨ob,u,vs,q,d,k,t,r⟩:=h;exact⟨ob,u,vs,e _ q,d,k,λx b=>l.tp _ _ (t x b),r.mono l⟩|tab q P=>obtain⟨k,ps,q,r⟩:=h;exact⟨k,ps,e _ q,r.mono l.fz⟩|ro ws=>
  obtain⟨vs,q,r⟩:=h;refine⟨vs,?_,r.mono l⟩;rcases q with ⟨ob,q⟩|q
  ·exact .inl ⟨ob,e _ q⟩
  ·exact .inr q
theorem zQ.alloc {p:Addr}{u:HO}{o:O}(S:zQ K φ A H)(g:H p=none)(new:OR K (φ++[p]) (L2.upd H p u) p o):Le K φ H (φ++[p]) (L2.upd H p u)/\zQ K (φ++[p]) (A++[o]) (L2.upd H p u):=by
 have l:Le K φ H (φ++[p]) (L2.upd H p u):=Le.alloc g;have old:∀(i:Nat) a,(φ++[p])[i]? =some a->i<A.length->φ[i]? =some a:=λi a e b=>by
  rw[ag (by rw[S.len];exact b)]at e;exact e
 refine⟨l,by simp[S.len],λi j a w v h1 h2 f c m1 m2=>?_,λn o' e=>?_⟩
 ·by_cases b:i<A.length
  ·by_cases d:j<A.length
   ·rw[ag b]at f
    rw[ag d]at c;exact S.inj i j a w v (old i a h1 b) (old j a h2 d) f c m1 m2
   ·exfalso
    rw[ag b]at f;have s:j=A.length:=by have:=(ck.mp c).1;simp at this;omega
    subst s;rw[ar (by rw[S.len];exact aq _),S.len]at h2
    simp at h2;obtain⟨y,E,q⟩:=S.ob i w f;rw[old i a h1 b]at E;cases E;obtain⟨z,h,_⟩:=q.there m1;rw[<- h2,g]at h;cases h
  ·have t:i=A.length:=by have:=(ck.mp f).1;simp at this;omega
   by_cases d:j<A.length
   ·exfalso
    rw[ag d]at c;subst t;rw[ar (by rw[S.len];exact aq _),S.len]at h1
    simp at h1;obtain⟨y,E,q⟩:=S.ob j v c;rw[old j a h2 d]at E;cases E;obtain⟨z,h,_⟩:=q.there m2;rw[<- h1,g]at h;cases h
   ·have:=(ck.mp c).1;simp at this;omega
 ·by_cases hn:n<A.length
  ·rw[ag hn]at e
   obtain⟨a,E,q⟩:=S.ob n o' e;refine⟨a,l.ex _ _ E,q.keep l λz h=>?_⟩;rw[qz];exact h;intro x;subst x;rw[g]at h;cases h
  ·have r:n=A.length:=by have:=(ck.mp e).1;simp at this;omega
   subst r;rw[ar (aq _)]at e;simp at e;subst e;exact⟨p,by rw[ar (by rw[S.len];exact aq _),S.len];simp,new⟩
def zQ.write {p:Addr}{u:HO}{o o':O}(S:zQ K φ A H)(hn:A[n]? =some o)(m:o.mut=true)(T:o'.mut=true)(c:φ[n]? =some p)(new:OR K φ (L2.upd H p u) p o'):
  Le K φ H φ (L2.upd H p u)/\zQ K φ (A.set n o') (L2.upd H p u):=by
 obtain⟨Q,e,q⟩:=S.ob n o hn;rw[c]at e;cases e;obtain⟨z,h,D,N⟩:=q.there m;have l:Le K φ H φ (L2.upd H p u):=Le.upd c (λxs e=>by rw[h]at e;exact D xs (aF e)) λob v e=>by rw[h]at e;exact N ob v (aF e)
 have mt:∀(i:Nat)(w:O),(A.set n o')[i]? =some w->w.mut=true->∃f,A[i]? =some f/\f.mut=true:=λi w e M=>by
  by_cases hi:i=n
  ·subst hi;exact⟨o,hn,m⟩
  ·rw[az (Ne.symm hi)]at e;exact⟨w,e,M⟩
 refine⟨l,by simp[S.len],λi j a C B h1 h2 L J m1 m2=>?_,λi w e=>?_⟩
 ·obtain⟨s,E,k1⟩:=mt i C L m1
  obtain⟨g,P,k2⟩:=mt j B J m2;exact S.inj i j a s g h1 h2 E P k1 k2
 ·by_cases hi:i=n
  ·subst hi
   have:i<A.length:=(ck.mp hn).1
   rw[aC this]at e;cases e;exact⟨p,c,new⟩
  ·rw[az (Ne.symm hi)]at e
   obtain⟨a,E,r⟩:=S.ob i w e;refine⟨a,E,?_⟩
   by_cases hm:w.mut=true
   ·have ne:a≠p:=λz=>hi (S.inj i n a w o E (by rw[z];exact c) e hn hm m)
    exact r.keep l λz h=>by rw[qz ne];exact h
   ·cases w with
    |lst _=>exact absurd rfl hm|dct _=>exact absurd rfl hm|td _=>exact absurd rfl hm|tr _=>obtain⟨ob,u,vs,q,d,k,t,r⟩:=r;exact⟨ob,u,vs,l.fz _ _ _ q,d,k,λx I=>l.tp _ _ (t x I),r.mono l⟩|tab _ _=>exact absurd rfl hm|ro ws=>
     obtain⟨vs,b,y⟩:=r;refine⟨vs,?_,y.mono l⟩;rcases b with ⟨ob,b⟩|b
     ·refine .inl ⟨ob,?_⟩
      rw[qz];exact b;intro z;subst z;rw[h]at b;exact N _ _ (aF b)
     ·exact .inr b
def zQ.lay {p:Addr}{u:HO}(S:zQ K φ A H)(b:H p=none):zQ K φ A (L2.upd H p u):=
 ⟨S.len,S.inj,λn o e=>by
  obtain⟨a,c,q⟩:=S.ob n o e;refine⟨a,c,q.keep (Le.new b) λz h=>?_⟩;rw[qz];exact h;intro E;subst E;rw[b]at h;cases h⟩
def zQ.off (S:zQ K φ A H)(b:H D=some (.lst xs))(n:∀k:Nat,φ[k]?≠some D):zQ K φ A (L2.upd H D o):=
 ⟨S.len,S.inj,λk u e=>by
  obtain⟨a,E,q⟩:=S.ob k u e;have ne:a≠D:=λz=>n k (by rw[<- z];exact E)
  have l:yT K D φ H φ (L2.upd H D o):=yT.upd b;refine⟨a,E,?_⟩;cases u with
  |lst ws=>obtain⟨vs,q,r⟩:=q;exact⟨vs,by rw[qz ne];exact q,r.monoD l⟩|dct kvs=>obtain⟨vs,q,k,r⟩:=q;exact⟨vs,by rw[qz ne];exact q,k,r.monoD l⟩|td kvs=>obtain⟨vs,q,k,t,r⟩:=q;exact⟨vs,by rw[qz ne];exact q,k,λx h=>l.tp _ _ (t x h),r.monoD l⟩|tr kvs=>obtain⟨ob,u,vs,q,d,k,t,r⟩:=q;exact⟨ob,u,vs,l.fz _ _ _ q,d,k,λx h=>l.tp _ _ (t x h),r.monoD l⟩|tab _ _=>obtain⟨k,vs,q,r⟩:=q;exact⟨k,vs,by rw[qz ne];exact q,r.mono l.fz⟩|ro ws=>
   obtain⟨vs,q,r⟩:=q;refine⟨vs,?_,r.monoD l⟩;rcases q with ⟨ob,q⟩|q
   ·exact .inl ⟨ob,by rw[qz ne];exact q⟩
   ·exact .inr q⟩
def zQ.notin (S:zQ K φ A H)(h:H D=none)(c:K.lookup D=none):∀k:Nat,φ[k]?≠some D:=λk e=>by
 have b:k<A.length:=by rw[<- S.len];exact(ck.mp e).1
 obtain⟨a,E,q⟩:=S.ob k A[k] (by simp[b])
 rw[e]at E;cases E;cases ho:A[k] with
 |lst ws=>rw[ho]at q;obtain⟨vs,z,_⟩:=q;rw[h]at z;cases z|dct ws=>rw[ho]at q;obtain⟨vs,z,_⟩:=q;rw[h]at z;cases z|td _=>rw[ho]at q;obtain⟨vs,z,_⟩:=q;rw[h]at z;cases z|tr _=>rw[ho]at q;obtain⟨_,_,_,z,_⟩:=q;rw[h]at z;cases z|tab _ _=>rw[ho]at q;obtain⟨_,vs,z,_⟩:=q;rw[h]at z;cases z|ro ws=>
  rw[ho]at q;obtain⟨vs,z,_⟩:=q;rcases z with ⟨ob,z⟩|⟨o,i,n,z,_⟩
  ·rw[h]at z;cases z
  ·rw[c]at z;cases z
def zQ.YD {u:HO}{o:O}(S:zQ K φ A H)(C:H D=some u)(n:∀k:Nat,φ[k]?≠some D)(new:OR K (φ++[D]) H D o):zQ K (φ++[D]) (A++[o]) H:=by
 have l:QG K φ H (φ++[D]) H:=⟨λn a h=>by
  have:=(ck.mp h).1
  rw[ag this];exact h,λ_ _ h=>h,λ_ _ _ h=>h⟩
 have old:∀(i:Nat) a,(φ++[D])[i]? =some a->i<A.length->φ[i]? =some a:=λi a e b=>by
  rw[ag (by rw[S.len];exact b)]at e;exact e
 have last:∀a,(φ++[D])[A.length]? =some a->a=D:=λa e=>by
  rw[ar (by rw[S.len];exact aq _),S.len]at e
  simpa using e.symm
 refine⟨by simp[S.len],λi j a B y h1 h2 w f m1 m2=>?_,λk o' e=>?_⟩
 ·by_cases b:i<A.length
  ·by_cases c:j<A.length
   ·rw[ag b]at w
    rw[ag c]at f;exact S.inj i j a B y (old i a h1 b) (old j a h2 c) w f m1 m2
   ·exfalso
    have s:j=A.length:=by have:=(ck.mp f).1;simp at this;omega
    subst s;exact n i (by rw[<- last a h2];exact old i a h1 b)
  ·have v:i=A.length:=by have:=(ck.mp w).1;simp at this;omega
   by_cases c:j<A.length
   ·exfalso
    subst v;exact n j (by rw[<- last a h1];exact old j a h2 c)
   ·have:=(ck.mp f).1;simp at this;omega
 ·by_cases hn:k<A.length
  ·rw[ag hn]at e
   obtain⟨a,E,q⟩:=S.ob k o' e;refine⟨a,l.ex _ _ E,?_⟩;cases o' with
   |lst ws=>obtain⟨vs,z,r⟩:=q;exact⟨vs,z,r.monoW l⟩|dct ws=>obtain⟨vs,z,Z,r⟩:=q;exact⟨vs,z,Z,r.monoW l⟩|td _=>obtain⟨vs,z,Z,t,r⟩:=q;exact⟨vs,z,Z,λx g=>l.tp _ _ (t x g),r.monoW l⟩|tr _=>obtain⟨ob,u,vs,z,d,Z,t,r⟩:=q;exact⟨ob,u,vs,z,d,Z,λx g=>l.tp _ _ (t x g),r.monoW l⟩|tab _ _=>exact q|ro ws=>obtain⟨vs,z,r⟩:=q;exact⟨vs,z,r.monoW l⟩
  ·have p:k=A.length:=by have:=(ck.mp e).1;simp at this;omega
   subst p;rw[ar (aq _)]at e;simp at e;subst e;exact⟨D,by rw[ar (by rw[S.len];exact aq _),S.len];simp,new⟩
def Le.YD {b:bM}{H0:Hp}(l:Le K b H0 φ H)(h0:H0 D=none):Le K b H0 (φ++[D]) H where
 ex:=λn a h=>by
  have h':=l.ex n a h
  have:=(ck.mp h').1
  rw[ag this];exact h'
 tp:=l.tp
 fr:=l.fr
 nw:=λn a e=>by
  by_cases hn:n < φ.length
  ·rw[ag hn]at e;exact l.nw n a e
  ·rw[ar (by omega)]at e
   have E:a=D:=by
    have:=bg e
    simpa using this
   subst E;exact .inr h0
 st:=l.st
 fz:=l.fz
end
noncomputable abbrev St:=L2.St
abbrev XR:=Str->Hp->Prop
def PB (K:Frag)(φ:bM)(H:Hp)(Q:VK):W->Hx->Prop:=λw A=>∀a h v,Le K φ H a h->zQ K a A h->RV K a h w v->Q v h
def fA (K:Frag)(φ:bM)(H:Hp)(Q:List V->Hp->Prop):List W->Hx->Prop:=λw A=>∀a h v,Le K φ H a h->zQ K a A h->zI K a h w v->Q v h
noncomputable def EB (K:Frag)(φ:bM)(H:Hp)(X:XR):Str->Hx->Prop:=λx A=>∀a h,Le K φ H a h->zQ K a A h->X x h
structure RE (K:Frag)(φ:bM)(H:Hp)(ρ:En)(σ:St):Prop where
 len:σ.length=ρ.length
 get:∀(i:Nat)(w:W),ρ[i]? =some (some w)->∃v,σ[i]? =some (some v)/\RV K φ H w v
section
variable {K:Frag}{φ1 φ':bM}{H1 H':Hp}{A:Hx}{ρ:En}{xr:XR}
theorem RE.mono (r:RE K φ H ρ σ)(l:Le K φ H φ' H'):RE K φ' H' ρ σ:=⟨r.len,λi w e=>let ⟨v,h1,h2⟩:=r.get i w e;⟨v,h1,h2.mono l⟩⟩
def PB.mono {Q:VK}{w:W}(h:PB K φ H Q w A)(l:Le K φ H φ1 H1):PB K φ1 H1 Q w A:=λa b v L=>h a b v (l.trans L)
def EB.mono (h:EB K φ H xr x A)(l:Le K φ H φ1 H1):EB K φ1 H1 xr x A:=λa b L=>h a b (l.trans L)
theorem RE.set {w:W}(r:RE K φ H ρ σ)(q:RV K φ H w v):RE K φ H (ρ.set i (some w)) (σ.set i (some v)):=
 ⟨by simp[r.len],λj u e=>by
  by_cases h:i=j
  ·subst h
   have a:i < ρ.length:=by
    have:=(ck.mp e).1
    simpa using this
   rw[aC a]at e;cases e;exact⟨v,by rw[aC (by rw[r.len];exact a)],q⟩
  ·rw[az h]at e
   obtain⟨x,h1,h2⟩:=r.get j u e;exact⟨x,by rw[az h];exact h1,h2⟩⟩
end
inductive MM (K:Frag)(xr:XR)(m:Ev)(σ:St)(H:Hp)(Q:VK):Prop
 |mk (φ:bM) (A:Hx) (ρ:En) (S:zQ K φ A H) (re:RE K φ H ρ σ) (h:(m ρ A).post (PB K φ H Q) (EB K φ H xr))
noncomputable def tM (K:Frag)(x:XR)(m:Ev):TE:=λσ H Q=>MM K x m σ H Q
inductive MT (K:Frag)(xr:XR)(m:Ev)(σ:St)(H:Hp)(Q:Bool->Hp->Prop):Prop
 |mk (φ:bM) (A:Hx) (ρ:En) (S:zQ K φ A H) (re:RE K φ H ρ σ) (h:(m ρ A).post (λw A'=>∃b,w=.bl b/\∀φ' H',Le K φ H φ' H'->zQ K φ' A' H'->Q b H') (EB K φ H xr))
noncomputable def tT (K:Frag)(x:XR)(m:Ev):TT:=λσ H Q=>MT K x m σ H Q
abbrev Ea:=En->Hx->R (List W)
inductive MA (K:Frag)(xr:XR)(m:Ea)(σ:St)(H:Hp)(Q:List V->Hp->Prop):Prop
 |mk (φ:bM) (A:Hx) (ρ:En) (S:zQ K φ A H) (re:RE K φ H ρ σ) (h:(m ρ A).post (fA K φ H Q) (EB K φ H xr))
noncomputable def Vs (K:Frag)(x:XR)(m:Ea):TA:=λσ H Q=>MA K x m σ H Q
def SE (X:Cx)(x:XR)(e:Expr)(m:Ev):Prop:=PE X e (tM X.K x m)
def ST (X:Cx)(x:XR)(e:Expr)(m:Ev):Prop:=PT X e (tT X.K x m)
def SW (X:Cx)(x:XR)(e:Expr)(m:Ev):Prop:=PW X e (tT X.K x m)
def SA (X:Cx)(x:XR)(e:bU)(m:Ea):Prop:=PA X e (Vs X.K x m)
section
variable {xr:XR}{a b:Expr}{m ma mb mc:Ev}
def PE.imp {t t':TE}(h:PE X e t)(i:∀σ H Q,t' σ H Q->t σ H Q):PE X e t':=λpins s σ H Q I hw=>h pins s σ H Q I (i σ H Q hw)
def PT.imp {t t':TT}(h:PT X e t)(i:∀σ H Q,t' σ H Q->t σ H Q):PT X e t':=λpins s σ H Q I hw=>h pins s σ H Q I (i σ H Q hw)
def PW.imp {t t':TT}(h:PW X e t)(i:∀σ H Q,t' σ H Q->t σ H Q):PW X e t':=λw pins s σ H Q I hw=>h w pins s σ H Q I (i σ H Q hw)
def PA.imp {t t':TA}(h:PA X es t)(i:∀σ H Q,t' σ H Q->t σ H Q):PA X es t':=λp pins s σ H Q I hw=>h p pins s σ H Q I (i σ H Q hw)
def tM.go {K:Frag}{A:Hx}{ρ:En}{Q:VK}{G:W->Hx->Prop}(S:zQ K φ A H)(r:RE K φ H ρ σ)(h:(m ρ A).post G (EB K φ H xr))
  (k:∀w A1 a H1 v,G w A1->Le K φ H a H1->zQ K a A1 H1->RV K a H1 w v->Q v H1):tM K xr m σ H Q:=
 ⟨φ,A,ρ,S,r,qJ h (λw A1 g a H1 v l s q=>k w A1 a H1 v g l s q) λ_ _ z=>z⟩
def Vs.go {K:Frag}{A:Hx}{ρ:En}{m:Ea}{Q:List V->Hp->Prop}{G:List W->Hx->Prop}(S:zQ K φ A H)(r:RE K φ H ρ σ)(h:(m ρ A).post G (EB K φ H xr))
  (k:∀w A1 a H1 v,G w A1->Le K φ H a H1->zQ K a A1 H1->zI K a H1 w v->Q v H1):Vs K xr m σ H Q:=
 ⟨φ,A,ρ,S,r,qJ h (λw A1 g a H1 v l s q=>k w A1 a H1 v g l s q) λ_ _ z=>z⟩
def tT.go {K:Frag}{A:Hx}{ρ:En}{Q:Bool->Hp->Prop}{G:W->Hx->Prop}(S:zQ K φ A H)(r:RE K φ H ρ σ)(h:(m ρ A).post G (EB K φ H xr))
  (k:∀w A1,G w A1->∃b,w=.bl b/\∀a H1,Le K φ H a H1->zQ K a A1 H1->Q b H1):tT K xr m σ H Q:=
 ⟨φ,A,ρ,S,r,qJ h (λw A1 g=>k w A1 g) λ_ _ z=>z⟩
noncomputable def qh (i:Nat):Ev:=λρ A=>match ρ[i]? with
 |some (some w)=>.ok w A|_=>.bad
noncomputable def zW (w:W):Ev:=λ_ A=>.ok w A
noncomputable def zi (g:W->W->Hx->R W)(a b:Ev):Ev:=λρ A=>(a ρ A).bind λx A1=>(b ρ A1).bind λy A2=>g x y A2
noncomputable def yw (g:W->Hx->R W)(a:Ev):Ev:=λρ A=>(a ρ A).bind λx A1=>g x A1
noncomputable abbrev Zq:Str->Hx->Prop:=λ_ _=>False
def yt (K:Frag)(r:R2)(g:W->W->Hx->R W):Prop:=∀φ A H x y u v Q,zQ K φ A H->RV K φ H u x->RV K φ H v y->(g u v A).post (PB K φ H Q) Zq->r x y H Q
def Vq (K:Frag)(r:V->Hp->VK->Prop)(g:W->Hx->R W):Prop:=∀φ A H x u Q,zQ K φ A H->RV K φ H u x->(g u A).post (PB K φ H Q) Zq->r x H Q
def jg (r:R α):Prop:=∀x A,r≠.exc x A
def Yi {r:R α}{P:α->Hx->Prop}{E:Str->Hx->Prop}(n:jg r)(h:r.post P E):r.post P Zq:=by
 cases r with
 |ok a A=>exact h|exc x A=>exact absurd rfl (n x A)|bad=>exact h
def zi.read {g:W->W->Hx->R W}{r:R2}(hn:∀x y A,jg (g x y A))(e:yt X.K r g):∀σ H Q,tM X.K xr (zi g ma mb) σ H Q->WX r (tM X.K xr ma) (tM X.K xr mb) σ H Q:=by
 rintro σ H Q ⟨φ,A,ρ,S,re,h⟩
 refine tM.go S re (qe.mp h) λw A1 b H1 v h1 l f d=>?_;refine tM.go f (re.mono l) (qJ (qe.mp h1) (λ_ _ z=>z) λ_ _ z=>z.mono l) λc A2 a i v2 h2 L s q=>?_;exact e a A2 i v v2 w c Q s (d.mono L) q (qJ (Yi (hn _ _ _) h2) (λ_ _ z=>z.mono (l.trans L)) λ_ _ z=>z)
def yw.read {g:W->Hx->R W}{r:V->Hp->VK->Prop}(hn:∀x A,jg (g x A))(b:Vq X.K r g):∀σ H Q,tM X.K xr (yw g ma) σ H Q->HM r (tM X.K xr ma) σ H Q:=by
 rintro σ H Q ⟨φ,A,ρ,S,re,h⟩
 refine tM.go S re (qe.mp h) λw A1 a H1 v h1 l s q=>?_;exact b a A1 H1 v w Q s q (qJ (Yi (hn _ _) h1) (λ_ _ z=>z.mono l) λ_ _ z=>z)
def Zd {op:Operator}{r:R2}{g:W->W->Hx->R W}(ho:qU X (binaryOp op) r)(hn:∀x y A,jg (g x y A))(h:yt X.K r g)(c:SE X xr a ma)(H:SE X xr b mb):SE X xr (.BinOp a op b pos) (zi g ma mb):=
 PE.imp (dC ho c H) (zi.read hn h)
def fC {op:UnaryOp}{r:V->Hp->VK->Prop}{g:W->Hx->R W}(ho:Vk X (unaryOp op) r)(hn:∀x A,jg (g x A))(h:Vq X.K r g)(H:SE X xr a ma):SE X xr (.UnaryOp op a pos) (yw g ma):=
 PE.imp (Ih ho H) (yw.read hn h)
def Ly {r:R2}{g:W->W->Hx->R W}(ho:qU X (compareOp op) r)(hn:∀x y A,jg (g x y A))(h:yt X.K r g)(c:SE X xr a ma)(H:SE X xr b mb)(hm:behindInMarks op b=false):SE X xr (.Compare a [op] [b] pos) (zi g ma mb):=
 PE.imp (dW ho c H hm) (zi.read hn h)
def tT.toM {K:Frag}{Q:Bool->Hp->Prop}(h:tT K xr m σ H Q):tM K xr m σ H λx d=>∃k,x=.bl k/\Q k d:=by
 obtain⟨φ,A,ρ,S,re,h⟩:=h;refine tM.go S re h λw A1 a H1 v ⟨b,e,q⟩ l s c=>?_;subst e;exact⟨b,c,q a H1 l s⟩
def Lp {r:R2}{g:W->W->Hx->R W}(ho:qU X (compareOp op) r)(hn:∀x y A,jg (g x y A))(c:yt X.K r g)(e:SE X xr a ma)(d:SE X xr b mb)(hm:behindInMarks op b=false):ST X xr (.Compare a [op] [b] pos) (zi g ma mb):=
 PT.imp (dX ho e d hm) λσ H Q h=>zi.read hn c σ H _ h.toM
noncomputable def wu (g g':W->W->Hx->R W)(a b c:Ev):Ev:=λρ A=>(a ρ A).bind λx A1=>(b ρ A1).bind λy A2=>(g x y A2).bind λz d=>match z with
 |.bl true=>(c ρ d).bind λw e=>g' y w e|.bl false=>.ok (.bl false) d|_=>.bad
def wu.read {g g':W->W->Hx->R W}{r i:R2}(hn:∀x y A,jg (g x y A))(T:yt X.K r g)(n:∀x y A,jg (g' x y A))(o:yt X.K i g'):
  ∀σ H Q,tM X.K xr (wu g g' ma mb mc) σ H Q->Th r i (tM X.K xr ma) (tM X.K xr mb) (tM X.K xr mc) σ H Q:=by
 rintro σ H Q ⟨φ,A,ρ,S,re,h⟩
 refine tM.go S re (qe.mp h) λw A1 E H1 v h1 L S1 P=>?_;refine tM.go S1 (re.mono L) (qJ (qe.mp h1) (λ_ _ z=>z) λ_ _ z=>z.mono L) λf A2 b D v2 h2 B Z s=>?_;have j:=L.trans B;have p:=qe.mp h2;have a:(g w f A2).post (PB X.K b D λz c=>∃k,z=.bl k/\if k=true then tM X.K xr mc σ c λJ q=>i v2 J q Q else Q (.bl false) c) Zq:=by
  refine qJ (Yi (hn _ _ _) p) (λz A3 a e c zv u C N=>?_) λ_ _ z=>z;have l:=j.trans u;cases z with
  |bl k=>
   refine⟨k,N,?_⟩;cases k with
   |true=>
    rw[aj rfl];refine tM.go C (re.mono l) (qJ (qe.mp a) (λ_ _ z=>z) λ_ _ z=>z.mono l) λI A4 d q v4 U t Y M=>?_;exact o d A4 q v2 v4 f I Q Y ((s.mono u).mono t) M (qJ (Yi (n _ _ _) U) (λ_ _ z=>z.mono (l.trans t)) λ_ _ z=>z)
   |false=>
    rw[ao aD];exact a e c _ l C rfl
  |non=>cases a|int _=>cases a|str _=>cases a|tup _=>cases a|ref _=>cases a|clo _ _ _=>cases a|xc _=>cases a|fn _=>cases a
 exact T b A2 D v v2 w f _ Z (P.mono B) s a
def fD {c:Expr}{o:CmpOp}{r e:R2}{g g':W->W->Hx->R W}(ho:qU X (compareOp op) r)(hn:∀x y A,jg (g x y A))(f:yt X.K r g)(h:qU X (compareOp o) e)(H:∀x y A,jg (g' x y A))(d:yt X.K e g')
  (l:SE X xr a ma)(j:SE X xr b mb)(i:SE X xr c mc)(hm:lastMarks [op,o] [b,c]=false:=by with_unfolding_all rfl):SE X xr (.Compare a [op,o] [b,c] pos) (wu g g' ma mb mc):=
 PE.imp (dY ho h l j i hm) (wu.read hn f H d)
def fE {c:Expr}{o:CmpOp}{r i:R2}{g g':W->W->Hx->R W}(ho:qU X (compareOp op) r)(hn:∀x y A,jg (g x y A))(j:yt X.K r g)(d:qU X (compareOp o) i)(e:∀x y A,jg (g' x y A))(f:yt X.K i g')
  (p:SE X xr a ma)(n:SE X xr b mb)(l:SE X xr c mc)(hm:lastMarks [op,o] [b,c]=false:=by with_unfolding_all rfl):ST X xr (.Compare a [op,o] [b,c] pos) (wu g g' ma mb mc):=
 PT.imp (dZ ho d p n l hm) λσ H Q h=>wu.read hn j e f σ H _ h.toM
noncomputable def j0 (a b:Ev):Ev:=λρ A=>(a ρ A).bind λx A1=>match x with
 |.bl true=>b ρ A1|.bl false=>.ok (.bl false) A1|_=>.bad
noncomputable def gQ (a b:Ev):Ev:=λρ A=>(a ρ A).bind λx A1=>match x with
 |.bl true=>.ok (.bl true) A1|.bl false=>b ρ A1|_=>.bad
noncomputable def yi (a:Ev):Ev:=λρ A=>(a ρ A).bind λx A1=>match x with
 |.bl k=>.ok (.bl (!k)) A1|_=>.bad
noncomputable def Rc (c a b:Ev):Ev:=λρ A=>(c ρ A).bind λx A1=>match x with
 |.bl true=>a ρ A1|.bl false=>b ρ A1|_=>.bad
theorem tT.mono {K:Frag}{c:bM}{H1:Hp}{A1:Hx}{ρ:En}{Q:Bool->Hp->Prop}(S:zQ K c A1 H1)(L:Le K φ H c H1)(re:RE K φ H ρ σ)
  (h:(m ρ A1).post (λw A'=>∃b,w=.bl b/\∀a d,Le K φ H a d->zQ K a A' d->Q b d) (EB K φ H xr)):tT K xr m σ H1 Q:=
 ⟨c,A1,ρ,S,re.mono L,qJ h (λw A' ⟨b,e,q⟩=>⟨b,e,λa d l s=>q a d (L.trans l) s⟩) λ_ _ z=>z.mono L⟩
noncomputable def zm:Ea:=λ_ A=>.ok [] A
noncomputable def zh (a:Ev)(r:Ea):Ea:=λρ A=>(a ρ A).bind λx A1=>(r ρ A1).bind λxs A2=>.ok (x::xs) A2
def Lu:SA X xr [] zm:=PA.imp yg λσ H Q ⟨φ,A,ρ,S,re,h⟩=>h φ H [] .refl S .nil
def MH {M:Ea}(d:SE X xr e ma)(r:SA X xr es M)(s:starEach (e::es) X.env=(false,eval e X.env)::starEach es X.env:=by rfl):SA X xr (e::es) (zh ma M):=
 PA.imp (jD d r s) λσ H Q ⟨φ,A,ρ,S,re,h⟩=>by
  refine tM.go S re (qe.mp h) λw A1 b H1 v h1 l g c=>?_;refine Vs.go g (re.mono l) (qJ (qe.mp h1) (λ_ _ z=>z) λ_ _ z=>z.mono l) λj A2 a i v2 h2 L f q=>?_;exact h2 a i _ (l.trans L) f (.cons (c.mono L) q)
noncomputable def qb (a:Ea):Ev:=λρ A=>(a ρ A).bind λxs A1=>.ok (.tup xs) A1
noncomputable def qi (a:Ea):Ev:=λρ A=>(a ρ A).bind λxs A1=>.ok (.ref A1.length) (A1++[.lst xs])
def Qi {K:Frag}{A:Hx}{p:Addr}{ws:List W}(S:zQ K φ A H)(h:H p=none)(r:zI K φ H ws vs):
  Le K φ H φ (upd H p (.tup vs))/\zQ K φ A (upd H p (.tup vs))/\RV K φ (upd H p (.tup vs)) (.tup ws) (.ref p):=
 ⟨Le.new h,S.lay h,p,vs,rfl,qH.of j5,r.mono (Le.new h)⟩
def Q0 {K:Frag}{A:Hx}{p:Addr}{ws:List W}(S:zQ K φ A H)(h:H p=none)(r:zI K φ H ws vs):
  Le K φ H (φ++[p]) (upd H p (.lst vs))/\zQ K (φ++[p]) (A++[.lst ws]) (upd H p (.lst vs))/\RV K (φ++[p]) (upd H p (.lst vs)) (.ref A.length) (.ref p):=by
 have l:Le K φ H (φ++[p]) (upd H p (.lst vs)):=Le.alloc h;obtain⟨h1,h2⟩:=S.alloc (o:=.lst ws) h ⟨vs,j5,r.mono l⟩;exact⟨h1,h2,p,rfl,by rw[<- S.len];simp⟩
def fF {M:Ea}(h:SA X xr es M)(hl:∀ρ A ws A',M ρ A=.ok ws A'->ws.length<=sizeLine):SE X xr (.List es pos) (qi M):=
 PE.imp (d7 h) λσ H Q ⟨φ,A,ρ,S,re,h⟩=>by
  have h':=qe.mp h;cases e:M ρ A with
  |ok ws A'=>
   rw[e]at h';refine⟨φ,A,ρ,S,re,?_⟩;rw[e];intro a H1 vs l s q;refine⟨by rw[<- q.length];exact hl ρ A ws A' e,λp b=>?_⟩
   obtain⟨a1,a2,c⟩:=Q0 s b q;exact h' _ _ _ (l.trans a1) a2 c
  |exc x A'=>rw[e]at h';refine⟨φ,A,ρ,S,re,?_⟩;rw[e];exact h'|bad=>rw[e]at h';exact h'.elim
end
inductive Fl where
 |nx (ρ:En)|rt (w:W)|bk (ρ:En)|ct (ρ:En)
abbrev Ex:=En->Hx->R Fl
def FB (K:Frag)(φ:bM)(H:Hp)(D:Ends):Fl->Hx->Prop
 |.nx ρ,A=>∀a h b,Le K φ H a h->zQ K a A h->RE K a h ρ b->D.nx b h|.rt w,A=>∀a h v,Le K φ H a h->zQ K a A h->RV K a h w v->D.rt v h|.bk ρ,A=>∀a h b,Le K φ H a h->zQ K a A h->RE K a h ρ b->D.bk b h|.ct ρ,A=>∀a h b,Le K φ H a h->zQ K a A h->RE K a h ρ b->D.ct b h
def FB.mono {K:Frag}{c:bM}{H1:Hp}{D:Ends}{fl:Fl}{A:Hx}(h:FB K φ H D fl A)(l:Le K φ H c H1):FB K c H1 D fl A:=by
 cases fl with
 |nx ρ=>exactλa b v L=>h a b v (l.trans L)|rt ρ=>exactλa b v L=>h a b v (l.trans L)|bk ρ=>exactλa b v L=>h a b v (l.trans L)|ct ρ=>exactλa b v L=>h a b v (l.trans L)
inductive MS (K:Frag)(xr:XR)(m:Ex)(D:Ends)(σ:St)(H:Hp):Prop
 |mk (φ:bM) (A:Hx) (ρ:En) (S:zQ K φ A H) (re:RE K φ H ρ σ) (h:(m ρ A).post (FB K φ H D) (EB K φ H xr))
noncomputable def tS (K:Frag)(x:XR)(m:Ex):TS:=λD σ H=>MS K x m D σ H
def SS (X:Cx)(x:XR)(st:Stmt)(m:Ex):Prop:=PS X st (tS X.K x m)
def JY (X:Cx)(x:XR)(st:cc)(m:Ex):Prop:=yM X st (tS X.K x m)
section
variable {xr:XR}{a b c:Expr}{st:Stmt}{rest:cc}{m:Ev}{m1 m2:Ex}
def PS.imp {t t':TS}(h:PS X st t)(i:∀D σ H,t' D σ H->t D σ H):PS X st t':=λpins s σ H D I hw=>h pins s σ H D I (i D σ H hw)
def yM.imp {t t':TS}(h:yM X rest t)(i:∀D σ H,t' D σ H->t D σ H):yM X rest t':=λpins s σ H D I hw=>h pins s σ H D I (i D σ H hw)
noncomputable def zx:Ex:=λρ A=>.ok (.nx ρ) A
noncomputable def zj (m1 m2:Ex):Ex:=λρ A=>(m1 ρ A).bind λfl A1=>match fl with
 |.nx ρ1=>m2 ρ1 A1|f=>.ok f A1
noncomputable def jx (m:Ev):Ex:=λρ A=>(m ρ A).bind λ_ A1=>.ok (.nx ρ) A1
noncomputable def qA (m:Ev):Ex:=λρ A=>(m ρ A).bind λw A1=>.ok (.rt w) A1
noncomputable def jf (c:Ev)(a b:Ex):Ex:=λρ A=>(c ρ A).bind λx A1=>match x with
 |.bl true=>a ρ A1|.bl false=>b ρ A1|_=>.bad
noncomputable def zM (i:Nat)(m:Ev):Ex:=λρ A=>(m ρ A).bind λw A1=>.ok (.nx (ρ.set i (some w))) A1
def zM.read:∀D σ H,tS X.K xr (zM i m) D σ H->XT (tM X.K xr m) (XM i) D σ H:=by
 rintro D σ H ⟨φ,A,ρ,S,re,h⟩
 exact tM.go S re (qe.mp h) λw A1 a H1 v h1 l s q=>h1 a H1 _ l s ((re.mono l).set q)
noncomputable def ZK (g:W->W->W->Hx->R Unit)(me mo mi:Ev):Ex:=λρ A=>(me ρ A).bind λv A1=>(mo ρ A1).bind λo A2=>(mi ρ A2).bind λi b=>(g o i v b).bind λ_ a=>.ok (.nx ρ) a
def Io (K:Frag)(t:JL)(g:W->W->W->Hx->R Unit):Prop:=∀φ A H o i v w b wv Q,zQ K φ A H->RV K φ H w o->RV K φ H b i->RV K φ H wv v->
 (g w b wv A).post (λ_ A'=>∀a h,Le K φ H a h->zQ K a A' h->Q h) Zq->t o i v H Q
def fG {o i:Expr}{mo mi:Ev}{t:JL}{g:W->W->W->Hx->R Unit}(M:X5 X t)(hn:∀o i v A,jg (g o i v A))(T:Io X.K t g)(he:SE X xr e m)(ho:SE X xr o mo)(P:SE X xr i mi)
  (N:swapsWithSole [.Subscript o i tpos] e pos.line X.env=pure false:=by rfl)(hw:swappedStores [.Subscript o i tpos] e X.env=pure none:=by rfl)
  (h1:(assignEach [.Subscript o i tpos] X.env).map (·.2)=[assign (.Subscript o i tpos) X.env]:=by rfl)
  (U:∀v,assign (.Subscript o i tpos) X.env v=(do
   let ov <- holding [v] (eval o X.env)
   let iv <- holding [v,ov] (eval i X.env)
   standAt tpos
   holding [v,ov,iv] (setItem ov iv v)
   release [v,ov,iv] []):=by intro _;rfl):SS X xr (.Assign [.Subscript o i tpos] e pos) (ZK g m mo mi):=
 PS.imp (LJ he (df ho P M U) N hw h1) λD σ H ⟨φ,A,ρ,S,re,h⟩=>by
  refine tM.go S re (qe.mp h) λn A1 C H1 v1 h1 f S1 J=>?_;refine tM.go S1 (re.mono f) (qJ (qe.mp h1) (λ_ _ z=>z) λ_ _ z=>z.mono f) λj A2 B H2 v2 h2 q S2 I=>?_;have l:=f.trans q;refine tM.go S2 (re.mono l) (qJ (qe.mp h2) (λ_ _ z=>z) λ_ _ z=>z.mono l) λw y c H3 E a d Z Q=>?_;have L:=l.trans d;refine T c y H3 v2 E v1 j w n _ Z (I.mono d) Q (J.mono (q.trans d)) ?_;cases r:g j w n y with
  |ok u s=>
   rw[r]at a;exactλb H4 p Y=>a b H4 σ (L.trans p) Y (re.mono (L.trans p))
  |exc x s=>exact absurd r (hn _ _ _ _ x s)|bad=>rw[r]at a;exact a.elim
structure jJ where
 at_:Hx->Nat->Option (Option W)
 len:Nat
def ZW (K:Frag)(φ:bM)(H:Hp)(j:jJ)(J:It):Prop:=∀i a h A',QG K φ H a h->zQ K a A' h->
 (∀w,j.at_ A' i=some (some w)->J.go i h/\∀x H1,J.yld i h x H1->Le K a h a H1/\zQ K a A' H1/\RV K a H1 w x)/\(j.at_ A' i=some none->J.stop i h)
abbrev Ei:=En->Hx->R jJ
inductive MI (K:Frag)(xr:XR)(mi:Ei)(σ:St)(H:Hp)(Rr:It->Hp->Prop):Prop
 |mk (φ:bM) (A:Hx) (ρ:En) (S:zQ K φ A H) (re:RE K φ H ρ σ) (h:(mi ρ A).post (λj A1=>∀φ1 H1 J,Le K φ H φ1 H1->zQ K φ1 A1 H1->ZW K φ1 H1 j J->Rr J H1) (EB K φ H xr))
noncomputable def tI (K:Frag)(x:XR)(mi:Ei):TI:=λσ H r=>MI K x mi σ H r
def SI (X:Cx)(x:XR)(t iter:Expr)(mi:Ei):Prop:=PI X t iter (tI X.K x mi)
def PI.imp {t t':TI}(h:PI X tg e t)(i:∀σ H Q,t' σ H Q->t σ H Q):PI X tg e t':=λpins s σ H Q I hw=>h pins s σ H Q I (i σ H Q hw)
abbrev Tg:=W->En->Option En
inductive MG (K:Frag)(tw:Tg)(v:V)(σ:St)(H:Hp)(Q:St->Hp->Prop):Prop
 |mk (φ:bM) (A:Hx) (ρ:En) (w:W) (ρ':En) (S:zQ K φ A H) (re:RE K φ H ρ σ) (rv:RV K φ H w v) (t:tw w ρ=some ρ') (q:∀σ',RE K φ H ρ' σ'->Q σ' H)
noncomputable def tG (K:Frag)(tw:Tg):TG:=λv σ H Q=>MG K tw v σ H Q
def SG (X:Cx)(t:Expr)(tw:Tg):Prop:=PG X t (tG X.K tw)
def PG.imp {t t':TG}(h:PG X tg t)(i:∀v σ H Q,t' v σ H Q->t v σ H Q):PG X tg t':=λpins s σ H v u Q I r hw=>h pins s σ H v u Q I r (i v σ H Q hw)
noncomputable def zE (i:Nat):Tg:=λw ρ=>some (ρ.set i (some w))
noncomputable def ji (i j:Nat):Tg:=λw ρ=>match w with
 |.tup [x,y]=>some ((ρ.set i (some x)).set j (some y))|_=>none
noncomputable def yh (j:jJ)(st:W->Ex):Nat->Nat->Ex
 |0,i,ρ,A=>match j.at_ A i with
  |some none=>.ok (.nx ρ) A|_=>.bad
 |f+1,i,ρ,A=>match j.at_ A i with
  |some none=>.ok (.nx ρ) A|some (some w)=>(st w ρ A).bind λfl A1=>match fl with
   |.nx ρ1=>yh j st f (i+1) ρ1 A1|.ct ρ1=>yh j st f (i+1) ρ1 A1|.bk ρ1=>.ok (.nx ρ1) A1|.rt w=>.ok (.rt w) A1
  |none=>.bad
noncomputable def turn (tw:Tg)(body:Ex)(w:W):Ex:=λρ A=>match tw w ρ with
 |some ρ1=>body ρ1 A|none=>.bad
def qF (mi:Ei)(tw:Tg)(body:Ex):Ex:=λρ A=>(mi ρ A).bind λj A1=>yh j (turn tw body) j.len 0 ρ A1
inductive HG (K:Frag)(xr:XR)(j:jJ)(t:W->Ex)(D:Ends)(φ1:bM)(H1:Hp)(f i:Nat)(σ':St)(H':Hp):Prop
 |mk (φ2:bM) (A2:Hx) (ρ2:En) (l:Le K φ1 H1 φ2 H') (S:zQ K φ2 A2 H') (re:RE K φ2 H' ρ2 σ') (h:(yh j t f i ρ2 A2).post (FB K φ2 H' D) (EB K φ2 H' xr))
noncomputable def QA (c:Ev)(body:Ex):Nat->Ex
 |0,ρ,A=>.bad|f+1,ρ,A=>(c ρ A).bind λx A1=>match x with
  |.bl true=>(body ρ A1).bind λfl A2=>match fl with
   |.nx ρ1=>QA c body f ρ1 A2|.ct ρ1=>QA c body f ρ1 A2|.bk ρ1=>.ok (.nx ρ1) A2|.rt w=>.ok (.rt w) A2
  |.bl false=>.ok (.nx ρ) A1|_=>.bad
def Xw (f:Nat)(c:Ev)(body:Ex):Ex:=QA c body f
noncomputable def Qo (nl:Nat)(cap:bP)(ρ:En):En:=List.replicate nl none++cap.map λi=>(ρ[i]?).join
theorem RE.ZQ {K:Frag}{ρ:En}{nl:Nat}(r:RE K φ H ρ σ):RE K φ H (Qo nl cap ρ) (L2.ZQ nl cap σ):=by
 refine⟨by simp[Qo,L2.ZQ],λi w e=>?_⟩
 unfold Qo at e;unfold L2.ZQ
 by_cases hi:i<nl
 ·rw[ag (by simpa using hi),bw]at e
  split at e<;>cases e
 ·rw[ar (by simpa using hi),bB,ax]at e
  rw[ar (by simpa using hi),bB,ax]
  cases c:cap[i-nl]? with
  |none=>rw[c]at e;cases e|some k=>
   rw[c]at e;have E:(ρ[k]?).join=some w:=aF e;cases h:ρ[k]? with
   |none=>rw[h]at E;cases E|some o=>cases o with
    |none=>rw[h]at E;cases E|some a=>
     rw[h]at E;cases E;obtain⟨v,h1,h2⟩:=r.get k w h;exact⟨v,by simp[h1],h2⟩
abbrev Em:=En->List W->Hx->R (En×List W)
noncomputable def qj:Nat:=100000
def zR (elt:Ev):Em:=λρ acc A=>(elt ρ A).bind λy A1=>if acc.length<qj then .ok (ρ,acc++[y]) A1 else .bad
noncomputable def jn (j:jJ)(tw:Tg)(ifs:Ev)(em:Em):Nat->Nat->Em
 |0,i,ρ,acc,A=>match j.at_ A i with
  |some none=>.ok (ρ,acc) A|_=>.bad
 |f+1,i,ρ,acc,A=>match j.at_ A i with
  |some none=>.ok (ρ,acc) A|some (some w)=>match tw w ρ with
   |some ρ1=>(ifs ρ1 A).bind λc A1=>match c with
    |.bl true=>(em ρ1 acc A1).bind λp A2=>jn j tw ifs em f (i+1) p.1 p.2 A2|.bl false=>jn j tw ifs em f (i+1) ρ1 acc A1|_=>.bad
   |none=>.bad
  |none=>.bad
def gI (mi:Ei)(tw:Tg)(ifs:Ev)(em:Em):Em:=λρ acc A=>(mi ρ A).bind λj A1=>jn j tw ifs em j.len 0 ρ acc A1
abbrev j3:=En->Hx->R (List W)
def zU (nl:Nat)(cap:bP)(mi:Ei)(tw:Tg)(ifs:Ev)(em:Em):j3:=λρ A=>(mi ρ A).bind λj A1=>(jn j tw ifs em j.len 0 (Qo nl cap ρ) [] A1).nox.bind λp A2=>.ok p.2 A2
def Rg (K:Frag)(D:Addr)(φ:bM)(H:Hp)(Q:St->Hp->Prop)(p:En×List W)(A1:Hx):Prop:=∀a H1 b zs,yT K D φ H a H1->(∀k:Nat,a[k]?≠some D)->zQ K a A1 H1->RE K a H1 p.1 b->H1 D=some (.lst zs)->zI K a H1 p.2 zs->Q b H1
inductive ME (K:Frag)(em:Em)(D:Addr)(σ:St)(H:Hp)(Q:St->Hp->Prop):Prop
 |mk (φ:bM) (A:Hx) (ρ:En) (acc:List W) (ys:List V) (S:zQ K φ A H) (re:RE K φ H ρ σ) (hD:H D=some (.lst ys)) (nD:∀k:Nat,φ[k]?≠some D) (rv:zI K φ H acc ys)
  (h:(em ρ acc A).post (Rg K D φ H Q) Zq)
noncomputable def tE (K:Frag)(em:Em):gx:=λD σ H Q=>ME K em D σ H Q
noncomputable abbrev yJ:XR:=λ_ _=>False
def SM (X:Cx)(elt:Expr)(gens:List Comprehension)(sc:Scope)(c:Pos)(d:Nat)(em:Em):Prop:=wW X elt gens sc c d (tE X.K em)
def wW.imp {d:Nat}{t t':gx}(h:wW X elt gens sc pos d t)(i:∀D σ H Q,t' D σ H Q->t D σ H Q):wW X elt gens sc pos d t':=
 λpins s σ H D Q k Q' E I hw a=>h pins s σ H D Q k Q' E I (i D σ H Q hw) a
def UI {K:Frag}{r:R α}{P:α->Hx->Prop}(h:r.post P Zq):r.post P (EB K φ H yJ):=qJ h (λ_ _ z=>z) λ_ _ z=>z.elim
def WV (X:Cx)(ifs:bU)(m:Ev):Prop:=Qp X ifs (tT X.K yJ m)
inductive HP (tw:Tg)(ifs:Ev)(em:Em)(j:jJ)(K:Frag)(D:Addr)(φ:bM)(H:Hp)(Q:St->Hp->Prop)(f i:Nat)(σ':St)(H':Hp):Prop
 |mk (φ2:bM) (A2:Hx) (ρ2:En) (acc2:List W) (ys2:List V) (l:yT K D φ H φ2 H') (S:zQ K φ2 A2 H') (re:RE K φ2 H' ρ2 σ') (hD:H' D=some (.lst ys2)) (nD:∀k:Nat,φ2[k]?≠some D) (ra:zI K φ2 H' acc2 ys2) (h:(jn j tw ifs em f i ρ2 acc2 A2).post (Rg K D φ H Q) Zq)
def jn.read {tw:Tg}{ifs:Ev}{em:Em}{j:jJ}{J:It}{K:Frag}{A:Hx}{ρ:En}{acc:List W}{Q:St->Hp->Prop}{f:Nat}
  (jr:ZW K φ H j J)
  (S:zQ K φ A H)(re:RE K φ H ρ σ)(hD:H D=some (.lst ys))(nD:∀k:Nat,φ[k]?≠some D)(ra:zI K φ H acc ys)
  (h:(jn j tw ifs em f 0 ρ acc A).post (Rg K D φ H Q) Zq):
  Wt J (tG K tw) (tT K yJ ifs) (tE K em) D σ H Q:=by
 refine⟨λi f b M=>HP tw ifs em j K D φ H Q f i b M,
  ⟨f,φ,A,ρ,acc,ys,.refl,S,re,hD,nD,ra,h⟩,?_⟩
 rintro i f T H2 ⟨e,A2,q,d,Y,v,S2,s,I,t,l,h2⟩
 obtain⟨j1,j2⟩:=jr i e H2 A2 ⟨v.ex,v.tp,v.fz⟩ S2;cases E:j.at_ A2 i with
 |none=>cases f<;>(unfold jn at h2;rw[E]at h2;exact h2.elim)|some o=>
  cases o with
  |none=>
   left
   refine⟨j2 E,?_⟩;cases f<;>(unfold jn at h2;rw[E]at h2;exact h2 e H2 T Y v t S2 s I l)
  |some w=>
   right
   obtain⟨go,yl⟩:=j1 w E;cases f with
   |zero=>unfold jn at h2;rw[E]at h2;exact h2.elim|succ f=>
    unfold jn at h2;rw[E]at h2;refine⟨go,λb M=>HP tw ifs em j K D φ H Q f (i+1) b M,λb M z=>⟨f,bx _,z⟩,λx H3 y=>?_⟩;obtain⟨u,S3,q3⟩:=yl x H3 y;obtain⟨Z,X⟩:=u.off I t;dsimp only at h2;cases et:tw w q with
    |none=>rw[et]at h2;exact h2.elim|some g=>
     rw[et]at h2;refine⟨e,A2,q,w,g,S3,s.mono u,q3,et,λσ3 r=>?_⟩;refine tT.go S3 r (UI (qe.mp h2)) λc A4 a=>?_;cases c with
     |bl k=>
      refine⟨k,rfl,λn H4 L S4=>?_⟩;obtain⟨C,N⟩:=L.off Z X;have B:=(v.trans (u.trans L).toD);cases k with
      |true=>
       rw[aj rfl];refine⟨n,A4,g,d,Y,S4,r.mono L,C,N,l.mono (u.trans L),qJ (qe.mp a) (λp A5 h5 P H5 σ5 zs l5 n5 S5 U d5 r5=>?_) λ_ _ z=>z⟩;exact⟨P,A5,p.1,p.2,zs,B.trans l5,S5,U,d5,n5,r5,h5⟩
      |false=>
       rw[ao aD];exact⟨n,A4,g,d,Y,B,S4,r.mono L,C,N,l.mono (u.trans L),a⟩
     |non=>cases a|int _=>cases a|str _=>cases a|tup _=>cases a|ref _=>cases a|clo _ _ _=>cases a|xc _=>cases a|fn _=>cases a
def ZW.mono {K:Frag}{b:bM}{H1:Hp}{j:jJ}{J:It}(h:ZW K φ H j J)(l:QG K φ H b H1):ZW K b H1 j J:=
 λi c d A' L=>h i c d A' ⟨λn a e=>L.ex n a (l.ex n a e),λa vs e=>L.tp a vs (l.tp a vs e),λa o u e=>L.fz a o u (l.fz a o u e)⟩
inductive MF (K:Frag)(xr:XR)(mq:j3)(σ:St)(H:Hp)(Q:VK):Prop
 |mk (φ:bM) (A:Hx) (ρ:En) (S:zQ K φ A H) (re:RE K φ H ρ σ) (h:(mq ρ A).post (λws A1=>∀φ1 H1 D ys,Le K φ H φ1 H1->zQ K φ1 A1 H1->H D=none->H1 D=some (.lst ys)->(∀k:Nat,φ1[k]?≠some D)->zI K φ1 H1 ws ys->Q (.ref D) H1) (EB K φ H xr))
noncomputable def tF (K:Frag)(x:XR)(M:j3):TE:=λσ H Q=>MF K x M σ H Q
def SF (X:Cx)(x:XR)(e:Expr)(M:j3):Prop:=PE X e (tF X.K x M)
theorem zU.read {mi:Ei}{tw:Tg}{M:Ev}{em:Em}{nl:Nat}:∀σ H Q,tF X.K xr (zU nl cap mi tw M em) σ H Q->XI X.K (tI X.K xr mi) (tG X.K tw) (tT X.K yJ M) (tE X.K em) nl cap σ H Q:=by
 rintro σ H Q ⟨φ,A,ρ,S,re,h⟩
 refine⟨φ,A,ρ,S,re,qJ (qe.mp h) (λj A1 h1 b H1 J l s q D c t=>?_) λ_ _ z=>z⟩;have ln:Le X.K b H1 b (upd H1 D (.lst [])):=Le.new c;have a:=qe.mp h1;refine jn.read (q.mono ⟨ln.ex,ln.tp,ln.fz⟩) (s.lay c) ((re.mono (l.trans ln)).ZQ) j5 (s.notin c t) .nil ?_ (f:=j.len) (acc:=[]);cases e:jn j tw M em j.len 0 (Qo nl cap ρ) [] A1 with
 |ok p A2=>
  rw[e]at a;intro d w g zs o n v r u i;have L:=l.trans (Le.ofD c o);exact a d w D zs L v (l.st D c) u n i
 |exc x A2=>rw[e]at a;exact a.elim|bad=>rw[e]at a;exact a.elim
noncomputable def qY (q:j3):Ev:=λρ A=>(q ρ A).bind λws A1=>.ok (.ref A1.length) (A1++[.lst ws])
def qY.read {q:j3}{K:Frag}:∀σ H Q,tM K xr (qY q) σ H Q->tF K xr q σ H Q:=by
 rintro σ H Q ⟨φ,A,ρ,S,re,h⟩
 refine⟨φ,A,ρ,S,re,qJ (qe.mp h) (λws A1 h1 b H1 D ys L s h0 c N r=>?_) λ_ _ z=>z⟩;have l:Le K φ H (b++[D]) H1:=L.YD h0;have lw:QG K b H1 (b++[D]) H1:=⟨λn a h=>by
  have:=(ck.mp h).1
  rw[ag this];exact h,λ_ _ h=>h,λ_ _ _ h=>h⟩
 refine h1 _ _ _ l (s.YD (o:=.lst ws) c N ⟨ys,c,r.monoW lw⟩) ⟨D,rfl,?_⟩;rw[<- s.len];simp
inductive MQ (K:Frag)(xr:XR)(mq:j3)(σ:St)(H:Hp)(Q:VK):Prop
 |mk (φ:bM) (A:Hx) (ρ:En) (S:zQ K φ A H) (re:RE K φ H ρ σ) (h:(mq ρ A).post (λws A1=>∀φ1 H1 a ys,Le K φ H φ1 H1->zQ K φ1 A1 H1->(je K H1 a ys∨qH K H1 a ys)->zI K φ1 H1 ws ys->Q (.ref a) H1) (EB K φ H xr))
noncomputable def tQ (K:Frag)(x:XR)(M:j3):TE:=λσ H Q=>MQ K x M σ H Q
def SQ (X:Cx)(x:XR)(e:Expr)(M:j3):Prop:=PE X e (tQ X.K x M)
noncomputable def zX (w:W)(A:Hx):Option (List W):=match w with
 |.tup ws=>some ws|.ref n=>match A[n]? with
  |some (.lst ws)=>some ws|some (.ro ws)=>some ws|_=>none
 |_=>none
def GA {K:Frag}{A:Hx}{w:W}{ws:List W}(S:zQ K φ A H)(q:RV K φ H w v)(e:zX w A=some ws):∃a ys,v=.ref a/\(je K H a ys∨qH K H a ys)/\zI K φ H ws ys:=by
 unfold zX at e;cases w with
 |tup xs=>cases e;obtain⟨a,ys,b,c,E⟩:=q;exact⟨a,ys,b,.inr c,E⟩|ref n=>
  obtain⟨a,b,c⟩:=q;dsimp only at e;cases ea:A[n]? with
  |none=>rw[ea]at e;cases e|some o=>
   rw[ea]at e;obtain⟨d,E,r⟩:=S.ob n o ea;rw[c]at E;cases E;cases o with
   |lst xs=>cases e;obtain⟨ys,h1,h2⟩:=r;exact⟨a,ys,b,.inl (je.of h1),h2⟩|ro xs=>cases e;obtain⟨ys,h1,h2⟩:=r;exact⟨a,ys,b,.inl h1.sq,h2⟩|dct xs=>cases e|td _=>cases e|tr _=>cases e|tab _ _=>cases e
 |non=>cases e|bl _=>cases e|clo _ _ _=>cases e|xc _=>cases e|fn _=>cases e|int _=>cases e|str _=>cases e
def zN (m:Ev):j3:=λρ A=>(m ρ A).bind λw A1=>match zX w A1 with
 |some ws=>.ok ws A1|none=>.bad
def WM (w:W)(A:Hx):Option jJ:=match zX w A with
 |some ws=>some ⟨λA i=>(zX w A).map λws=>ws[i]?,ws.length⟩|none=>none
def qu (m:Ev):Ei:=λρ A=>(m ρ A).bind λw A1=>match WM w A1 with
 |some j=>.ok j A1|none=>.bad
def fH (K:Frag)(t:TE):TI:=λσ H r=>t σ H λx H1=>∃a,x=.ref a/\(((∃xs,je K H1 a xs)/\r (Hw K a) H1)∨((∃xs,qH K H1 a xs)/\r (HL K a) H1))
def fJ {l:Expr}{t:TE}(hl:PE X l t):PI X tg l (fH X.K t):=by
 intro pins s σ H n I h;refine zY (hl pins s σ H _ I h) λv s1 ⟨x,H1,i,g,Q⟩=>?_;obtain⟨a,e,q⟩:=Q;subst e;cases g;have f:∀b∈[s1.heap.objs.size],wC X pins H1 b:=λb j=>by
  have e:b=s1.heap.objs.size:=by simpa using j
  subst e;exact i.fpOk (aq _) (i.hok.fresh (aq _))
 rcases q with ⟨⟨xs,d⟩,q⟩|⟨⟨xs,d⟩,q⟩
 ·obtain⟨c,r,p,z⟩:=i.list d
  refine wpAny_pyIter_list p.isList ?_;exact⟨s1.heap.objs.size,[s1.heap.objs.size],_,_,H1,rfl,i.kept (t':=s1.toks) λb o e=>af _ e,Bw a _,⟨_,ay _ rfl,rfl,rfl⟩,f,q⟩
 ·obtain⟨c,r,p,z⟩:=i.tuple d
  refine wpAny_pyIter_tuple (show s1.heap.IsTuple a c.toArray from p) ?_
  exact⟨s1.heap.objs.size,[s1.heap.objs.size],_,_,H1,rfl,i.kept (t':=s1.toks) λb o e=>af _ e,CJ a _,⟨_,ay _ rfl,rfl,rfl⟩,f,q⟩
noncomputable def ye (lo:Int)(n:Nat):jJ:=⟨λ_ i=>if i<n then some (some (.int (lo+i))) else some none,n⟩
def LX {K:Frag}{lo:Int}:ZW K φ H (ye lo n) (WW lo n):=λi a h A' lw S=>by
 unfold ye;dsimp only
 by_cases hi:i<n
 ·rw[aj hi]
  refine⟨λw e=>?_,λe=>by cases e⟩
  cases e;exact⟨hi,λx H1 ⟨b,E⟩=>by subst b;exact⟨.refl,S,E⟩⟩
 ·rw[ao hi]
  exact⟨λw e=>(by cases e),λ_=>Nat.le_of_not_lt hi⟩
noncomputable def jH (i:Int):Bool:=decide (-(2 ^ 62)<=i)&&decide (i<2 ^ 62)
def QR {i:Int}(h:jH i=true):-(2 ^ 62)<=i/\i<2 ^ 62:=by
 unfold jH at h;rw[ah,ai,ai]at h;exact h
def qN (m:Ev):Ei:=λρ A=>(m ρ A).bind λw A1=>match w with
 |.int j=>if jH j then .ok (ye 0 j.toNat) A1 else .bad|_=>.bad
def wy (m M:Ev):Ei:=λρ A=>(m ρ A).bind λw A1=>(M ρ A1).bind λa A2=>match w,a with
 |.int i,.int j=>if jH i&&jH j then .ok (ye i (j-i).toNat) A2 else .bad|_,_=>.bad
end
abbrev Fn:=List W->Hx->R W
def kg (K:Frag)(x:Str)(C:Value):Prop:=nsIn K mainGlobals x=some (some C)
def XE (K:Frag)(E:XK)(x:Str)(H:Hp):Prop:=∀C d,kg K x C->E C d H
inductive Zo (K:Frag)(n:Nat)(f:Fn)(vs:List V)(H:Hp)(Q:VK)(E:XK):Prop
 |mk (len:vs.length=n) (φ:bM) (A:Hx) (ws:List W) (S:zQ K φ A H) (r:zI K φ H ws vs) (q:(f ws A).post (PB K φ H Q) (EB K φ H (XE K E)))
def Zo.len {K:Frag}{f:Fn}{Q:VK}{E:XK}(h:Zo K n f vs H Q E):vs.length=n:=by cases h;assumption
inductive zJ (P:Program)(w:World)(K:Frag)(mg:bZ)(base:Heap)(k:Nat)(x:Str)(n:Nat)(f:Fn):Prop
 |mk (fa:Addr) (fd:FuncData) (ps:bR) (F:yG P w K mg base wc k fa fd ps (Zo K n f)) (at_:mg x=some (.ref fa)) (kp:keepIn K (.ref fa)=true) (bi:Binds K fd ps [])
noncomputable def zH (f:Fn)(a:Ea):Ev:=λρ A=>(a ρ A).bind λws A1=>f ws A1
section
variable {m ma:Ev}
def ZR (m:Ea)(n:Nat):Prop:=∀ρ A ws A',m ρ A=.ok ws A'->ws.length=n
def zO:ZR zm 0:=λ_ _ _ _ h=>by unfold zm at h;cases h;rfl
def zD {M:Ea}(h:ZR M n):ZR (zh ma M) (n+1):=λρ A ws A' e=>by
 unfold zh at e;cases h1:ma ρ A with
 |ok x A1=>
  rw[h1,zT]at e;cases h2:M ρ A1 with
  |ok xs A2=>rw[h2,zT]at e;cases e;simp[h ρ A1 xs _ h2]|exc x A2=>rw[h2]at e;cases e|bad=>rw[h2]at e;cases e
 |exc x A1=>rw[h1]at e;cases e|bad=>rw[h1]at e;cases e
end
noncomputable def qt (n:Nat)(m:Ex):Fn:=λws A=>(m (ws.map some++List.replicate (n-ws.length) none) A).nox.bind λfl A1=>match fl with
 |.rt w=>.ok w A1|.nx _=>.ok .non A1|_=>.bad
theorem RE.start {K:Frag}{ws:List W}(h:zI K φ H ws vs):RE K φ H (ws.map some++List.replicate (N.length-ws.length) none) (L2.start N vs):=by
 unfold L2.start;refine⟨by simp[h.length],λi w e=>?_⟩
 by_cases hi:i<ws.length
 ·rw[ag (by simpa using hi),ax]at e
  cases hw:ws[i]? with
  |none=>rw[hw]at e;cases e|some a=>
   rw[hw]at e;cases e;obtain⟨v,h1,h2⟩:=h.get hw;refine⟨v,?_,h2⟩;rw[ag (by rw[ak,<- h.length];exact hi),ax,h1];rfl
 ·rw[ar (by simpa using hi),bw]at e
  split at e<;>cases e
section
variable {K:Frag}
theorem zJ.mono {k:Nat}{f:Fn}(F:zJ P w K mg base j x n f)(h:j<=k):zJ P w K mg base k x n f:=by cases F with|mk d fd ps F a b c=>exact⟨d,fd,ps,F.mono h,a,b,c⟩
theorem zJ.imp {k:Nat}{f g:Fn}(F:zJ P w K mg base k x n f)(h:∀ws A,ws.length=n->g ws A=.bad∨f ws A=g ws A):zJ P w K mg base k x n g:=by
 obtain⟨d,fd,ps,F,a,b,c⟩:=F;refine⟨d,fd,ps,F.imp λvs H Q E ⟨hl,φ,A,ws,S,r,q⟩=>⟨hl,φ,A,ws,S,r,?_⟩,a,b,c⟩;rcases h ws A (by rw[r.length];exact hl) with e|e
 ·rw[e]at q;exact q.elim
 ·rw[e];exact q
end
section
variable {K:Frag}
def yc {a:α}{A:Hx}:jg (R.ok a A):=λ_ _ h=>by cases h
def ju:jg (R.bad:R α):=λ_ _ h=>by cases h
def ZI {c:Prop} [Decidable c] {a b:R α}(h1:jg a)(h2:jg b):jg (if c then a else b):=by split<;>assumption
noncomputable def gY (f:Int->Int->W):W->W->Hx->R W
 |.int i,.int j,A=>.ok (f i j) A|_,_,_=>.bad
def Qj {f:Int->Int->W}:∀x y A,jg (gY f x y A):=λx y A=>by
 unfold gY;split
 ·exact yc
 ·exact ju
noncomputable def Zr (c:Int->Int->Bool)(f:Int->Int->W):W->W->Hx->R W
 |.int i,.int j,A=>if c i j then .ok (f i j) A else .bad|_,_,_=>.bad
def Wm {c:Int->Int->Bool}{f:Int->Int->W}:∀x y A,jg (Zr c f x y A):=λx y A=>by
 unfold Zr;split
 ·exact ZI yc ju
 ·exact ju
def Qh {f:Int->Int->W}{g:Int->Int->V}(h:∀i j φ H,RV K φ H (f i j) (g i j)):yt K (gW g) (gY f):=λφ A H x y u v Q S a q p=>by
 cases u with
 |int i=>cases v with
  |int j=>obtain rfl:=a;obtain rfl:=q;exact⟨i,j,rfl,rfl,p φ H _ .refl S (h i j φ H)⟩|_=>exact p.elim
 |_=>exact p.elim
def Wh {c:Int->Int->Bool}{C:Int->Int->Prop}{f:Int->Int->W}{g:Int->Int->V}(d:∀i j,c i j=true->C i j)(h:∀i j φ H,RV K φ H (f i j) (g i j)):yt K (rI C g) (Zr c f):=λφ A H x y u v Q S b q p=>by
 cases u with
 |int i=>cases v with
  |int j=>
   obtain rfl:=b;obtain rfl:=q;unfold Zr at p;dsimp only at p
   by_cases a:c i j=true
   ·rw[aj a]at p;exact⟨i,j,rfl,rfl,d i j a,p φ H _ .refl S (h i j φ H)⟩
   ·rw[ao a]at p;exact p.elim
  |_=>exact p.elim
 |_=>exact p.elim
noncomputable def Wz (i j:Int):Bool:=(decide (-(2 ^ 64)<i)&&decide (i<2 ^ 64)) || (decide (-(2 ^ 64)<j)&&decide (j<2 ^ 64))
noncomputable def X6 (_ j:Int):Bool:=decide (0<j)
def fK (i j:Int)(h:Wz i j=true):WJ i j:=by
 unfold Wz at h;simp only[bj,ah,decide_eq_true_eq]at h;exact h
def fL (i j:Int)(h:X6 i j=true):(λ_ j=>0<j) i j:=by
 unfold X6 at h;simpa using h
def yQ:=gY λi j=>.int (i-j)
def yL:=Zr X6 λi j=>.int (i%j)
def Sr:=gY λi j=>.int (Builtin.bitXor i j)
def WQ:=gY λi j=>.bl (decide (i<j))
def QB:=gY λi j=>.bl (decide (i<=j))
def Ri:=gY λi j=>.bl (decide (j<i))
def Rl:=gY λi j=>.bl (decide (j<=i))
noncomputable def X4 (i j:Int):Bool:=decide (0<=j)&&decide (j<=1000000)&&decide (i.natAbs<2 ^ 64)
def Mx (i j:Int)(h:X4 i j=true):SX i j:=by
 unfold X4 at h;simp only[ah,decide_eq_true_eq]at h;exact⟨h.1.1,h.1.2,h.2⟩
def X0:=Zr X4 λi j=>.int (i ^ j.toNat)
variable {a b c:Expr}
noncomputable def Qs:W->Hx->R W
 |.int i,A=>.ok (.int (-i)) A|_,_=>.bad
structure wQ (X:Cx)(op:CmpOp)(g:W->W->Hx->R W):Prop where
 ex:∃r:R2,qU X (compareOp op) r/\(∀x y A,jg (g x y A))/\yt X.K r g
 mks:∀b,op≠.In->op≠.NotIn->behindInMarks op b=false
def JA {r:R2}{g:W->W->Hx->R W}(h1:qU X (compareOp op) r)(h2:∀x y A,jg (g x y A))(h:yt X.K r g):wQ X op g:=⟨⟨r,h1,h2,h⟩,λb a1 a2=>cL b a1 a2⟩
def IL:wQ X .Lt WQ:=JA dQ Qj (Qh λ_ _ _ _=>rfl)
def SK:wQ X .LtE QB:=JA dR Qj (Qh λ_ _ _ _=>rfl)
def Hn:wQ X .Gt Ri:=JA dS Qj (Qh λ_ _ _ _=>rfl)
def fM:wQ X .GtE Rl:=JA dU Qj (Qh λ_ _ _ _=>rfl)
end
inductive Ty where
 |non|bl|int|str|tup|lst|dct
 deriving DecidableEq
noncomputable def Ty.nm:Ty->String
 |.non => "NoneType" | .bl => "bool" | .int => "int" | .str => "str" | .tup => "tuple" | .lst => "list" | .dct => "dict"
noncomputable def kM (w:W)(A:Hx):Option Ty:=match w with
 |.non=>some .non|.bl _=>some .bl|.int _=>some .int|.str _=>some .str|.tup _=>some .tup|.ref n=>match A[n]? with
  |some (.lst _)=>some .lst|some (.dct _)=>some .dct|_=>none
 |_=>none
noncomputable def wa (a b:Ty):Bool:=a==b || (a==.bl&&b==.int)
def Xi {K:Frag}(a b:Ty):kitOne K (.type a.nm) (.type b.nm)=some (wa a b):=by
 cases a<;>cases b<;>rfl
section
variable {xr:XR}{K:Frag}{a c:Expr}{m:Ev}
def JR (K:Frag)(H:Hp)(x:V)(t:Ty):Prop:=gq K H x (.type t.nm)∨∃a xs,x=.ref a/\qH K H a xs/\t=.tup
def NO {A:Hx}{w:W}{t:Ty}(S:zQ K φ A H)(q:RV K φ H w v)(e:kM w A=some t):JR K H v t:=by
 cases w with
 |non=>cases e;obtain rfl:=q;exact .inl .non|bl k=>cases e;obtain rfl:=q;exact .inl (.bl k)|clo _ _ _=>cases e|xc _=>cases e|fn _=>cases e|int k=>cases e;obtain rfl:=q;exact .inl (.int k)|str k=>cases e;obtain rfl:=q;exact .inl (.str k)|tup ws=>cases e;obtain⟨a,vs,rfl,h,_⟩:=q;exact .inr ⟨a,vs,rfl,h,rfl⟩|ref n=>
  obtain⟨a,rfl,h1⟩:=q;unfold kM at e;dsimp only at e;cases E:A[n]? with
  |none=>rw[E]at e;cases e|some o=>
   rw[E]at e;obtain⟨b,h2,r⟩:=S.ob n o E;rw[h1]at h2;cases h2;cases o with
   |lst ws=>cases e;obtain⟨vs,z,_⟩:=r;exact .inl (.lst z)|dct ws=>cases e;obtain⟨vs,z,_⟩:=r;exact .inl (.dK z)|td _=>cases e|tr _=>cases e|tab _ _=>cases e|ro ws=>cases e
def JR.kit {x:V}{t:Ty}(I:Inv X pins σ H s)(r:RelV x u)(h:JR X.K H x t):
  (∀{Q:bS}{E:bS}{A:Around}{c:Ty},(∀T,Q (.bool (wa t c)) { s with toks:=T })->wpAny (model X.prog X.w) A (call (.builtin "isinstance") [u,.type c.nm]) Q E s):=by
 intro Q E A c q;rcases h with h|⟨a,xs,rfl,h,rfl⟩
 ·exact Nc I r h (Xi t c) q
 ·cases (show u=Value.ref a from r)
  obtain⟨i,_,⟨o,h1,h2,_⟩,_⟩:=I.tuple h;exact bA kitx_tuple I.kIn ⟨o,h1,h2⟩ (Xi .tup c) (λz=>nomatch z) q
def fN (K:Frag):List V->Hp->VK->Prop:=λxs H Q=>∃x t c,xs=[x,.ty (Ty.nm c)]/\JR K H x t/\Q (.bl (wa t c)) H
def fO:yn X (.builtin "isinstance") (fN X.K):=by
 intro pins s σ H xs us Q I r h;obtain⟨x,t,c,rfl,d,q⟩:=h;obtain⟨u,U,rfl,b,a⟩:=vals2 r;cases (show U=Value.type c.nm from a)
 exact d.kit I b λT=>⟨.bl (wa t c),H,I.tok T,rfl,q⟩
def kQ (t:Ty)(m:Ev):Ev:=λρ A=>(m ρ A).bind λw A1=>match kM w A1 with
 |some t'=>.ok (.bl (wa t' t)) A1|none=>.bad
def zB:W->W->Hx->R W:=λx y A=>match zX x A,y with
 |some ws,.int i=>match w5 ws i with
  |some w=>.ok w A|none=>.bad
 |_,_=>.bad
def fP:∀x y A,jg (zB x y A):=λx y A=>by
 unfold zB;split
 ·split
  ·exact yc
  ·exact ju
 ·exact ju
def fQ {ws:List W}{i:Int}{w:W}(r:zI K φ H ws ys)(e:w5 ws i=some w):∃y,w5 ys i=some y/\RV K φ H w y:=by
 unfold w5 at e ⊢;rw[<- r.length];cases h:gT ws.length i with
 |none=>rw[h]at e;cases e|some j=>
  rw[h]at e;obtain⟨y,h1,h2⟩:=r.get (i:=j) e;exact⟨y,h1,h2⟩
def fR:yt K (HC K) zB:=λφ A H x y u v Q S b q p=>by
 unfold zB at p;cases es:zX u A with
 |none=>rw[es]at p;exact p.elim|some ws=>
  rw[es]at p;cases v with
  |int i=>
   obtain rfl:=q;dsimp only at p;cases e:w5 ws i with
   |none=>rw[e]at p;exact p.elim|some w=>
    rw[e]at p;obtain⟨a,ys,rfl,z,r⟩:=GA S b es;obtain⟨Y,h1,h2⟩:=fQ r e;rcases z with z|z
    ·exact .inl ⟨a,ys,i,Y,rfl,rfl,z,h1,p φ H _ .refl S h2⟩
    ·exact .inr (.inl ⟨a,ys,i,Y,rfl,rfl,z,h1,p φ H _ .refl S h2⟩)
  |non=>exact p.elim|bl _=>exact p.elim|str _=>exact p.elim|tup _=>exact p.elim|ref _=>exact p.elim|clo _ _ _=>exact p.elim|xc _=>exact p.elim|fn _=>exact p.elim
def Q9 (K:Frag)(r:List V->Hp->VK->Prop)(g:List W->Hx->R W):Prop:=∀φ A H a ys ws Q,zQ K φ A H->(je K H a ys∨qH K H a ys)->zI K φ H ws ys->(g ws A).post (PB K φ H Q) Zq->r [.ref a] H Q
noncomputable def mQ (g:List W->Hx->R W)(q:j3):Ev:=λρ A=>(q ρ A).bind λws A1=>g ws A1
def mQ.read {g:List W->Hx->R W}{q:j3}(hn:∀ws A,jg (g ws A))(c:Q9 X.K r g):∀σ H Q,tM X.K xr (mQ g q) σ H Q->Vf r (XA (tQ X.K xr q) Sy) σ H Q:=by
 rintro σ H Q ⟨φ,A,ρ,S,re,h⟩
 refine⟨φ,A,ρ,S,re,qJ (qe.mp h) (λws A1 h1 b H1 a ys l s z r=>?_) λ_ _ z=>z⟩;exact c b A1 H1 a ys ws Q s z r (qJ (Yi (hn _ _) h1) (λ_ _ z=>z.mono l) λ_ _ z=>z)
def Wo {id:String}{g:List W->Hx->R W}{q:j3}(d:yn X (.builtin id) r)(hn:∀ws A,jg (g ws A))(a:Q9 X.K r g)(hm:X.mg x=none)(v:bootBuiltins x=some (.builtin id))(f:SQ X xr e q)(c:Gl X x:=by rfl)
  (H:x ≠ "__name__":=by decide)(b:(x==("__debug__":Str))=false:=by decide)(he:starEach [e] X.env=(false,eval e X.env)::starEach [] X.env:=by rfl)(h:(backTo pos (starEach [] X.env)).any (·.1)=false:=by rfl):
  SE X xr (.Call (.Name x p) [e] [] pos) (mQ g q):=PE.imp (Z5 d c hm v (jD f yg he) H b he h) (mQ.read hn a)
def fS {id:String}{g:List W->Hx->R W}{q:j3}(d:yn X (.type id) r)(hn:∀ws A,jg (g ws A))(a:Q9 X.K r g)(hm:X.mg x=none)(v:bootBuiltins x=some (.type id))(f:SQ X xr e q)(c:Gl X x:=by rfl)
  (H:x ≠ "__name__":=by decide)(b:(x==("__debug__":Str))=false:=by decide)(he:starEach [e] X.env=(false,eval e X.env)::starEach [] X.env:=by rfl)(h:(backTo pos (starEach [] X.env)).any (·.1)=false:=by rfl):
  SE X xr (.Call (.Name x p) [e] [] pos) (mQ g q):=PE.imp (KG d c hm v (jD f yg he) H b he h) (mQ.read hn a)
noncomputable def qc:List W->Hx->R W:=λws A=>.ok (.int ws.length) A
def fT:Q9 K (λxs H Q=>∃p ys,xs=[.ref p]/\(je K H p ys∨qH K H p ys)/\Q (.int ys.length) H) qc:=λφ A H a ys ws Q S z r p=>
 ⟨a,ys,rfl,z,by rw[<- r.length];exact p φ H _ .refl S rfl⟩
noncomputable def jA:List W->Hx->R W:=λws A=>.ok (.tup ws) A
def fU:Q9 K (λxs H Q=>∃p ys,xs=[.ref p]/\((je K H p ys/\∀l,H l=none->Q (.ref l) (upd H l (.tup ys)))∨(qH K H p ys/\Q (.ref p) H))) jA:=λφ A H a ys ws Q S z r p=>by
 refine⟨a,ys,rfl,?_⟩;rcases z with z|z
 ·refine .inl ⟨z,λl hl=>?_⟩
  obtain⟨a1,a2,b⟩:=Qi S hl r;exact p _ _ _ a1 a2 b
 ·exact .inr ⟨z,p φ H _ .refl S ⟨a,ys,rfl,z,r⟩⟩
variable {b:Expr}
def GV {a:Addr}(I:Inv X pins σ H s)(l:X.calm=true)(z:je X.K H a ys∨qH X.K H a ys)
  (h:∀(c:bL)(j:Addr)(fp wr:bM)(S:Nat->Heap->Prop)(s2:Shared),Vals ys c->ys.length<=sizeLine->Walks X.prog X.w X.A.in1 j fp wr c.length (λi v=>c[i]? =some v) S->S 0 s2.heap->(∀b∈fp,b<s2.heap.objs.size)->
   (∀(h':Heap)(T:Nat),(∀b o,b∉wr->s2.heap.get? b=some o->h'.get? b=some o)->Inv X pins σ H { s2 with heap:=h',toks:=T })->Q (.ref j) s2):
  wpAny (model X.prog X.w) X.A.in1 (pyIter (.ref a)) Q E s:=by
 have g:X.A.in1.handled=none:=I.ok.hd l;have keep:∀(o:Obj)(h':Heap)(T:Nat),(∀b u,b∉[s.heap.objs.size]->(s.heap.push o).get? b=some u->h'.get? b=some u)->Inv X pins σ H { s with heap:=h',toks:=T }:=λo h' T k=>I.kept λb u e=>k b u (by
  intro hm;have q:b=s.heap.objs.size:=by simpa using hm
  exact absurd (q ▸ aL e) (aV _)) (af _ e)
 rcases z with z|z
 ·obtain⟨c,r,p,f⟩:=I.list z
  have t:a<s.heap.objs.size:=by obtain⟨o,n,e,_⟩:=p;exact aL e
  refine wpAny_pyIter_list p.isList ?_;have W:=Walks.list (prog:=X.prog) (w:=X.w) g s.heap.objs.size a (aQ t) c.toArray;rw[aw]at W;simp only[List.getElem?_toArray]at W;refine h c s.heap.objs.size _ _ _ _ r f W ⟨⟨_,ay _ rfl,rfl,rfl⟩,p.isList.at λo e=>af _ e⟩ (λb d=>?_) λh' T k=>keep _ h' T k;show b<(s.heap.push _).objs.size;rw[bq];rcases cm.mp d with e|d
  ·rw[e];exact bx _
  ·have e:b=a:=by simpa using d
   rw[e];exact bh t
 ·obtain⟨c,r,p,f⟩:=I.tuple z
  have t:a<s.heap.objs.size:=p.lt;have P:s.heap.IsTuple a c.toArray:=p;refine wpAny_pyIter_tuple P ?_;have W:=Walks.tuple (prog:=X.prog) (w:=X.w) g s.heap.objs.size a (aQ t) c.toArray;rw[aw]at W;simp only[List.getElem?_toArray]at W;refine h c s.heap.objs.size _ _ _ _ r f W ⟨⟨_,ay _ rfl,rfl,rfl⟩,P.at λo e=>af _ e⟩ (λb d=>?_) λh' T k=>keep _ h' T k;show b<(s.heap.push _).objs.size;rw[bq];rcases cm.mp d with e|d
  ·rw[e];exact bx _
  ·have e:b=a:=by simpa using d
   rw[e];exact bh t
noncomputable def WC:V->Option Bool
 |.bl b=>some b|.int i=>some (i != 0)|.non=>some false|_=>none
noncomputable def YL:W->Option Bool
 |.bl b=>some b|.int i=>some (i != 0)|.non=>some false|_=>none
def fV {w:W}{k:Bool}(q:RV K φ H w v)(e:YL w=some k):WC v=some k:=by
 cases w<;>first
  |(cases e;done)
  |(obtain rfl:=q;exact e)
def Al {A:Around}{k:Bool}{Q:Bool->Shared->Prop}(r:RelV v u)(e:WC v=some k)(h:Q k s):wpAny (model X.prog X.w) A (truthy u) Q E s:=by
 cases v with
 |bl b=>cases e;cases r;exact wpAny_truthy_bool h|int i=>
  cases e;obtain⟨t,rfl⟩:=r;exact PySem.P.truthy_int h
 |non=>cases e;cases r;exactλ_ _ _=>h|_=>cases e
def gi:List W->Option (List Bool)
 |[]=>some []|w::ws=>match YL w,gi ws with
  |some k,some ks=>some (k::ks)|_,_=>none
theorem OQ:∀{ws:List W}{ys:List V}{ks:List Bool},zI K φ H ws ys->gi ws=some ks->∀(i:Nat)(y:V),ys[i]? =some y->∃k,ks[i]? =some k/\WC y=some k
 |[],_,_,r,e,i,y,h=>by cases r;simp at h|w::ws,_,ks,⟨v,r,d,q,t⟩,e,i,y,h=>by
  subst d;unfold gi at e;cases E:YL w with
  |none=>rw[E]at e;cases e|some k=>
   cases a:gi ws with
   |none=>rw[E,a]at e;cases e|some b=>
    rw[E,a]at e;cases e;cases i with
    |zero=>simp at h;subst h;exact⟨k,by simp,fV q E⟩|succ i=>simp at h;obtain⟨c,h1,h2⟩:=OQ t a i y h;exact⟨c,by simpa using h1,h2⟩
theorem O5:∀{ws:List W}{ks:List Bool},gi ws=some ks->ks.length=ws.length
 |[],_,e=>by cases e;rfl|w::ws,ks,e=>by
  unfold gi at e;cases a:YL w with
  |none=>rw[a]at e;cases e|some k=>
   cases E:gi ws with
   |none=>rw[a,E]at e;cases e|some K=>rw[a,E]at e;cases e;simp[O5 E]
def range_all (ks:List Bool):(List.range ks.length).all (λi=>ks.getD i false)=ks.all id:=by
 rw[Bool.eq_iff_iff,aT,aT]
 constructor
 ·intro h x b
  obtain⟨i,a,rfl⟩:=bb b
  have:=h i (cj.mpr a)
  rw[aa,ae a]at this;exact this
 ·intro h i a
  have H:=cj.mp a;rw[aa,ae H];exact h _ (aJ H)
def range_any (ks:List Bool):(List.range ks.length).any (λi=>ks.getD i false)=ks.any id:=by
 rw[Bool.eq_iff_iff,List.any_eq_true,List.any_eq_true]
 constructor
 ·rintro⟨i,a,h⟩
  have H:=cj.mp a;rw[aa,ae H]at h;exact⟨_,aJ H,h⟩
 ·rintro⟨x,b,h⟩
  obtain⟨i,a,rfl⟩:=bb b;refine⟨i,cj.mpr a,?_⟩;rw[aa,ae a];exact h
def Sn (K:Frag)(f:List Bool->Bool):List V->Hp->VK->Prop:=λxs H Q=>∃a ys ks,xs=[.ref a]/\(je K H a ys∨qH K H a ys)/\ks.length=ys.length/\(∀(i:Nat)(y:V),ys[i]? =some y->∃k,ks[i]? =some k/\WC y=some k)/\Q (.bl (f ks)) H
def N9 {ks:List Bool}{A:Around}(r:Vals ys its)(hl:ks.length=ys.length)(t:∀(i:Nat)(y:V),ys[i]? =some y->∃k,ks[i]? =some k/\WC y=some k):TruthOf X.prog X.w A (λi v=>its[i]? =some v) λi=>ks.getD i false:=by
 intro i v s Q E P H;have a:i<its.length:=(ck.mp P).1;have h:i<ys.length:=by rw[r.length];exact a
 obtain⟨u,h1,h2⟩:=r.get (i:=i) (x:=ys[i]) (by simp[h])
 rw[P]at h1;cases h1;obtain⟨k,c,b⟩:=t i ys[i] (by simp[h])
 dsimp only at H;rw[aa,c]at H;exact Al h2 b H
def fW (f:X.calm=true):yn X (.builtin "all") (Sn X.K λks=>ks.all id):=by
 intro pins s σ H xs us Q I r h;obtain⟨a,ys,ks,rfl,z,hl,d,q⟩:=h;obtain⟨u,rfl,c⟩:=vals1 r;cases c;refine call_all_walk (GV I f z λb g fp wr S s2 v j W st p back=>?_);refine⟨g,fp,wr,_,_,S,λi=>ks.getD i false,rfl,W,st,N9 v hl d,λh' t k=>?_⟩;have e:b.length=ks.length:=by rw[hl,v.length]
 rw[e,range_all];exact⟨.bl _,H,back h' t k,rfl,q⟩
def fX (f:X.calm=true):yn X (.builtin "any") (Sn X.K λks=>ks.any id):=by
 intro pins s σ H xs us Q I r h;obtain⟨a,ys,ks,rfl,z,hl,d,q⟩:=h;obtain⟨u,rfl,c⟩:=vals1 r;cases c;refine call_any_walk (GV I f z λb g fp wr S s2 v j W st p back=>?_);refine⟨g,fp,wr,_,_,S,λi=>ks.getD i false,rfl,W,st,N9 v hl d,λh' t k=>?_⟩;have e:b.length=ks.length:=by rw[hl,v.length]
 rw[e,range_any];exact⟨.bl _,H,back h' t k,rfl,q⟩
def ZO (f:List Bool->Bool):List W->Hx->R W:=λws A=>match gi ws with
 |some ks=>.ok (.bl (f ks)) A|none=>.bad
def LA {f:List Bool->Bool}:∀ws A,jg (ZO f ws A):=λws A=>by
 unfold ZO;split
 ·exact yc
 ·exact ju
def Mp {f:List Bool->Bool}:Q9 K (Sn K f) (ZO f):=λφ A H a ys ws Q S z r p=>by
 unfold ZO at p;cases e:gi ws with
 |none=>rw[e]at p;exact p.elim|some ks=>
  rw[e]at p;exact⟨a,ys,ks,rfl,z,by rw[O5 e,r.length],OQ r e,p φ H _ .refl S rfl⟩
abbrev Qx:=ZO λks=>ks.all id
abbrev YR:=ZO λks=>ks.any id
def Bx:qU X (compareOp .IsNot) (λx y H Q=>∃i j,x=.bl i/\y=.bl j/\Q (.bl (!(i==j))) H):=by
 intro pins s σ H x y v u Q I a r h;obtain⟨i,j,rfl,rfl,q⟩:=h;cases a;cases r;exact isnot_bool ⟨.bl _,H,I,rfl,q⟩
noncomputable def Si:W->Bool
 |.non=>true|_=>false
def C4 {w:W}(q:RV K φ H w v):decide (v=.non)=Si w:=by
 cases w with
 |non=>obtain rfl:=q;rfl|bl b=>obtain rfl:=q;rfl|clo _ _ _=>obtain⟨a,_,_,_,_,_,_,rfl,_⟩:=q;rfl|xc _=>obtain⟨a,_,_,_,rfl,_⟩:=q;rfl|fn _=>obtain⟨a,rfl,_⟩:=q;rfl|int b=>obtain rfl:=q;rfl|str b=>obtain rfl:=q;rfl|tup ws=>obtain⟨a,vs,rfl,_⟩:=q;rfl|ref n=>obtain⟨a,rfl,_⟩:=q;rfl
def WZ (neg:Bool):W->W->Hx->R W:=λx y A=>match x,y with
 |.bl i,.bl j=>.ok (.bl (if neg then !(i==j) else i==j)) A|w,.non=>.ok (.bl (if neg then !Si w else Si w)) A|_,_=>.bad
def fY {n:Bool}:∀x y A,jg (WZ n x y A):=λx y A=>by
 unfold WZ;split
 ·exact yc
 ·exact yc
 ·exact ju
def Bj:yt K (λx y H Q=>(y=.non/\Q (.bl (!decide (x=.non))) H)∨∃i j,x=.bl i/\y=.bl j/\Q (.bl (!(i==j))) H) (WZ true):=λφ A H x y u v Q S b a p=>by
 cases v with
 |non=>
  have q:y=.non:=a;refine .inl ⟨q,?_⟩;rw[C4 b];cases u<;>exact p φ H _ .refl S rfl
 |bl j=>
  cases u with
  |bl i=>obtain rfl:=b;obtain rfl:=a;exact .inr ⟨i,j,rfl,rfl,p φ H _ .refl S rfl⟩|_=>exact p.elim
 |_=>cases u<;>exact p.elim
def fZ:wQ X .IsNot (WZ true):=JA (dV.or Bx) fY Bj
end
noncomputable def IW (outer sc:Scope):Bool:=sc.kind==.function&&decide ((sc.names.map (·.1)).Nodup)&&sc.names.all λy=>y.2 != .free || (outer.names.lookup y.1==some .cell || outer.names.lookup y.1==some .free)
def cps (h:IW X.env.scope sc=true):gE X sc:=by
 unfold IW at h;rw[ah,ah,ai,aH,aT]at h;refine⟨h.1.1,h.1.2,λy H e=>?_⟩
 have:=h.2 y H
 rw[e]at this;simp only[bne_self_eq_false,Bool.false_or,bj,aH]at this;exact this
section
variable {xr:XR}{K:Frag}{a b:Expr}{ma mb:Ev}
theorem zQ.lst {φ:bM}{A:Hx}{H:Hp}{n:Nat}{ws:List W}{v:V}(S:zQ K φ A H)(q:RV K φ H (.ref n) v)(e:A[n]? =some (.lst ws)):∃p vs,v=.ref p/\φ[n]? =some p/\H p=some (.lst vs)/\zI K φ H ws vs:=by
 obtain⟨p,rfl,h1⟩:=q;obtain⟨P,h2,vs,a,h⟩:=S.ob n _ e;rw[h1]at h2;cases h2;exact⟨p,vs,rfl,h1,a,h⟩
def Ax {prog:Program}{A:Around}{t b:Addr}{ws:bL}(a:IsTup s.heap t ([]:bL).toArray)(e:IsTup s.heap b ws.toArray)(h0:Q (.ref b) s):
  wpAny (model prog w) A (binaryOp .Add (.ref t) (.ref b)) Q E s:=by
 obtain⟨⟨cls,dd,data,sl⟩,ho,c,n,hd⟩:=id a;obtain⟨⟨C,d,data2,S⟩,h,H,N,hd2⟩:=id e;simp only at c hd H hd2;subst c hd H hd2;exact concat_meets ⟨_,ho,rfl⟩ ⟨_,h,rfl⟩ noFill_tuple_add seq_tuple_add slot_tuple_add entry_tuple_add (args_tuple_add_2 _ _)
   (tuple_addW0 t b ([]:bL).toArray ws.toArray n N dd d sl S (by simp)) ⟨ho,h,h0⟩
noncomputable def Lq (K:Frag):R2:=λx y H Q=>∃a b ys,x=.ref a/\y=.ref b/\qH K H a []/\qH K H b ys/\Q (.ref b) H
def A9:qU X (binaryOp .Add) (Lq X.K):=by
 intro pins s σ H x y v u Q I c r h;obtain⟨a,b,ys,rfl,rfl,g,f,q⟩:=h;cases c;cases r;obtain⟨e,d,P,_⟩:=I.tuple g;obtain⟨i,j,p,_⟩:=I.tuple f;cases d;exact Ax P p ⟨.ref b,H,I,rfl,q⟩
def qv:W->W->Hx->R W:=λx y A=>match x,y with
 |.int i,.int j=>.ok (.int (i+j)) A|.tup xs,.tup ys=>if xs.length+ys.length<=qj then .ok (.tup (xs++ys)) A else .bad|.ref n,.ref k=>match A[n]?,A[k]? with
  |some (.lst xs),some (.lst ys)=>if xs.length+ys.length<=qj then .ok (.ref A.length) (A++[.lst (xs++ys)]) else .bad|_,_=>.bad
 |_,_=>.bad
def f9:∀x y A,jg (qv x y A):=λx y A=>by
 unfold qv
 split
 ·exact yc
 ·exact ZI yc ju
 ·split
  ·exact ZI yc ju
  ·exact ju
 ·exact ju
def Yg (h:n<=qj):n<=sizeLine:=by
 have:sizeLine=16777216:=sizeLine_eq
 unfold qj at h;omega
def gg:yt K (λx y H Q=>gW (λi j=>.int (i+j)) x y H Q∨Ic K x y H Q∨Lq K x y H Q∨IS x y H Q) qv:=λφ A H x y u v Q S f q p=>by
 cases u with
 |int i=>cases v with
  |int j=>obtain rfl:=f;obtain rfl:=q;exact .inl ⟨i,j,rfl,rfl,p φ H _ .refl S rfl⟩|_=>exact p.elim
 |tup xs=>cases v with
  |tup ys=>
   obtain⟨a1,b,rfl,t1,c⟩:=f;obtain⟨a2,a,rfl,t,r⟩:=q;unfold qv at p;dsimp only at p
   by_cases h:xs.length+ys.length<=qj
   ·rw[aj h]at p
    by_cases w:b=[]
    ·subst w
     have g:xs=[]:=by
      have:=c.length
      simpa using this
     subst g;exact .inr (.inr (.inl ⟨a1,a2,a,rfl,rfl,t1,t,p φ H _ .refl S ⟨a2,a,rfl,t,r⟩⟩))
    ·refine .inr (.inl ⟨a1,a2,b,a,rfl,rfl,t1,t,w,by rw[<- c.length,<- r.length];exact Yg h,λe=>?_,λne l hl=>?_⟩)
     ·subst e
      have g:ys=[]:=by
       have:=r.length
       simpa using this
      subst g;rw[a7]at p;exact p φ H _ .refl S ⟨a1,b,rfl,t1,c⟩
     ·obtain⟨s,o,B⟩:=Qi S hl (c.append r)
      exact p _ _ _ s o B
   ·rw[ao h]at p;exact p.elim
  |_=>exact p.elim
 |ref n=>cases v with
  |ref k=>
   unfold qv at p;dsimp only at p;cases E:A[n]? with
   |none=>rw[E]at p;exact p.elim|some D=>cases D with
    |lst xs=>
     cases d:A[k]? with
     |none=>rw[E,d]at p;exact p.elim|some C=>cases C with
      |lst ys=>
       rw[E,d]at p;dsimp only at p;obtain⟨z,v1,rfl,f1,g1,c⟩:=S.lst f E;obtain⟨P,v2,rfl,f2,g2,r⟩:=S.lst q d
       by_cases h:xs.length+ys.length<=qj
       ·rw[aj h]at p
        refine .inr (.inr (.inr ⟨z,P,v1,v2,rfl,rfl,g1,g2,by rw[<- c.length,<- r.length];exact Yg h,λl hl=>?_⟩))
        obtain⟨s,o,B⟩:=Q0 S hl (c.append r);exact p _ _ _ s o B
       ·rw[ao h]at p;exact p.elim
      |_=>rw[E,d]at p;exact p.elim
    |_=>rw[E]at p;exact p.elim
  |_=>exact p.elim
 |_=>cases v<;>exact p.elim
def qx:W->W->Hx->R W:=λx y A=>match x,y with
 |.int i,.int j=>if Wz i j then .ok (.int (i * j)) A else .bad|.ref n,.int k=>match A[n]? with
  |some (.lst xs)=>if jH k&&decide (xs.length * k.toNat<=qj) then .ok (.ref A.length) (A++[.lst (List.replicate k.toNat xs).flatten]) else .bad|_=>.bad
 |_,_=>.bad
def gv:∀x y A,jg (qx x y A):=λx y A=>by
 unfold qx
 split
 ·exact ZI yc ju
 ·split
  ·exact ZI yc ju
  ·exact ju
 ·exact ju
theorem zI.rep {ws:List W}(r:zI K φ H ws vs):∀n:Nat,zI K φ H (List.replicate n ws).flatten (List.replicate n vs).flatten
 |0=>.nil|n+1=>by rw[ba,ba,a9,a9];exact r.append (zI.rep r n)
def gV:yt K (λx y H Q=>rI WJ (λi j=>.int (i * j)) x y H Q∨He x y H Q) qx:=λφ A H x y u v Q S a q p=>by
 cases v with
 |int j=>cases u with
  |int i=>
   obtain rfl:=a;obtain rfl:=q;unfold qx at p;dsimp only at p
   by_cases c:Wz i j=true
   ·rw[aj c]at p;exact .inl ⟨i,j,rfl,rfl,fK i j c,p φ H _ .refl S rfl⟩
   ·rw[ao c]at p;exact p.elim
  |ref n=>
   obtain rfl:=q;unfold qx at p;dsimp only at p;cases e:A[n]? with
   |none=>rw[e]at p;exact p.elim|some o=>cases o with
    |lst xs=>
     rw[e]at p;dsimp only at p;obtain⟨P,v1,rfl,f1,g1,r⟩:=S.lst a e
     by_cases h:(jH j&&decide (xs.length * j.toNat<=qj))=true
     ·rw[aj h]at p
      rw[ah,ai]at h;obtain⟨B,b⟩:=QR h.1;refine .inr ⟨P,j,v1,rfl,rfl,g1,by omega,by omega,by rw[<- r.length];exact Yg h.2,λl hl=>?_⟩
      obtain⟨c1,c2,C⟩:=Q0 S hl (r.rep j.toNat);exact p _ _ _ c1 c2 C
     ·rw[ao h]at p;exact p.elim
    |_=>rw[e]at p;exact p.elim
  |_=>exact p.elim
 |_=>cases u<;>exact p.elim
def jS:W->W->Hx->R W:=λx y A=>match x with
 |.ref n=>match A[n]? with
  |some (.lst ws)=>if ws.length<qj then .ok .non (A.set n (.lst (ws++[y]))) else .bad|_=>.bad
 |_=>.bad
noncomputable def Ja (x:W)(A:Hx):Bool:=match x with
 |.ref n=>match A[n]? with
  |some (.lst _)=>true|_=>false
 |_=>false
def g0 {A:Hx}{w:W}(S:zQ K φ A H)(q:RV K φ H w v)(e:Ja w A=true):Vl K "list" v H:=by
 unfold Ja at e;cases w with
 |ref n=>
  dsimp only at e;cases E:A[n]? with
  |none=>rw[E]at e;cases e|some o=>cases o with
   |lst ws=>obtain⟨p,vs,rfl,_,h,_⟩:=S.lst q E;exact .inl ⟨rfl,_,je.of h⟩|_=>rw[E]at e;cases e
 |_=>cases e
def jj (g:W->W->Hx->R W)(a b:Ev):Ev:=λρ A=>(a ρ A).bind λx A1=>if Ja x A1 then(b ρ A1).bind λy A2=>g x y A2 else .bad
def XG {nm:Str}{id:String}{r:V->List V->Hp->VK->Prop}{g:W->W->Hx->R W}(slot:Slot "list" nm id)(i:typeOf (.builtin id)=pure (.type "method_descriptor"))(hm:Y3 X id r)(hn:∀x y A,jg (g x y A))
  (t:∀φ A H x y u v Q,zQ X.K φ A H->RV X.K φ H u x->RV X.K φ H v y->(g u v A).post (PB X.K φ H Q) Zq->r x [y] H Q)(ho:SE X xr a ma)(he:SE X xr b mb)
  (s:starEach [b] X.env=(false,eval b X.env)::starEach [] X.env)(c:attributeBase a nm X.env (eval a X.env)=eval a X.env)
  (d:((backTo cpos (starEach [b] X.env)).all (λx=>!x.1)&&(backToKw cpos (keywordEach [] X.env)).all (λx=>x.1.isSome)
   && decide ([b].length+([]:b9).length+(if ([]:b9).isEmpty then 0 else 1)<30))=true)(e:(apos.endLine==cpos.line)=true):
  SE X xr (.Call (.Attribute a nm apos) [b] [] cpos) (jj g ma mb):=
 PE.imp (Iq PySem.F.plainAttrs_list slot i hm ho (jD he yg s) c d e s (by rfl)) λσ H Q ⟨φ,A,ρ,S,re,h⟩=>by
  refine tM.go S re (qe.mp h) λw A1 n H1 v h1 l j q=>?_
  by_cases hl:Ja w A1=true
  ·rw[aj hl]at h1
   refine⟨g0 j q hl,?_⟩;refine tM.go j (re.mono l) (qJ (qe.mp h1) (λ_ _ z=>z) λ_ _ z=>z.mono l) λo A2 f C v2 h2 L B p=>?_;exact t f A2 C v v2 w o Q B (q.mono L) p (qJ (Yi (hn _ _ _) h2) (λ_ _ z=>z.mono (l.trans L)) λ_ _ z=>z)
  ·rw[ao hl]at h1;exact h1.elim
def Ad:∀x y A,jg (jS x y A):=λx y A=>by
 unfold jS
 split
 ·split
  ·exact ZI yc ju
  ·exact ju
 ·exact ju
def Zf:W->W->Hx->R W:=λx y A=>match x,y with
 |.ref n,.int i=>match A[n]? with
  |some (.lst ws)=>match (if jH i then seqIndex? i ws.length else none) with
   |some k=>match ws[k]? with
    |some w=>.ok w (A.set n (.lst (ws.eraseIdx k)))|none=>.bad
   |none=>.bad
  |_=>.bad
 |_,_=>.bad
def AM:∀x y A,jg (Zf x y A):=λx y A=>by
 unfold Zf
 split
 ·split
  ·split
   ·split
    ·exact yc
    ·exact ju
   ·exact ju
  ·exact ju
 ·exact ju
def k9:W->W->W->Hx->R Unit:=λo i v A=>match o,i with
 |.ref n,.int k=>match A[n]? with
  |some (.lst ws)=>match gT ws.length k with
   |some j=>.ok () (A.set n (.lst (ws.set j v)))|none=>.bad
  |_=>.bad
 |_,_=>.bad
def LN:∀o i v A,jg (k9 o i v A):=λo i v A=>by
 unfold k9
 split
 ·split
  ·split
   ·exact yc
   ·exact ju
  ·exact ju
 ·exact ju
def My:Io K Iu k9:=λφ A H o i v a w wv Q S f d q p=>by
 unfold k9 at p;cases a with
 |ref n=>cases w with
  |int k=>
   obtain rfl:=d;dsimp only at p;cases e:A[n]? with
   |none=>rw[e]at p;exact p.elim|some g=>cases g with
    |lst ws=>
     rw[e]at p;dsimp only at p;cases E:gT ws.length k with
     |none=>rw[E]at p;exact p.elim|some j=>
      rw[E]at p;obtain⟨l,vs,rfl,f1,g1,r⟩:=S.lst f e;have ln:Le K φ H φ (upd H l (.lst (vs.set j v))):=Le.upd f1 (λxs z=>by rw[g1]at z;cases z) (λ_ _ z=>by rw[g1]at z;cases z)
      obtain⟨c,b⟩:=S.write (o:=.lst ws) (o':=.lst (ws.set j wv)) e rfl rfl f1 ⟨_,j5,(r.mono ln).set (q.mono ln) j⟩;exact⟨l,vs,k,j,rfl,rfl,g1,by rw[<- r.length];exact E,p _ _ c b⟩
    |_=>rw[e]at p;exact p.elim
  |_=>exact p.elim
 |_=>cases w<;>exact p.elim
variable {m:Ev}
def hA {id:String}{g:W->Hx->R W}(i:yn X (.builtin id) r)(hn:∀w A,jg (g w A))(f:Vq X.K (λv=>r [v]) g)(hm:X.mg x=none)(d:bootBuiltins x=some (.builtin id))(j:SE X xr e m)(b:Gl X x:=by rfl)
  (a:x ≠ "__name__":=by decide)(c:(x==("__debug__":Str))=false:=by decide)(he:starEach [e] X.env=(false,eval e X.env)::starEach [] X.env:=by rfl)(l:(backTo pos (starEach [] X.env)).any (·.1)=false:=by rfl):
  SE X xr (.Call (.Name x p) [e] [] pos) (yw g m):=PE.imp (Z5 i b hm d (jD j yg he) a c he l) λσ H Q h=>yw.read (r:=λv=>r [v]) hn f σ H Q h
def hE {id:String}{g:W->Hx->R W}(i:yn X (.type id) r)(hn:∀w A,jg (g w A))(f:Vq X.K (λv=>r [v]) g)(hm:X.mg x=none)(d:bootBuiltins x=some (.type id))(j:SE X xr e m)(b:Gl X x:=by rfl)
  (a:x ≠ "__name__":=by decide)(c:(x==("__debug__":Str))=false:=by decide)(he:starEach [e] X.env=(false,eval e X.env)::starEach [] X.env:=by rfl)(l:(backTo pos (starEach [] X.env)).any (·.1)=false:=by rfl):
  SE X xr (.Call (.Name x p) [e] [] pos) (yw g m):=PE.imp (KG i b hm d (jD j yg he) a c he l) λσ H Q h=>yw.read (r:=λv=>r [v]) hn f σ H Q h
def Ie {id:String}{g:W->W->Hx->R W}(o:yn X (.builtin id) r)(hn:∀w i A,jg (g w i A))(n:yt X.K (λv c=>r [v,c]) g)(hm:X.mg x=none)(j:bootBuiltins x=some (.builtin id))(s:SE X xr a ma)(q:SE X xr b mb)(e:Gl X x)
  (d:x ≠ "__name__")(f:(x==("__debug__":Str))=false)(h1:starEach [a,b] X.env=(false,eval a X.env)::starEach [b] X.env)(h2:starEach [b] X.env=(false,eval b X.env)::starEach [] X.env)(l:(backTo pos (starEach [b] X.env)).any (·.1)=false):
  SE X xr (.Call (.Name x p) [a,b] [] pos) (zi g ma mb):=PE.imp (Z5 o e hm j (jD s (jD q yg h2) h1) d f h1 l) λσ H Q h=>zi.read (r:=λv c=>r [v,c]) hn n σ H Q h
noncomputable def Vc:W->Hx->R W
 |.int i,A=>.ok (.int (if i<0 then -i else i)) A|_,_=>.bad
noncomputable def WI:W->Hx->R W
 |.int i,A=>.ok (.int i) A|.bl k,A=>.ok (.int (if k then 1 else 0)) A|_,_=>.bad
def Sk:=gY λi j=>.int (if j > i then j else i)
def XC:=gY λi j=>.int (if j<i then j else i)
noncomputable def yC:W->Bool
 |.tup _=>false|.ref _=>false|.clo _ _ _=>false|.xc _=>false|.fn _=>false|_=>true
noncomputable def JQ:W->W->Bool
 |.non,.non=>true|.bl a,.bl b=>a==b|.bl a,.int b=>(if a then 1 else 0)==b|.int a,.bl b=>a==(if b then 1 else 0)|.int a,.int b=>a==b|.str a,.str b=>a==b|_,_=>false
def YW (x:W)(xs:List W):Bool:=xs.any λy=>JQ y x
def KH {w:W}(q:RV K φ H w v)(e:yC w=true):wg v=true:=by
 cases w<;>first
  |(cases e;done)
  |(obtain rfl:=q;rfl)
def Ni {w a:W}{b:V}(q:RV K φ H w v)(Q:RV K φ H a b)(e:yC w=true)(E:yC a=true):gu v b=JQ w a:=by
 cases w<;>cases a<;>first
  |(cases e;done)
  |(cases E;done)
  |(obtain rfl:=q;obtain rfl:=Q;rfl)
theorem NP {x:W}(q:RV K φ H x v)(e:yC x=true):∀{xs:List W}{vs:List V},zI K φ H xs vs->xs.all yC=true->vs.all wg=true/\Vh v vs=YW x xs
 |[],_,r,_=>by cases r;exact⟨rfl,rfl⟩|w::ws,_,⟨y,r,E,h,t⟩,h2=>by
  subst E;rw[List.all_cons,ah]at h2;obtain⟨I,i⟩:=NP q e t h2.2;refine⟨by rw[List.all_cons,KH h h2.1,I];rfl,?_⟩
  unfold Vh YW at i ⊢;rw[any_cons,any_cons,i,Ni h q h2.1 e]
def Q5 (neg:Bool):W->W->Hx->R W:=λx y A=>match zX y A with
 |some ws=>if yC x&&ws.all yC then .ok (.bl (if neg then !YW x ws else YW x ws)) A else .bad|none=>.bad
abbrev Ro:=Q5 false
abbrev Xl:=Q5 true
def LB {n:Bool}:∀x y A,jg (Q5 n x y A):=λx y A=>by
 unfold Q5
 split
 ·exact ZI yc ju
 ·exact ju
def LO {n:Bool}:yt K (Rv K n) (Q5 n):=λφ A H x y u v Q S q b p=>by
 unfold Q5 at p;cases es:zX v A with
 |none=>rw[es]at p;exact p.elim|some ws=>
  rw[es]at p;dsimp only at p
  by_cases hf:(yC u&&ws.all yC)=true
  ·rw[aj hf]at p
   rw[ah]at hf;obtain⟨a,ys,rfl,z,r⟩:=GA S b es;obtain⟨I,i⟩:=NP q hf.1 r hf.2;exact⟨a,ys,rfl,z,KH q hf.1,I,by rw[i];exact p φ H _ .refl S rfl⟩
  ·rw[ao hf]at p;exact p.elim
structure XS (X:Cx)(op:CmpOp)(g:W->W->Hx->R W):Prop where
 ex:∃r:R2,qU X (compareOp op) r/\(∀x y A,jg (g x y A))/\yt X.K r g
def hG:XS X .In Ro:=⟨_,Bo,LB,LO⟩
def UT:XS X .NotIn Xl:=⟨_,DX,LB,LO⟩
end
noncomputable def yH (f:W->Option PyData):List W->Option (List PyData)
 |[]=>some []|w::ws=>match f w,yH f ws with
  |some d,some ds=>some (d::ds)|_,_=>none
def qL (A:Hx):Nat->W->Option PyData
 |_,.non=>some .none|_,.bl b=>some (.bool b)|_,.int i=>some (.int i)|_,.str x=>if PyData.strOk x then some (.str x) else none|_,.clo _ _ _=>none|_,.xc _=>none|_,.fn _=>none|0,.tup _=>none|0,.ref _=>none|n+1,.tup ws=>(yH (qL A n) ws).map .tuple|n+1,.ref k=>match zX (.ref k) A with
  |some ws=>(yH (qL A n) ws).map .list|none=>none
def hH {K:Frag}{A:Hx}{us:List W}(S:zQ K φ A H)(q:RV K φ H (.ref n) v)(e:zX (.ref n) A=some us):∃a ys,v=.ref a/\je K H a ys/\zI K φ H us ys:=by
 obtain⟨a,rfl,c⟩:=q;unfold zX at e;dsimp only at e;cases E:A[n]? with
 |none=>rw[E]at e;cases e|some o=>
  rw[E]at e;obtain⟨d,b,r⟩:=S.ob n o E;rw[c]at b;cases b;cases o with
  |lst xs=>cases e;obtain⟨ys,h1,h2⟩:=r;exact⟨a,ys,rfl,je.of h1,h2⟩|ro xs=>cases e;obtain⟨ys,h1,h2⟩:=r;exact⟨a,ys,rfl,h1.sq,h2⟩|dct xs=>cases e|td _=>cases e|tr _=>cases e|tab _ _=>cases e
section
variable {a:Expr}
theorem Uz {K:Frag}{f:W->Option PyData}(hf:∀w v u d,RV K φ H w v->RelV v u->f w=some d->∃as,Reads h u d as):
  ∀{ws:List W}{vs:List V}{us:bL}{ds:List PyData},zI K φ H ws vs->Vals vs us->yH f ws=some ds->∃as,ReadsAll h us ds as
 |[],_,_,_,r,a,e=>by cases r;cases a;cases e;exact⟨[],.nil⟩|w::ws,_,_,ds,⟨v,r,i,q,t⟩,a,e=>by
  subst i;cases a with
  |cons g c=>
   unfold yH at e;cases E:f w with
   |none=>rw[E]at e;cases e|some d=>
    cases b:yH f ws with
    |none=>rw[E,b]at e;cases e|some D=>
     rw[E,b]at e;cases e;obtain⟨as,h1⟩:=hf w v _ d q g E;obtain⟨bs,h2⟩:=Uz hf t c b;exact⟨_,.cons h1 h2⟩
def GY {A:Hx}(I:Inv X pins σ H s)(S:zQ X.K φ A H):∀(n:Nat)(w:W)(v:V)(u:Value)(d:PyData),RV X.K φ H w v->RelV v u->qL A n w=some d->∃as,Reads s.heap u d as:=by
 intro n
 induction n with
 |zero=>
  intro w v u d q r e;cases w with
  |non=>obtain rfl:=q;cases r;cases e;exact⟨_,.none⟩|bl k=>obtain rfl:=q;cases r;cases e;exact⟨_,.bool k⟩|int k=>obtain rfl:=q;obtain⟨t,rfl⟩:=r;cases e;exact⟨_,.int k t⟩|str k=>
   obtain rfl:=q;obtain⟨t,rfl⟩:=r;unfold qL at e
   split at e
   ·cases e;exact⟨_,.str k t⟩
   ·cases e
  |tup _=>cases e|ref _=>cases e|clo _ _ _=>unfold qL at e;cases e|xc _=>unfold qL at e;cases e|fn _=>unfold qL at e;cases e
 |succ n l=>
  intro w v u d q r e;cases w with
  |non=>obtain rfl:=q;cases r;cases e;exact⟨_,.none⟩|bl k=>obtain rfl:=q;cases r;cases e;exact⟨_,.bool k⟩|clo _ _ _=>unfold qL at e;cases e|xc _=>unfold qL at e;cases e|fn _=>unfold qL at e;cases e|int k=>obtain rfl:=q;obtain⟨t,rfl⟩:=r;cases e;exact⟨_,.int k t⟩|str k=>
   obtain rfl:=q;obtain⟨t,rfl⟩:=r;unfold qL at e
   split at e
   ·cases e;exact⟨_,.str k t⟩
   ·cases e
  |tup ws=>
   obtain⟨a,vs,rfl,h,c⟩:=q;cases r;unfold qL at e;cases E:yH (qL A n) ws with
   |none=>rw[E]at e;cases e|some ds=>
    rw[E]at e;cases e;obtain⟨i,b,⟨o,h1,h2,k,g⟩,_⟩:=I.tuple h;obtain⟨as,f⟩:=Uz l c b E;exact⟨_,.tuple h1 h2 g (by simpa using f)⟩
  |ref k=>
   unfold qL at e;cases E:zX (.ref k) A with
   |none=>rw[E]at e;cases e|some ws=>
    rw[E]at e;dsimp only at e;obtain⟨a,ys,rfl,h,c⟩:=hH S q E;cases r;cases j:yH (qL A n) ws with
    |none=>rw[j]at e;cases e|some ds=>
     rw[j]at e;cases e;obtain⟨i,b,⟨o,p,h1,h2,_,g⟩,_⟩:=I.list h;obtain⟨as,f⟩:=Uz l c b j;exact⟨_,.list h1 h2 g (by simpa using f)⟩
def BR {A:Hx}:∀(n:Nat)(w:W)(d:PyData),qL A n w=some d->d.canLay0=true/\d.depth<=n:=by
 intro n;have lst:∀{n:Nat},(∀(w:W)(d:PyData),qL A n w=some d->d.canLay0=true/\d.depth<=n)->∀(ws:List W)(ds:List PyData),yH (qL A n) ws=some ds->PyData.canLayAll0 ds=true/\PyData.depthAll ds<=n:=by
  intro n i ws
  induction ws with
  |nil=>intro ds e;cases e;exact⟨by simp[PyData.canLayAll0],by simp[PyData.depthAll]⟩|cons w ws I=>
   intro ds e;unfold yH at e;cases E:qL A n w with
   |none=>rw[E]at e;cases e|some d=>
    cases b:yH (qL A n) ws with
    |none=>rw[E,b]at e;cases e|some D=>
     rw[E,b]at e;cases e;obtain⟨h1,h2⟩:=i w d E;obtain⟨H,c⟩:=I D b;refine⟨by simp[PyData.canLayAll0,h1,H],?_⟩
     simp only[PyData.depthAll];omega
 induction n with
 |zero=>
  intro w d e;cases w with
  |tup _=>cases e|ref _=>cases e|clo _ _ _=>unfold qL at e;cases e|xc _=>unfold qL at e;cases e|fn _=>unfold qL at e;cases e|str x=>
   unfold qL at e
   split at e
   ·rename_i h;cases e;exact⟨by simp[PyData.canLay0,h],by simp[PyData.depth]⟩
   ·cases e
  |_=>cases e;exact⟨by simp[PyData.canLay0],by simp[PyData.depth]⟩
 |succ n i=>
  intro w d e;cases w with
  |clo _ _ _=>unfold qL at e;cases e|xc _=>unfold qL at e;cases e|fn _=>unfold qL at e;cases e|tup ws=>
   unfold qL at e;cases a:yH (qL A n) ws with
   |none=>rw[a]at e;cases e|some ds=>
    rw[a]at e;cases e;obtain⟨h1,h2⟩:=lst i ws ds a;refine⟨by simp[PyData.canLay0,h1],?_⟩
    simp only[PyData.depth];omega
  |ref k=>
   unfold qL at e;cases a:zX (.ref k) A with
   |none=>rw[a]at e;cases e|some ws=>
    rw[a]at e;dsimp only at e;cases E:yH (qL A n) ws with
    |none=>rw[E]at e;cases e|some ds=>
     rw[E]at e;cases e;obtain⟨h1,h2⟩:=lst i ws ds E;refine⟨by simp[PyData.canLay0,h1],?_⟩
     simp only[PyData.depth];omega
  |str x=>
   unfold qL at e
   split at e
   ·rename_i h;cases e;exact⟨by simp[PyData.canLay0,h],by simp[PyData.depth]⟩
   ·cases e
  |_=>cases e;exact⟨by simp[PyData.canLay0],by simp[PyData.depth]⟩
def wU (neg:Bool):W->W->Hx->R W:=λx y A=>match qL A 8 x,qL A 8 y with
 |some d,some d'=>.ok (.bl (if neg then !PyData.eqv d d' else PyData.eqv d d')) A|_,_=>.bad
abbrev jB:=wU false
abbrev jo:=wU true
def LZ {n:Bool}:∀x y A,jg (wU n x y A):=λx y A=>by
 unfold wU
 split
 ·exact yc
 ·exact ju
def SY (K:Frag)(neg:Bool):R2:=λx y H Q=>∃φ A u v d d',zQ K φ A H/\RV K φ H u x/\RV K φ H v y/\qL A 8 u=some d/\qL A 8 v=some d'/\Q (.bl (if neg then !PyData.eqv d d' else PyData.eqv d d')) H
def GZ {A:Hx}{w:W}{d:PyData}(h:qL A 8 w=some d):SeqAt.shaped d=true:=by
 obtain⟨h1,h2⟩:=BR 8 w d h;unfold SeqAt.shaped;rw[h1,Bool.true_and,ai];omega
def hJ (g:X.A.units+64<cLine):qU X (compareOp .Eq) (SY X.K false):=by
 intro pins s σ H x y v u Q I b r h;obtain⟨φ,A,a,w,d,d',S,f,c,E,e,q⟩:=h;obtain⟨as,h1⟩:=GY I S 8 a x v d f b E;obtain⟨bs,h2⟩:=GY I S 8 w y u d' c r e;exact eq_dataH h1 h2 (GZ E) (GZ e) g ⟨.bl _,H,I,rfl,q⟩
def hV (g:X.A.units+64<cLine):qU X (compareOp .NotEq) (SY X.K true):=by
 intro pins s σ H x y v u Q I b r h;obtain⟨φ,A,a,w,d,d',S,f,c,E,e,q⟩:=h;obtain⟨as,h1⟩:=GY I S 8 a x v d f b E;obtain⟨bs,h2⟩:=GY I S 8 w y u d' c r e;exact ne_dataH h1 h2 (GZ E) (GZ e) g ⟨.bl _,H,I,rfl,q⟩
def MR {K:Frag}{n:Bool}:yt K (SY K n) (wU n):=λφ A H x y u v Q S a q p=>by
 unfold wU at p;cases e:qL A 8 u with
 |none=>rw[e]at p;exact p.elim|some d=>
  cases E:qL A 8 v with
  |none=>rw[e,E]at p;exact p.elim|some d'=>
   rw[e,E]at p;exact⟨φ,A,u,v,d,d',S,a,q,e,E,p φ H _ .refl S rfl⟩
def we {k:Nat}(h:jO k X.A):wQ X .Eq jB:=JA (hJ h.units) LZ MR
def kh {k:Nat}(h:jO k X.A):wQ X .NotEq jo:=JA (hV h.units) LZ MR
end
mutual
noncomputable def W.nr:W->Bool
 |.tup ws=>qO ws|.ref _=>false|.clo _ ws _=>qO ws|_=>true
noncomputable def qO:List W->Bool
 |[]=>true|w::ws=>w.nr&&qO ws
end
def iso (f:Fn):Fn:=λus A=>if qO us then(match f us [] with
 |.ok w A1=>(match w with
  |.ref n=>(match A1[n]? with
   |some (.lst ws)=>if qO ws then .ok (.ref A.length) (A++[.lst ws]) else .bad|some (.dct kvs)=>if qO (kvs.map (·.2)) then .ok (.ref A.length) (A++[.dct kvs]) else .bad|_=>.bad)
  |w=>if w.nr then .ok w A else .bad)
 |_=>.bad) else .bad
def yI (f:Fn):Fn:=λus A=>match us with
 |.ref n::us=>(match A[n]? with
  |some (.lst ws)=>if qO ws&&qO us then(match f (.ref 0::us) [.lst ws] with
   |.ok w A1=>(match (List.head? A1:Option O) with
    |some (.lst a)=>if qO a&&w.nr then .ok w (A.set n (.lst a)) else .bad|_=>.bad)
   |_=>.bad) else .bad
  |_=>.bad)
 |_=>.bad
section
variable {K:Frag}{φ' φ1:bM}{H' H1:Hp}{A A1:Hx}
mutual
theorem RV.nrm (tp:∀a vs,qH K H a vs->qH K H' a vs)(fz:∀a o u,H a=some (.frz o u)->H' a=some (.frz o u)):∀{w:W}{v:V},w.nr=true->RV K φ H w v->RV K φ' H' w v
 |.non,_,_,h=>h|.bl _,_,_,h=>h|.int _,_,_,h=>h|.str _,_,_,h=>h|.tup ws,_,n,⟨a,vs,e,t,r⟩=>⟨a,vs,e,tp _ _ t,zI.nrm tp fz n r⟩|.ref _,_,n,_=>nomatch n
 |.clo _ ws P,_,n,⟨a,ob,u,c,d,uc,vs,e,h1,h2,f,r⟩=>⟨a,ob,u,c,d,uc,vs,e,fz _ _ _ h1,fz _ _ _ h2,f,zI.nrm tp fz n r⟩|.xc _,_,_,⟨a,b,u,C,e,h1,h2⟩=>⟨a,b,u,C,e,fz _ _ _ h1,h2⟩|.fn _,_,_,h=>h
theorem zI.nrm (tp:∀a vs,qH K H a vs->qH K H' a vs)(fz:∀a o u,H a=some (.frz o u)->H' a=some (.frz o u)):∀{ws:List W}{vs:List V},qO ws=true->zI K φ H ws vs->zI K φ' H' ws vs
 |[],_,_,h=>h|w::ws,_,n,⟨v,r,e,h,t⟩=>by
  have N:(w.nr&&qO ws)=true:=n;rw[ah]at N;exact⟨v,r,e,RV.nrm tp fz N.1 h,zI.nrm tp fz N.2 t⟩
end
def zQ.none:zQ K [] [] H:=⟨rfl,λi j a o o' _ _ h=>by simp at h,λn o h=>by simp at h⟩
def zQ.frame (S:zQ K φ A H)(k:∀a o,H a=some o->H1 a=some o)(l:Le K φ H φ H1):zQ K φ A H1:=
 ⟨S.len,S.inj,λn o e=>let ⟨a,h1,q⟩:=S.ob n o e;⟨a,h1,q.keep l λu h=>k a u h⟩⟩
def Le.apart (l:Le K [] H φ1 H1):Le K φ H φ H1/\∀a o,H a=some o->H1 a=some o:=
 have k:∀a o,H a=some o->H1 a=some o:=λa o h=>l.fr a o h λn e=>by simp at e
 ⟨⟨λ_ _ h=>h,l.tp,λa o h _=>k a o h,λ_ _ h=>.inl h,l.st,l.fz⟩,k⟩
def zQ.trackN {u:HO}{o:O}(S:zQ K φ A H)(C:H D=some u)(n:∀(k:Nat)(q:O),φ[k]? =some D->A[k]? =some q->q.mut=false)(new:OR K (φ++[D]) H D o):zQ K (φ++[D]) (A++[o]) H:=by
 have l:QG K φ H (φ++[D]) H:=⟨λn a h=>by
  have:=(ck.mp h).1
  rw[ag this];exact h,λ_ _ h=>h,λ_ _ _ h=>h⟩
 have old:∀(i:Nat) a,(φ++[D])[i]? =some a->i<A.length->φ[i]? =some a:=λi a e f=>by
  rw[ag (by rw[S.len];exact f)]at e;exact e
 have last:∀a,(φ++[D])[A.length]? =some a->a=D:=λa e=>by
  rw[ar (by rw[S.len];exact aq _),S.len]at e
  simpa using e.symm
 refine⟨by simp[S.len],λi j a B y h1 h2 g b m1 m2=>?_,λk o' e=>?_⟩
 ·by_cases f:i<A.length
  ·rw[ag f]at g
   by_cases c:j<A.length
   ·rw[ag c]at b
    exact S.inj i j a B y (old i a h1 f) (old j a h2 c) g b m1 m2
   ·exfalso
    have v:j=A.length:=by have:=(ck.mp b).1;simp at this;omega
    subst v;have z:=n i B (by rw[<- last a h2];exact old i a h1 f) g
    rw[m1]at z;cases z
  ·have w:i=A.length:=by have:=(ck.mp g).1;simp at this;omega
   by_cases c:j<A.length
   ·exfalso
    rw[ag c]at b;subst w;have z:=n j y (by rw[<- last a h1];exact old j a h2 c) b
    rw[m2]at z;cases z
   ·have:=(ck.mp b).1;simp at this;omega
 ·by_cases hn:k<A.length
  ·rw[ag hn]at e
   obtain⟨a,E,q⟩:=S.ob k o' e;refine⟨a,l.ex _ _ E,?_⟩;cases o' with
   |lst ws=>obtain⟨vs,z,r⟩:=q;exact⟨vs,z,r.monoW l⟩|dct ws=>obtain⟨vs,z,Z,r⟩:=q;exact⟨vs,z,Z,r.monoW l⟩|td _=>obtain⟨vs,z,Z,t,r⟩:=q;exact⟨vs,z,Z,λx p=>l.tp _ _ (t x p),r.monoW l⟩|tr _=>obtain⟨ob,u,vs,z,d,Z,t,r⟩:=q;exact⟨ob,u,vs,z,d,Z,λx p=>l.tp _ _ (t x p),r.monoW l⟩|tab _ _=>exact q|ro ws=>obtain⟨vs,z,r⟩:=q;exact⟨vs,z,r.monoW l⟩
  ·have s:k=A.length:=by have:=(ck.mp e).1;simp at this;omega
   subst s;rw[ar (aq _)]at e;simp at e;subst e;exact⟨D,by rw[ar (by rw[S.len];exact aq _),S.len];simp,new⟩
def zQ.adopt {o:O}(S:zQ K φ A H)(l:Le K [] H φ1 H1)(h1:φ1[n]? =some a)(m:∃u,H1 a=some u)(new:OR K (φ++[a]) H1 a o):
  Le K φ H (φ++[a]) H1/\zQ K (φ++[a]) (A++[o]) H1/\RV K (φ++[a]) H1 (.ref A.length) (.ref a):=by
 obtain⟨L,k⟩:=l.apart (φ:=φ);have h0:H a=Option.none:=by
  rcases l.nw n a h1 with e|e
  ·simp at e
  ·exact e
 obtain⟨u,b⟩:=m;have s:=S.frame k L;refine⟨L.YD h0,s.trackN b (λk q f d=>?_) new,a,rfl,by rw[<- S.len];simp⟩
 cases c:q.mut with
 |false=>rfl|true=>
  obtain⟨g,E,r⟩:=S.ob k q d;rw[f]at E;cases E;obtain⟨z,h,_⟩:=r.there c;rw[h0]at h;cases h
def OR.nrL {ws:List W}(h:OR K φ H a (.lst ws))(n:qO ws=true):OR K φ' H a (.lst ws):=let ⟨vs,e,r⟩:=h;⟨vs,e,r.nrm (λ_ _ t=>t) (λ_ _ _ t=>t) n⟩
def OR.nrD {kvs:List (Key×W)}(h:OR K φ H a (.dct kvs))(n:qO (kvs.map (·.2))=true):OR K φ' H a (.dct kvs):=let ⟨vs,e,E,r⟩:=h;⟨vs,e,E,r.nrm (λ_ _ t=>t) (λ_ _ _ t=>t) n⟩
theorem zJ.iso {k:Nat}{f:Fn}(F:zJ P w K mg base k x n f):zJ P w K mg base k x n (iso f):=by
 obtain⟨z,fd,ps,F,a,b,c⟩:=F;refine⟨z,fd,ps,F.imp λvs H Q E ⟨hl,φ,A,ws,S,r,q⟩=>?_,a,b,c⟩;unfold Mi.iso at q
 by_cases hn:qO ws=true
 ·rw[aj hn]at q
  refine⟨hl,[],[],ws,zQ.none,r.nrm (λ_ _ t=>t) (λ_ _ _ t=>t) hn,?_⟩;cases hf:f ws [] with
  |ok w A1=>
   rw[hf]at q;dsimp only at q;intro u H1 v L C g;cases w with
   |ref m=>
    dsimp only at q;cases hm:A1[m]? with
    |none=>rw[hm]at q;exact q.elim|some o=>
     rw[hm]at q;obtain⟨D,j,d⟩:=C.ob m o hm;obtain⟨a2,rfl,e⟩:=g;rw[j]at e;cases e;cases o with
     |lst us=>
      dsimp only at q
      by_cases h:qO us=true
      ·rw[aj h]at q
       obtain⟨t,i,_⟩:=d.there rfl;obtain⟨s,p,B⟩:=S.adopt L j ⟨t,i⟩ (o:=.lst us) (d.nrL h);exact q _ _ _ s p B
      ·rw[ao h]at q;exact q.elim
     |dct us=>
      dsimp only at q
      by_cases h:qO (us.map (·.2))=true
      ·rw[aj h]at q
       obtain⟨t,i,_⟩:=d.there rfl;obtain⟨s,p,B⟩:=S.adopt L j ⟨t,i⟩ (o:=.dct us) (d.nrD h);exact q _ _ _ s p B
      ·rw[ao h]at q;exact q.elim
     |ro us=>exact q.elim|td _=>exact q.elim|tr _=>exact q.elim|tab _ _=>exact q.elim
   |_=>
    all_goals
     dsimp only at q;obtain⟨l,kk⟩:=L.apart (φ:=φ)
     first
      |exact q φ H1 v l (S.frame kk l) g
      |(
        split at q
        ·rename_i hw
         exact q φ H1 v l (S.frame kk l) (RV.nrm (λ_ _ t=>t) (λ_ _ _ t=>t) hw g)
        ·exact q.elim)
  |exc y A1=>rw[hf]at q;exact q.elim|bad=>rw[hf]at q;exact q.elim
 ·rw[ao hn]at q;exact q.elim
theorem zJ.yI {k:Nat}{f:Fn}(F:zJ P w K mg base k x n f):zJ P w K mg base k x n (yI f):=by
 obtain⟨fa,fd,ps,F,a,b,c⟩:=F;refine⟨fa,fd,ps,F.imp λvs H Q E ⟨hl,φ,A,ws,S,r,q⟩=>?_,a,b,c⟩;unfold Mi.yI at q;cases ws with
 |nil=>exact q.elim|cons Y us=>cases Y with
  |ref n=>
   dsimp only at q;cases l:A[n]? with
   |none=>rw[l]at q;exact q.elim|some o=>cases o with
    |lst xs=>
     rw[l]at q;dsimp only at q
     by_cases hn:(qO xs&&qO us)=true
     ·rw[aj hn]at q
      rw[ah]at hn;obtain⟨v0,vr,rfl,q0,Z⟩:=r;obtain⟨p,ys,rfl,f1,g1,g⟩:=S.lst q0 l;have S0:zQ K [p] [.lst xs] H:=by
       refine⟨rfl,λi j a o o' h1 h2 N M _ _=>?_,λm o e=>?_⟩
       ·have:=(ck.mp h1).1
        have:=(ck.mp h2).1
        simp at*;omega
       ·have:m=0:=by have:=(ck.mp e).1;simp at this;omega
        subst this;simp at e;subst e;exact⟨p,rfl,ys,g1,g.nrm (λ_ _ t=>t) (λ_ _ _ t=>t) hn.1⟩
      refine⟨hl,[p],[.lst xs],.ref 0::us,S0,.cons ⟨p,rfl,rfl⟩ (Z.nrm (λ_ _ t=>t) (λ_ _ _ t=>t) hn.2),?_⟩;cases hf:f (.ref 0::us) [.lst xs] with
      |ok w A1=>
       rw[hf]at q;dsimp only at q;intro B H1 v L S1 q1;cases h0:List.head? A1 with
       |none=>rw[h0]at q;exact q.elim|some o=>cases o with
        |lst zs=>
         rw[h0]at q;dsimp only at q
         by_cases hw:(qO zs&&w.nr)=true
         ·rw[aj hw]at q
          rw[ah]at hw;have apart:∀a o,a≠p->H a=some o->H1 a=some o:=λa o ne h=>L.fr a o h λm e=>by
           have:m=0:=by have:=(ck.mp e).1;simp at this;omega
           subst this;simp at e;exact ne e.symm
          have lf:Le K φ H φ H1:=⟨λ_ _ h=>h,L.tp,λa o h nn=>apart a o (λe=>nn n (by rw[e];exact f1)) h,λ_ _ h=>.inl h,L.st,L.fz⟩
          have hp:B[0]? =some p:=L.ex 0 p rfl;obtain⟨p',s,U,I,D⟩:=S1.ob 0 _ (by rw[<- List.head?_eq_getElem?];exact h0)
          rw[hp]at s;cases s;refine q φ H1 v lf ?_ (RV.nrm (λ_ _ t=>t) (λ_ _ _ t=>t) hw.2 q1);have mt:∀(i:Nat)(w:O),(A.set n (.lst zs))[i]? =some w->w.mut=true->∃J,A[i]? =some J/\J.mut=true:=λi w e mw=>by
           by_cases hi:i=n
           ·subst hi;exact⟨_,l,rfl⟩
           ·rw[az (Ne.symm hi)]at e;exact⟨w,e,mw⟩
          refine⟨by simp[S.len],λi j a o1 o2 h1 h2 N M m1 m2=>?_,λi w e=>?_⟩
          ·obtain⟨X,s,k1⟩:=mt i o1 N m1
           obtain⟨T,I,k2⟩:=mt j o2 M m2;exact S.inj i j a X T h1 h2 s I k1 k2
          ·by_cases hi:i=n
           ·subst hi
            have:i<A.length:=(ck.mp l).1
            rw[aC this]at e;cases e;exact⟨p,f1,U,I,D.nrm (λ_ _ t=>t) (λ_ _ _ t=>t) hw.1⟩
           ·rw[az (Ne.symm hi)]at e
            obtain⟨a,s,C⟩:=S.ob i w e;refine⟨a,s,?_⟩
            by_cases hm:w.mut=true
            ·have ne:a≠p:=λz=>hi (S.inj i n a w _ s (by rw[z];exact f1) e l hm rfl)
             exact C.keep lf λz hz=>apart a z ne hz
            ·cases w with
             |lst _=>exact absurd rfl hm|dct _=>exact absurd rfl hm|td _=>exact absurd rfl hm|tr _=>obtain⟨ob,u,vs,q,d,k,t,r⟩:=C;exact⟨ob,u,vs,lf.fz _ _ _ q,d,k,λx hx=>lf.tp _ _ (t x hx),r.mono lf⟩|tab _ _=>exact absurd rfl hm|ro ws=>
              obtain⟨vs,g,D⟩:=C;refine⟨vs,?_,D.mono lf⟩;rcases g with ⟨ob,g⟩|g
              ·refine .inl ⟨ob,apart a _ ?_ g⟩
               intro z;subst z;rw[g1]at g;cases g
              ·exact .inr g
         ·rw[ao hw]at q;exact q.elim
        |_=>rw[h0]at q;exact q.elim
      |exc y A1=>rw[hf]at q;exact q.elim|bad=>rw[hf]at q;exact q.elim
     ·rw[ao hn]at q;exact q.elim
    |_=>rw[l]at q;exact q.elim
  |_=>exact q.elim
end
section
variable {K:Frag}{a b:Expr}{m:Ev}{st:Stmt}
noncomputable def intsOf:List W->Option (bK)
 |[]=>some []|w::ws=>match w with
  |.int i=>match intsOf ws with
   |some is=>some (i::is)|none=>none
  |_=>none
theorem GF:∀{ws:List W}{ns:bK},intsOf ws=some ns->ws=ns.map W.int
 |[],_,e=>by cases e;rfl|w::ws,ns,e=>by
  unfold intsOf at e;cases w with
  |int i=>
   dsimp only at e;cases E:intsOf ws with
   |none=>rw[E]at e;cases e|some is=>rw[E]at e;cases e;rw[GF E];rfl
  |_=>cases e
noncomputable def yv:List Int->Int->Int
 |[],m=>m|i::is,m=>yv is (if i > m then i else m)
noncomputable def kF:List Int->Int->Int
 |[],m=>m|i::is,m=>kF is (m+i)
def preSum_eq (ns:bK):∀k,preSum (λi=>ns.getD i 0) k+kF (ns.drop k) 0=kF ns 0∨ns.length<k:=by
 have add:∀(l:bK)(m:Int),kF l m=m+kF l 0:=λl=>by
  induction l with
  |nil=>intro m;show m=m+0;omega|cons i is I=>intro m;show kF is (m+i)=m+kF is (0+i);rw[I (m+i),I (0+i)];omega
 intro k
 induction k with
 |zero=>left;show(0:Int)+kF ns 0=_;omega|succ k I=>
  rcases I with I|I
  ·by_cases h:k<ns.length
   ·left
    have e:ns.drop k=ns[k]::ns.drop (k+1):=bp h;rw[e]at I;have a:kF (ns[k]::ns.drop (k+1)) 0=ns[k]+kF (ns.drop (k+1)) 0:=by show kF (ns.drop (k+1)) (0+ns[k])=_;rw[add];omega
    rw[a]at I;show preSum _ k+ns.getD k 0+_=_;have E:ns.getD k 0=ns[k]:=by rw[aa,ae h];rfl
    rw[E];omega
   ·right;omega
  ·right;omega
def C7 (ns:bK):preSum (λi=>ns.getD i 0) ns.length=kF ns 0:=by
 rcases preSum_eq ns ns.length with h|h
 ·rw[drop_length]at h
  have:kF [] 0=0:=rfl
  omega
 ·omega
def By (ns:bK):∀(k:Nat)(a:k<ns.length),yv (ns.drop (k+1)) (ns.getD (argBest (λi j=>decide (ns.getD i 0 > ns.getD j 0)) k) 0)=yv ns.tail (ns.getD 0 0):=by
 intro k
 induction k with
 |zero=>intro _;rw[show argBest _ 0=0 from rfl,List.drop_one]|succ k I=>
  intro a;have H:k<ns.length:=by omega
  rw[<- I H];have e:ns.drop (k+1)=ns[k+1]::ns.drop (k+1+1):=bp a;rw[e];have E:ns.getD (k+1) 0=ns[k+1]:=by rw[aa,ae a];rfl
  show yv _ (ns.getD (if decide (ns.getD (k+1) 0 > ns.getD (argBest _ k) 0)=true then k+1 else argBest _ k) 0)=yv _ (if ns[k+1] > ns.getD (argBest _ k) 0 then ns[k+1] else ns.getD (argBest _ k) 0);rw[E]
  by_cases h:ns[k+1] > ns.getD (argBest (λi j=>decide (ns.getD i 0 > ns.getD j 0)) k) 0
  ·rw[aj (by rw[ai];exact h),aj h,E]
  ·rw[ao (by rw[ai];exact h),ao h]
noncomputable def XJ (K:Frag)(C:List Int->Prop)(f:List Int->Int):List V->Hp->VK->Prop:=λxs H Q=>∃a ns,xs=[.ref a]/\(je K H a (ns.map V.int)∨qH K H a (ns.map V.int))/\C ns/\Q (.int (f ns)) H
def G1 (r:Vals (ns.map V.int) its){v:Value}(h:its[i]? =some v):∃t,v=.int (ns.getD i 0) t:=by
 have a:i<its.length:=(ck.mp h).1;have H:i<ns.length:=by have:=r.length;rw[ak]at this;omega
 obtain⟨u,h1,h2⟩:=r.get (i:=i) (x:=V.int ns[i]) (by simp[H])
 rw[h]at h1;cases h1;obtain⟨t,rfl⟩:=h2;exact⟨t,by rw[aa,ae H];rfl⟩
def Bm (f:X.calm=true):yn X (.builtin "sum") (XJ X.K (λ_=>True) λns=>kF ns 0):=by
 intro pins s σ H xs us Q I r h;obtain⟨a,ns,rfl,z,_,q⟩:=h;obtain⟨u,rfl,d⟩:=vals1 r;cases d;refine call_sum_walkG (GV I f z λb g fp wr S s2 c j W st p back=>?_);refine⟨g,fp,wr,_,_,S,λi=>ns.getD i 0,rfl,W,st,p,λi v h=>G1 c h,λh' t t' k=>?_⟩;have e:b.length=ns.length:=by have:=c.length;rw[ak]at this;omega
 rw[e,C7];exact⟨.int _,H,back h' t k,⟨_,rfl⟩,q⟩
def Ab (o:X.calm=true):yn X (.builtin "max") (XJ X.K (λns=>ns≠[]) λns=>yv ns.tail (ns.getD 0 0)):=by
 intro pins s σ H xs us Q I r h;obtain⟨a,ns,rfl,z,f,q⟩:=h;obtain⟨u,rfl,l⟩:=vals1 r;cases l;have L:0<ns.length:=List.length_pos_iff.mpr f;refine call_max_walk (GV I o z λd y fp wr S s2 c J W st p back=>?_);have e:d.length=ns.length:=by have:=c.length;rw[ak]at this;omega
 refine⟨y,fp,wr,_,_,S,λi j=>decide (ns.getD i 0 > ns.getD j 0),rfl,W,st,p,by omega,?_,λv h' T n k=>?_⟩
 ·intro i j D C s' Q' E h1 h2 x
  obtain⟨t1,rfl⟩:=G1 c h1;obtain⟨g,rfl⟩:=G1 c h2;exact(PyProof.Rows.gt_int x:wpAny (model X.prog X.w) X.A.in1 (compareOp .Gt (.int (ns.getD i 0) t1) (.int (ns.getD j 0) g)) Q' E s')
 ·obtain⟨t,rfl⟩:=G1 c n
  rw[e];have b:=By ns (ns.length-1) (by omega)
  rw[show ns.length-1+1=ns.length by omega,drop_length]at b
  have B:ns.getD (argBest (λi j=>decide (ns.getD i 0 > ns.getD j 0)) (ns.length-1)) 0=yv ns.tail (ns.getD 0 0):=b;rw[B];exact⟨.int _,H,back h' T k,⟨_,rfl⟩,q⟩
def yS:List W->Hx->R W:=λws A=>match intsOf ws with
 |some (i::is)=>.ok (.int (yv is i)) A|_=>.bad
def wB:List W->Hx->R W:=λws A=>match intsOf ws with
 |some is=>.ok (.int (kF is 0)) A|none=>.bad
def hW:∀ws A,jg (yS ws A):=λws A=>by
 unfold yS;split
 ·exact yc
 ·exact ju
def hX:∀ws A,jg (wB ws A):=λws A=>by
 unfold wB;split
 ·exact yc
 ·exact ju
def Nv {ws:List W}{a:Addr}(z:je K H a ys∨qH K H a ys)(r:zI K φ H ws ys)(e:intsOf ws=some ns):je K H a (ns.map V.int)∨qH K H a (ns.map V.int):=by
 rw[GF e]at r;rw[<- zI.ints.mp r];exact z
def hZ:Q9 K (XJ K (λns=>ns≠[]) λns=>yv ns.tail (ns.getD 0 0)) yS:=λφ A H a ys ws Q S z r p=>by
 unfold yS at p;cases e:intsOf ws with
 |none=>rw[e]at p;exact p.elim|some ns=>cases ns with
  |nil=>rw[e]at p;exact p.elim|cons i is=>rw[e]at p;exact⟨a,i::is,rfl,Nv z r e,(by intro z;cases z),p φ H _ .refl S rfl⟩
def h7:Q9 K (XJ K (λ_=>True) λns=>kF ns 0) wB:=λφ A H a ys ws Q S z r p=>by
 unfold wB at p;cases e:intsOf ws with
 |none=>rw[e]at p;exact p.elim|some ns=>rw[e]at p;exact⟨a,ns,rfl,Nv z r e,trivial,p φ H _ .refl S rfl⟩
def Q6 (y:W):List W->Nat->Nat
 |[],n=>n|w::ws,n=>Q6 y ws (if JQ w y then n+1 else n)
theorem G3 (y:W):∀(ws:List W)(n:Nat),Q6 y ws n=n+ws.countP λw=>JQ w y
 |[],n=>by simp[Q6]|w::ws,n=>by
  show Q6 y ws _=_;rw[G3 y ws,bE]
  by_cases h:JQ w y=true
  ·rw[aj h,aj h];omega
  ·rw[ao h,ao h];omega
def Yv:W->W->Hx->R W:=λx y A=>match x with
 |.tup ws=>if yC y&&ws.all yC then .ok (.int (Q6 y ws 0)) A else .bad|_=>.bad
def h8 (K:Frag):V->List V->Hp->VK->Prop:=λx vs H Q=>∃a xs y,x=.ref a/\vs=[y]/\qH K H a xs/\wg y=true/\xs.all wg=true/\Q (.int (xs.countP λz=>gu z y)) H
theorem Us {y:V}:∀{xs:List V}{us:bL},Vals xs us->xs.all wg=true->us.countP (kN y)=xs.countP λz=>gu z y
 |_,_,.nil,_=>rfl|_,_,.cons r t,h=>by
  rw[List.all_cons,ah]at h;rw[bE,bE,Us t h.2,Tz r h.1]
def ia:Y3 X "tuple.count" (h8 X.K):=by
 intro pins s σ H x vs v us Q I b d h;obtain⟨a,xs,y,rfl,rfl,t,g,fx,q⟩:=h;cases b;obtain⟨u,rfl,e⟩:=d.one;obtain⟨i,r,pp,_⟩:=I.tuple t;obtain⟨⟨cls,dd,data,sl⟩,ho,c,n,hd⟩:=id pp;simp only at c hd;subst c hd;refine call_meets F.slot_tuple_count ⟨_,ho,rfl⟩ F.entry_tuple_count (F.args_tuple_count_2 _ _) (SeqAt.tuple_countAt a i.toArray n dd sl u (kN y)) ⟨ho,λz f=>Js e g r fx z (by simpa using f),?_⟩
 refine⟨.int _,H,I.tok _,⟨_,rfl⟩,?_⟩;rw[<- Us r fx]at q;simpa using q
noncomputable def K7 (g:W->W->Hx->R W)(a b:Ev):Ev:=λρ A=>(a ρ A).bind λx A1=>match x with
 |.tup ws=>(b ρ A1).bind λy A2=>g (.tup ws) y A2|_=>.bad
noncomputable def ib (K:Frag)(r:V->List V->Hp->VK->Prop)(to:TE)(t:TA):TE:=λσ H Q=>to σ H λx H1=>∃p ys,x=.ref p/\qH K H1 p ys/\t σ H1 λxs h=>r x xs h Q
def ic {o:Expr}{to:TE}{t:TA}{name:Str}{id:String}{r:V->List V->Hp->VK->Prop}(slot:Slot "tuple" name id)(y:typeOf (.builtin id)=pure (.type "method_descriptor"))(hm:Y3 X id r)(ho:PE X o to)(u:PA X (e::es) t)
  (c:attributeBase o name X.env (eval o X.env)=eval o X.env)
  (w:((backTo cpos (starEach (e::es) X.env)).all (λx=>!x.1)&&(backToKw cpos (keywordEach [] X.env)).all (λx=>x.1.isSome)
   && decide ((e::es).length+([]:b9).length+(if ([]:b9).isEmpty then 0 else 1)<30))=true)
  (b:(apos.endLine==cpos.line)=true)(l:starEach (e::es) X.env=(false,eval e X.env)::starEach es X.env)(n:(backTo cpos (starEach es X.env)).any (·.1)=false):
  PE X (.Call (.Attribute o name apos) (e::es) [] cpos) (ib X.K r to t):=by
 intro pins s σ H Q I h;refine wpAny_Call_method_late c w b rfl (zY (ho pins s σ H _ I h) λv s1 ⟨x,H1,i,f,p,ys,E,ty,g⟩=>?_);subst E;cases f;obtain⟨j,_,pp,_⟩:=i.tuple ty;refine⟨"tuple",id,PySem.F.plainAttrs_tuple,slot,y,pp.typeIs,λa z=>by cases z;exact i.tupleN ty,?_⟩
 have A:=u cpos pins s1 σ H1 _ i g;rw[l]at A ⊢;refine Calls.callWith_builtin (by show(false || (backTo cpos (starEach es X.env)).any (·.1))=false;rw[n];rfl) (Calls.evalArgs_plain ?_)
 exact zY A λus s2 ⟨vs,C,B,d,q⟩=>hm pins s2 σ C (.ref p) vs (.ref p) us Q B rfl d q
theorem Uo {x:W}(q:RV K φ H x v)(e:yC x=true):∀{xs:List W}{vs:List V},zI K φ H xs vs->xs.all yC=true->vs.all wg=true/\(vs.countP λz=>gu z v)=xs.countP λz=>JQ z x
 |[],_,r,_=>by cases r;exact⟨rfl,rfl⟩|w::ws,_,⟨y,r,E,h,t⟩,h2=>by
  subst E;rw[List.all_cons,ah]at h2;obtain⟨I,i⟩:=Uo q e t h2.2;refine⟨by rw[List.all_cons,KH h h2.1,I];rfl,?_⟩
  rw[bE,bE,i,Ni h q h2.1 e]
variable {c:Expr}
noncomputable def Rh (lo d:Int)(n:Nat):It:=⟨λi _=>i<n,λi H x h=>h=H/\x=.int (lo+i * d),λi _=>n<=i⟩
def Ci (it:Addr)(lo d:Int)(n:Nat):Turn P w K tg (Rh lo d n) [it] it (λi h=>IsRangeIter h it (lo+(i:Nat) * d) ((n:Int)-(i:Nat)) d) where
 mem:=by simp
 obj:=λi h st b a=>by
  have q:b=it:=by simpa using a
  subst q;exact⟨_,st,λv z=>nomatch (show Data.fields _=Data.cell v from z)⟩
 keep:=λi h h' st k=>k it (by simp) _ st
 item:=by
  intro X e hw f c i pins s σ H E I hf st g;subst e hw f;obtain⟨f0,f1,f2,l,f4,j⟩:=hf it (by simp)
  have u:=Walks.range (prog:=X.prog) (w:=X.w) (I.ok.hd c) it lo d n;refine u.item i s _ _ g st λv h' T r S kk=>?_;obtain⟨t,rfl⟩:=r;have x:Inv X pins σ H { s with heap:=h',toks:=T }:=I.turned (λb o a p=>kk b o (by simpa using a) p) f0 f1 l f4 j
  exact⟨_,rfl,Xz (s:={ s with heap:=h',toks:=T }) (n := "range_iterator") S rfl rfl (by decide) ⟨.int (lo+i * d),H,x,⟨t,rfl⟩,⟨rfl,rfl⟩,S,λb a=>(hf b a).1⟩⟩
 done:=by
  intro X e hw f c i pins s σ H E I hf st g;subst e hw f;obtain⟨f0,f1,f2,l,f4,j⟩:=hf it (by simp)
  exact wpAny_pyNext_range_end (I.ok.hd c) st (by have hn:n<=i:=g;omega) λh' q=>⟨rfl,I.turned (t':=s.toks) (λb o a p=>q b o a p) f0 f1 l f4 j⟩
 self:=λ_ _ _ _ _ st h=>wpAny_pyIter_rangeiter st h
def rangeSize_down (x y:Int):Builtin.Range.rangeSize x y (-1)=((x-y).toNat:Int):=by
 unfold Builtin.Range.rangeSize;rw[ao (by decide)]
 split
 ·rw[show -(-1:Int)=1 by rfl,ediv_one];omega
 ·omega
def small_down {x y:Int}(h1:-(2 ^ 62)<=x)(h2:x<2 ^ 62)(H:-(2 ^ 62)<=y)(h:y<2 ^ 62):Builtin.Range.small x y (-1)=true:=by
 unfold Builtin.Range.small;rw[rangeSize_down];simp only[Builtin.Range.rangeFitsLong,ah,bj,decide_eq_true_eq,aH,show ¬((-1:Int) > 0) by decide,if_false]
 omega
def ie (t:TA):TI:=λσ H R=>t σ H λvs H1=>∃i j:Int,vs=[.int i,.int j,.int (-1)]/\(-(2 ^ 62)<=i/\i<2 ^ 62/\-(2 ^ 62)<=j/\j<2 ^ 62)/\R (Rh i (-1) (i-j).toNat) H1
def BI {t:TA}(z:Gl X "range")(hm:X.mg "range"=none)(B:PA X [a,b,c] t)(v:starEach [a,b,c] X.env=(false,eval a X.env)::starEach [b,c] X.env)(w:(backTo pos (starEach [b,c] X.env)).any (·.1)=false):
  PI X tg (.Call (.Name "range" p) [a,b,c] [] pos) (ie t):=by
 intro pins s σ H R I h;refine Call_ (Qe I z hm boot_range (PyProof.Rows.callWith_type1 (zY (B pos pins s σ H _ I h) λus s1 ⟨vs,H1,J,f,Q⟩=>?_) v w));obtain⟨i,j,rfl,⟨Q,n,l,g⟩,q⟩:=Q;obtain⟨U,u,rfl,⟨t1,rfl⟩,r⟩:∃U u,us=U::u/\RelV (.int i) U/\Vals [.int j,.int (-1)] u:=by
  cases f with
  |cons x y=>exact⟨_,_,rfl,x,y⟩
 obtain⟨L,K,rfl,⟨T,rfl⟩,⟨t3,rfl⟩⟩:=r.two;refine call_range_3 (by decide) ?_ (.inl (PyProof.noPylong_small (by omega)))
 have d:Inv X pins σ H1 { s1 with heap:=s1.heap.push { cls:=.type "range",data:=.fields #[.int i t1,.int j T,.int (-1) t3] } }:=J.kept (t':=s1.toks) λb o e=>af _ e
 refine wpAny_pyIter_range (IsRange.new ..) (small_down Q n l g) ?_;refine⟨_,[_],_,_,H1,rfl,d.kept (t':=s1.toks) λb o e=>af _ e,Ci _ i (-1) (i-j).toNat,?_,λb A=>?_,q⟩
 ·have D:i+((0:Nat):Int) * (-1)=i:=by simp
  have C:(((i-j).toNat:Nat):Int)-((0:Nat):Int)=Builtin.Range.rangeSize i j (-1):=by rw[rangeSize_down];omega
  show IsRangeIter _ _ (i+((0:Nat):Int) * (-1)) ((((i-j).toNat:Nat):Int)-((0:Nat):Int)) (-1);rw[D,C];exact ay _ rfl
 ·have E:=cw.mp A
  subst E;exact d.fpOk (aq _) (d.hok.fresh (aq _))
noncomputable def YQ (h:Int)(n:Nat):jJ:=⟨λ_ i=>if i<n then some (some (.int (h-i))) else some none,n⟩
def ig {a:Int}:ZW K φ H (YQ a n) (Rh a (-1) n):=λi b d A' lw S=>by
 unfold YQ;dsimp only
 by_cases h:i<n
 ·rw[aj h]
  refine⟨λw e=>?_,λe=>by cases e⟩
  cases e;refine⟨h,λx H1 ⟨c,E⟩=>?_⟩;subst c;refine⟨.refl,S,?_⟩;rw[E];show V.int _=V.int _
  congr 1;omega
 ·rw[ao h]
  exact⟨λw e=>(by cases e),λ_=>Nat.le_of_not_lt h⟩
def Wn (m M:Ev):Ei:=λρ A=>(m ρ A).bind λw A1=>(M ρ A1).bind λa A2=>match w,a with
 |.int i,.int j=>if jH i&&jH j then .ok (YQ i (i-j).toNat) A2 else .bad|_,_=>.bad
def ih (t:TA):TE:=λσ H Q=>t σ H λvs H1=>∃j:Int,vs=[.int j]/\∀p,H1 p=none->Q (.ref p) (upd H1 p (.rng 0 j))
def ij {T:TA}(g:Gl X "range")(hm:X.mg "range"=none)(e:PA X [a] T)(d:starEach [a] X.env=[(false,eval a X.env)]):PE X (.Call (.Name "range" p) [a] [] pos) (ih T):=by
 intro pins s σ H Q I h;refine Call_ (Qe I g hm boot_range (PyProof.Rows.callWith_type1 (zY (e pos pins s σ H _ I h) λus s1 ⟨vs,H1,i,r,c⟩=>?_) d rfl));obtain⟨j,rfl,q⟩:=c;obtain⟨u,rfl,⟨t,rfl⟩⟩:=r.one;refine call_range_1 ⟨.ref _,_,i.laid (o:=.rng 0 j) (λb o E=>af _ E) (aq _) ?_,rfl,q _ (i.hok.fresh (aq _))⟩;exact⟨_,_,_,ay _ rfl⟩
noncomputable def JJ (n:Nat):List V:=(List.range n).map λ(i:Nat)=>V.int i
def CK (A:X.calm=true):yn X (.type "list") (λxs H Q=>∃(r:Addr) (j:Int),xs=[.ref r]/\H r=some (.rng 0 j)/\(-(2 ^ 62)<=j/\j<2 ^ 62)/\j.toNat<=sizeLine/\∀l,H l=none->Q (.ref l) (upd H l (.lst (JJ j.toNat)))):=by
 intro pins s σ H xs us Q I r h;obtain⟨p,j,rfl,y,⟨D,B⟩,z,q⟩:=h;obtain⟨u,rfl,w⟩:=vals1 r;cases w;obtain⟨t1,g,t3,ho⟩:=I.hok p _ y;have hl:sizeLine=16777216:=sizeLine_eq;refine PySem.call_list_range (n:=j.toNat) (I.ok.hd A) (show IsRange s.heap p 0 j 1 t1 g t3 from ho) (small_one (by omega) (by omega) D B) (by rw[rangeSize_one];split<;>omega) (by omega) λh' T acc C kk S ⟨hn,d⟩=>?_
 refine⟨.ref s.heap.objs.size,_,I.laid (t':=T) (o:=.lst (JJ j.toNat)) kk (aq _) ?_,rfl,q _ (I.hok.fresh (aq _))⟩;refine⟨by unfold JJ;simpa using z,acc.toList,C,?_,by simpa using S⟩
 have a:∀(l:bL)(k:Nat),(∀(i:Nat) v,l[i]? =some v->∃t,v=.int ((k+i:Nat):Int) t)->Vals ((List.range' k l.length).map λ(i:Nat)=>V.int i) l:=by
  intro l
  induction l with
  |nil=>intro k _;exact .nil|cons v l x=>
   intro k e;rw[bo,range'_succ,aS];refine .cons ?_ (x (k+1) λi f a=>?_)
   ·obtain⟨t,rfl⟩:=e 0 v rfl
    exact⟨t,rfl⟩
   ·obtain⟨t,rfl⟩:=e (i+1) f (by simpa using a)
    exact⟨t,by congr 1;omega⟩
 have b:acc.toList.length=j.toNat:=by simpa using hn
 have:=a acc.toList 0 λi v c=>by
  obtain⟨t,rfl⟩:=d i v (by simpa using c)
  exact⟨t,by congr 1;omega⟩
 rw[b]at this;unfold JJ;rw[range_eq_range'];exact this
def Xh (m:Ev):Ev:=λρ A=>(m ρ A).bind λw A1=>match w with
 |.int j=>if jH j&&decide (j.toNat<=qj) then .ok (.ref A1.length) (A1++[.lst ((List.range j.toNat).map λ(i:Nat)=>W.int i)]) else .bad|_=>.bad
noncomputable def ik:V->V->Hp->VK->Prop:=λo i H Q=>∃p xs k v,o=.ref p/\i=.int k/\0<=k/\H p=some (.lst xs)/\xs[k.toNat]? =some v/\Q v H
def il:IT X ik:=by
 intro pins s σ H o i ov g Q I ro d h;obtain⟨p,xs,k,v,rfl,rfl,h0,f,e,q⟩:=h;cases ro;obtain⟨t,rfl⟩:=d;obtain⟨a,r,P,z⟩:=I.list (je.of f);obtain⟨u,b,c⟩:=r.get e;have hn:=Jy;have hl:=r.length;have j:k.toNat<a.length:=(ck.mp b).1;exact wpAny_getItem_list P.isList h0 (by omega) (by simpa using b) ⟨v,H,I,c,q⟩
def Wq (mo mi me:Ev):Ex:=λρ A=>(mo ρ A).bind λo A1=>(mi ρ A1).bind λi A2=>match o,i with
 |.ref n,.int k=>if 0<=k then(match (A2[n]?:Option O) with
  |some (.lst ws)=>match ws[k.toNat]? with
   |some (.int x)=>(me ρ A2).bind λy b=>match y with
    |.int y=>(k9 (.ref n) (.int k) (.int (x+y)) b).bind λ_ a=>.ok (.nx ρ) a|_=>.bad
   |_=>.bad
  |_=>.bad) else .bad
 |_,_=>.bad
noncomputable def Yy (i j k:Nat):Tg:=λw ρ=>match w with
 |.tup [x,.tup [y,z]]=>some (((ρ.set i (some x)).set j (some y)).set k (some z))|_=>none
end
def jW (k:Bool)(h:Heap)(it a:Addr)(i:Nat):Prop:=if k=true then h.IsListIter it a i else h.IsTupleIter it a i
def yo (k:Bool)(h:Heap)(a:Addr)(items:Array Value):Prop:=if k=true then h.IsList a items else h.IsTuple a items
def wd (k:Bool)(K:Frag)(H:Hp)(a:Addr)(xs:List V):Prop:=if k=true then je K H a xs else qH K H a xs
noncomputable def JF (k:Bool):String:=if k then "list_iterator" else "tuple_iterator"
def jW.ob {k:Bool}{it:Addr}(x:jW k h it a i):∃o,h.get? it=some o/\o.cls=.type (JF k)/\o.data=.fields #[.ref a,.int i 0]:=by
 cases k<;>exact x
def jW.mk {k:Bool}{it:Addr}(x:∃o,h.get? it=some o/\o.cls=.type (JF k)/\o.data=.fields #[.ref a,.int i 0]):jW k h it a i:=by
 cases k<;>exact x
def jW.to {k:Bool}{it:Addr}(x:jW k h it a i)(e:∀o,h.get? it=some o->h'.get? it=some o):jW k h' it a i:=let ⟨o,h1,r⟩:=x.ob;.mk ⟨o,e o h1,r⟩
def yo.ob {k:Bool}(x:yo k h a items):∃o,h.get? a=some o/\o.cls=.type (if k then "list" else "tuple")/\∃n,o.data=.seq items n:=by
 cases k<;>exact x
def yo.to {k:Bool}(x:yo k h a items)(e:∀o,h.get? a=some o->h'.get? a=some o):yo k h' a items:=by
 cases k with
 |false=>exact let ⟨o,h1,r⟩:=x.ob;⟨o,e o h1,r⟩|true=>exact let ⟨o,h1,r⟩:=x.ob;⟨o,e o h1,r⟩
section
variable {prog:Program}{A:Around}{k:Bool}{it:Addr}
def Mv (hl:yo k s.heap a items)(h:Q (.ref s.heap.objs.size) { s with heap:=s.heap.push { cls:=.type (JF k),data:=.fields #[.ref a,.int 0 0] } }):wpAny (model prog w) A (pyIter (.ref a)) Q E s:=by
 cases k with
 |true=>exact wpAny_pyIter_list hl h|false=>exact wpAny_pyIter_tuple hl h
def G2 {x:Value}(hit:jW k s.heap it a i)(hl:yo k s.heap a items)(f:items[i]? =some x)
  (g:∀h',jW k h' it a (i+1)->Heap.SameBut it s.heap h'->Q x { s with heap:=h' }):wpAny (model prog w) A (Builtin.SmallTypes.nextOf (.ref it)) Q E s:=by
 cases k with
 |true=>exact wpAny_nextOf_list_item hit hl f g|false=>
  have h:s.heap.IsTupleIter it a i:=hit;obtain⟨o,b,e,H⟩:=id h;obtain⟨j,c,_,na,d⟩:s.heap.IsTuple a items:=hl;unfold Builtin.SmallTypes.nextOf;refine cf (wpAny_callSpecial?_slot (name:=Str.ofString "__next__") h.typeIs F.slot_tuple_iterator_next (wpAny_call_entry F.slot_tuple_iterator_next h.typeIs F.entry_tuple_iterator_next ?_ (F.args_tuple_iterator_next_1 _)));show wpAny _ _ (field (.ref it) 0 >>= _) _ _ s;refine cf (wpAny_field b H (x:=.ref a) rfl ?_);show wpAny _ _ (if (Value.ref a==Value.none)=true then _ else _) _ _ s;rw[ao (show ¬((Value.ref a==Value.none)=true) from aD)]
  show wpAny _ _ (field (.ref it) 1 >>= _) _ _ s;refine cf (wpAny_field b H (x:=.int i 0) rfl ?_);show wpAny _ _ (seqItems? (.ref a) >>= _) _ _ s;refine cf (wpAny_seqItems c d ?_);simp only[aG,f];refine cf (wpAny_setField b H (by simp) (cg ⟨x,rfl,cg (g _ (.mk ?_) (Heap.SameBut.update ..))⟩))
  exact⟨_,Heap.get?_update_self _ b (Obj.isFreed_of_fields (Obj.data_mapFields H _)),(Obj.cls_mapFields ..).trans e,by rw[Obj.data_mapFields H];simp[rawInt]⟩
def TH (d:A.handled=none)(hit:jW k s.heap it a i)(hl:yo k s.heap a items)(g:items[i]? =none)
  (j:∀h' e,Heap.ExtBut it s.heap h'->(∃o,h'.get? e=some o/\o.cls=.type "StopIteration")->E (.ref e) { s with heap:=h' }):wpAny (model prog w) A (Builtin.SmallTypes.nextOf (.ref it)) Q E s:=by
 cases k with
 |true=>exact wpAny_nextOf_list_end d hit hl g j|false=>
  have h:s.heap.IsTupleIter it a i:=hit;obtain⟨n,H,l,b⟩:=id h;obtain⟨p,c,_,na,f⟩:s.heap.IsTuple a items:=hl;unfold Builtin.SmallTypes.nextOf;refine cf (wpAny_callSpecial?_slot (name:=Str.ofString "__next__") h.typeIs F.slot_tuple_iterator_next (wpAny_call_entry F.slot_tuple_iterator_next h.typeIs F.entry_tuple_iterator_next ?_ (F.args_tuple_iterator_next_1 _)));show wpAny _ _ (field (.ref it) 0 >>= _) _ _ s;refine cf (wpAny_field H b (x:=.ref a) rfl ?_);show wpAny _ _ (if (Value.ref a==Value.none)=true then _ else _) _ _ s;rw[ao (show ¬((Value.ref a==Value.none)=true) from aD)]
  show wpAny _ _ (field (.ref it) 1 >>= _) _ _ s;refine cf (wpAny_field H b (x:=.int i 0) rfl ?_);show wpAny _ _ (seqItems? (.ref a) >>= _) _ _ s;refine cf (wpAny_seqItems c f ?_);simp only[aG,g];refine cf (wpAny_rule (cf (wpAny_setField H b (by simp) ?_)))
  show wpAny _ _ (newExc (.type "StopIteration") [] >>= _) _ _ _;refine cf ?_;simp only[newExc,newTuple];refine cf (wpAny_newObj_type ?_ (by size_fits))
  refine cf (m:=firstArgMember _ _) (wpAny_of_eq (a:=Value.none) (by first|rfl|(simp only[firstArgMember];rfl)) ?_);refine wpAny_newObj_type ?_ (by size_fits)
  simp only[raiseNew];refine cf (wpAny_handled ?_)
  first|rw[show A.in1.handled=none from d]|rw[d]
  refine cf (cg (wpAny_throw ?_));exact j _ _ (((Heap.SameBut.update ..).extBut.push _).push _) ⟨_,ay _ rfl,rfl⟩
def NI (g:A.handled=none)(c:a≠it):Draws prog w A it [it,a] items.size (λi v=>items[i]? =some v) (λi h=>jW k h it a i/\yo k h a items) where
 live:=λ_ _ st=>let ⟨o,ho,_⟩:=st.1.ob;⟨o,ho⟩
 frame:=λ_ _ _ st d=>⟨st.1.to λo e=>d it (by simp) o e,st.2.to λo e=>d a (by simp) o e⟩
 item:=λi s Q E f st j=>G2 st.1 st.2 (x:=items[i]) (by simp[f]) λh' b H=>j _ h' s.toks (by simp[f]) ⟨b,st.2.to λo e=>H.extBut a o c e⟩ H
 done:=λs Q E st l=>TH g st.1 st.2 (by simp) l
end
section
def _root_.L2.Inv.spun {T:Addr}(I:Inv X pins σ H s)(k:∀b u,b∉fp->s.heap.get? b=some u->h'.get? b=some u)(hf:∀b∈fp,wC X pins H b)(hT:s.heap.objs.size<=T)
  (new:jv X.prog X.w (upd H T o) h' T o):Inv X pins σ (upd H T o) { s with heap:=h',toks:=t' }:=by
 have hn:H T=none:=I.hok.fresh hT;have lt:∀b u,s.heap.get? b=some u->b≠T:=λb u e=>aQ (aE (aL e) hT);have N:∀b u,H b=some u->b∉fp:=λb u e z=>by rw[(hf b z).1]at e;cases e
 refine I.step (g':=s.gens) (d':=s.drawn) (ch:=fp) (λb a=>let ⟨_,f1,_,d,f4,f⟩:=hf b a;⟨d,f1,f4,f⟩) (λb o _ _ h e _=>k b o h e) (λb o _ _ h e _=>⟨o.slots,k b o h e⟩)
  (λb o _ e n=>by rw[qz (lt b o e)];exact n) (λb o h e=>⟨o,k b o h e⟩) (λb xs e=>by rw[qz (kT e hn)];exact e) (λb u xs e=>by rw[qz (kT e hn)];exact e)
  (λb ps e=>⟨#[],by rw[qz (kT e hn),e];simp⟩) (λm hm=>?_) (λb u e=>?_) I.bare
 ·obtain⟨o,E,p,ho,r⟩:=hm
  exact⟨o,E,p,k _ o (λz=>(hf _ z).2.1 rfl) ho,r⟩
 ·by_cases a:b=T
  ·subst a;rw[j5]at e;cases e;exact new
  ·rw[qz a]at e
   refine(I.hok b u e).stay (λc v h q=>k c v ?_ q) (λc q=>by rw[qz (kT q hn)];exact q) λc xs q=>by rw[qz (kT q hn)];exact q
   rcases h with z|z
   ·rw[z];exact N b u e
   ·exact N c _ z
def _root_.L2.Inv.spun0 (I:Inv X pins σ H s)(k:∀b u,b∉fp->s.heap.get? b=some u->h'.get? b=some u)(hf:∀b∈fp,wC X pins H b):Inv X pins σ H { s with heap:=h',toks:=t' }:=by
 have N:∀b u,H b=some u->b∉fp:=λb u e z=>by rw[(hf b z).1]at e;cases e
 refine I.step (g':=s.gens) (d':=s.drawn) (ch:=fp) (λb a=>let ⟨_,f1,_,d,f4,f⟩:=hf b a;⟨d,f1,f4,f⟩) (λb o _ _ h e _=>k b o h e) (λb o _ _ h e _=>⟨o.slots,k b o h e⟩)
  (λb o _ e n=>n) (λb o h e=>⟨o,k b o h e⟩) (λb xs e=>e) (λb u xs e=>e) (λb ps e=>⟨#[],by rw[e];simp⟩) (λm hm=>?_) (λb u e=>?_) I.bare
 ·obtain⟨o,E,p,ho,r⟩:=hm
  exact⟨o,E,p,k _ o (λz=>(hf _ z).2.1 rfl) ho,r⟩
 ·refine(I.hok b u e).stay (λc v h q=>k c v ?_ q) (λc q=>q) λc xs q=>q
  rcases h with z|z
  ·rw[z];exact N b u e
  ·exact N c _ z
def _root_.L2.Inv.sq {k:Bool}(I:Inv X pins σ H s)(h:wd k X.K H a xs):∃i:bL,Vals xs i/\yo k s.heap a i.toArray/\xs.length<=sizeLine:=by
 cases k with
 |true=>obtain⟨i,r,p,z⟩:=I.list h;exact⟨i,r,p.isList,z⟩|false=>obtain⟨i,r,p,z⟩:=I.tuple h;exact⟨i,r,(show s.heap.IsTuple a i.toArray from p),z⟩
def _root_.L2.Inv.sq_inj {k:Bool}(I:Inv X pins σ H s)(h:wd k X.K H a xs)(h':wd k X.K H a ys):xs=ys:=by
 cases k with
 |true=>exact I.list_inj h h'|false=>exact I.tuple_inj h h'
end
def Ra (k:Bool)(K:Frag)(a:Addr):It:=
 ⟨λi H=>∃xs x,wd k K H a xs/\xs[i]? =some x,λi H x h=>∃p y,(∀xs,wd k K H a xs->xs[i]? =some y)/\H p=none/\x=.ref p/\h=upd H p (.tup [.int i,y]),λi H=>∃xs,wd k K H a xs/\xs.length=i⟩
def BG {K:Frag}(k:Bool)(a n it:Addr):Turn P w K (.Tuple elts kk tpos) (Ra k K a) [n,it] n (λi h=>(∃old,IsEnum h n it i old)/\jW k h it a i/\n≠it) where
 mem:=by simp
 obj:=λi h st b f=>by
  obtain⟨⟨old,he⟩,g,_⟩:=st;rcases cm.mp f with rfl|f
  ·exact⟨_,he,λv z=>nomatch z⟩
  ·rw[cw.mp f]
   obtain⟨o,ho,_,hd⟩:=g.ob;exact⟨o,ho,λv z=>by rw[hd]at z;cases z⟩
 keep:=λi h h' ⟨⟨old,he⟩,g,ne⟩ kp=>⟨⟨old,kp n (by simp) _ he⟩,g.to λo r=>kp it (by simp) o r,ne⟩
 item:=by
  intro X hP hw hK hc i pins s σ H E I hf st U;subst hP hw hK;obtain⟨⟨old,he⟩,g,ne⟩:=st;obtain⟨xs,x,D,C⟩:=U;obtain⟨d,J,t,hz⟩:=I.sq D;obtain⟨u,hu,ru⟩:=J.get C;have S:i<d.toArray.size:=by simpa using (ck.mp hu).1
  obtain⟨oa,j,hca,na,e⟩:=t.ob;have A:a≠it:=λz=>by
   obtain⟨oi,c,Z,p⟩:=g.ob;rw[<- z,j]at c;cases c;rw[p]at e;cases e
  have ane:n≠a:=λz=>by
   have B:s.heap.get? a=_:=z ▸ he;rw[j]at B;cases B;cases e
  refine wpAny_pyNext_enum_itemD (NI (k:=k) (items:=d.toArray) (I.ok.hd hc) A) he ⟨g,t⟩ S ne (by simp[ne,ane]) λy h1 T M ho Q hT hsz hk=>?_
  have ey:y=u:=by
   have:d[i]? =some y:=by simpa using M
   rw[hu]at this;exact(aF this).symm
  subst ey;refine⟨_,rfl,wpAny_letOwnedTupleGo_enum ho λh2 Y l=>?_⟩;have L:n<s.heap.objs.size:=aL he;have hT2:h2.get? s.heap.objs.size=some { cls:=.type "tuple",data:=.seq #[.int i T,y] }:=l.extBut _ _ (ne_of_gt L) hT;refine⟨.ref s.heap.objs.size,upd H s.heap.objs.size (.tup [.int i,x]),?_,rfl,⟨s.heap.objs.size,x,λys M=>by rw[I.sq_inj M D];exact C,I.hok.fresh (aq _),rfl,rfl⟩,⟨⟨_,by simpa using Y⟩,?_,ne⟩,λb f=>?_⟩
  ·refine I.spun (fp:=[n,it]) (t':=T+1) (λb o f r=>?_) hf (aq _) ?_
   ·exact l.extBut _ _ (λz=>f (by simp[z])) (hk b o (λz=>f (by simp[z])) (λz=>f (by simp[z])) r)
   ·exact⟨by show 2<=sizeLine;decide,[.int i T,y],.cons ⟨T,rfl⟩ (.cons ru .nil),_,hT2,⟨rfl,rfl⟩,0,rfl⟩
  ·exact Q.1.to λo r=>l.extBut _ _ (λz=>ne z.symm) r
  ·have bn:b≠s.heap.objs.size:=λz=>by
    rcases cm.mp f with q|q
    ·exact absurd L (by rw[<- q,z];exact aV _)
    ·obtain⟨oi,c,_⟩:=g.ob
     exact absurd (aL c) (by rw[<- cw.mp q,z];exact aV _)
   show upd H s.heap.objs.size _ b=none;rw[qz bn];exact(hf b f).1
 done:=by
  intro X hP hw hK hc i pins s σ H E I hf st U;subst hP hw hK;obtain⟨⟨old,he⟩,g,ne⟩:=st;obtain⟨xs,D,C⟩:=U;obtain⟨d,J,t,hz⟩:=I.sq D;have en':d.toArray.size=i:=by rw[aw,<- J.length];exact C
  obtain⟨oa,j,hca,na,e⟩:=t.ob;have A:a≠it:=λz=>by
   obtain⟨oi,c,Z,p⟩:=g.ob;rw[<- z,j]at c;cases c;rw[p]at e;cases e
  refine wpAny_pyNext_enum_endD (NI (k:=k) (items:=d.toArray) (I.ok.hd hc) A) he ⟨by rw[en'];exact g,t⟩ λh1 N=>⟨rfl,?_⟩
  exact I.spun0 (fp:=[n,it]) (t':=s.toks) (λb o f r=>N b o (λz=>f (by simp[z])) r) hf
 self:=λ_ _ _ _ _ ⟨⟨_,he⟩,_⟩ h=>wpAny_pyIter_enum he h
open AutoSeq1 (wpAny_loadPart')
abbrev Va (h:Heap)(k:Bool)(a:Addr):Heap:=h.push { cls:=.type (JF k),data:=.fields #[.ref a,.int 0 0] }
abbrev Hk (h:Heap)(k:Bool)(a:Addr):Heap:=(Va h k a).push { cls:=.type "enumerate",data:=.fields #[.none,.bool false,.ref h.objs.size,rawInt 0,.none,.none] }
def Co (a:Addr)(items:Array Value)(n:Nat)(dd:cb)(sl:Array (bQ)):
  Meets (Builtin.«enumerate.__new__» ⟨[.type "enumerate",.ref a],[]⟩) (λ_ R s=>s.heap.get? a=some { cls:=.type "tuple",dict:=dd,data:=.seq items n,slots:=sl }/\R (.ok (.ret (.ref (Va s.heap false a).objs.size))) { s with heap:=Hk s.heap false a }):=
 .of_wp λprog w A R s h=>by
  obtain⟨p,g,d,t,os⟩:=s;obtain⟨H,h⟩:=h;have b:=sub_enumerate;have hT:Heap.IsTuple (Shared.heap ⟨p,g,d,t,os⟩) a items:=⟨_,H,rfl,n,rfl⟩
  wp_walk using wpAny_loadPart' H
  refine wpAny_stack_any λst=>cg ?_;split
  ·rename_i c _ _ _ _ _
   cases (c==Value.type "enumerate")<;>(wp_walk using wpAny_loadPart' H,wpAny_pyIter_tuple hT;exact⟨_,rfl,h⟩)
  ·wp_walk using wpAny_loadPart' H,wpAny_pyIter_tuple hT
   exact⟨_,rfl,h⟩
section
variable {prog:Program}{A:Around}
def B6 {k:Bool}(hl:yo k s.heap a items)
  (h:∀h',IsEnum h' (s.heap.objs.size+1) s.heap.objs.size 0 .none->jW k h' s.heap.objs.size a 0->(∀b o,s.heap.get? b=some o->h'.get? b=some o)->Q (.ref (s.heap.objs.size+1)) { s with heap:=h' }):
  wpAny (model prog w) A (call (.type "enumerate") [.ref a]) Q E s:=by
 cases k with
 |true=>exact call_enumerate_list hl λh' g f _ e=>h h' g f e|false=>
  obtain⟨⟨c,dd,D,sl⟩,d,H,n,hd⟩:=(show s.heap.IsTuple a items from hl)
  replace H:c=.type "tuple":=H
  replace hd:D=.seq items n:=hd
  subst H hd;refine callType_new F.called_enumerate (by decide) (F.typeCall_enumerate_1 _) (F.newCall_enumerate_1 _) (λobj=>F.args_object_init_2 obj _) F.entry_enumerate_new (Co a items n dd sl) ⟨d,?_⟩
  have z:(Va s.heap false a).objs.size=s.heap.objs.size+1:=bq ..;have he:IsEnum (Hk s.heap false a) (Va s.heap false a).objs.size s.heap.objs.size 0 .none:=ay _ rfl;show _/\_;rw[z]at he ⊢;exact⟨⟨_,he,rfl⟩,h _ he (.mk ⟨_,af _ (ay _ rfl),rfl,rfl⟩) λb o x=>af _ (af _ x)⟩
end
section
variable {a b:Expr}{m:Ev}
def ip (K:Frag)(t:TA):TI:=λσ H R=>t σ H λvs H1=>∃p k xs,vs=[.ref p]/\wd k K H1 p xs/\R (Ra k K p) H1
def boot_enumerate:bootBuiltins "enumerate"=some (.type "enumerate"):=by rfl
def boot_zip:bootBuiltins "zip"=some (.type "zip"):=by rfl
def iq {t:TA}(l:Gl X "enumerate")(hm:X.mg "enumerate"=none)(o:PA X [a] t)(g:starEach [a] X.env=[(false,eval a X.env)]):
  PI X (.Tuple elts kk tpos) (.Call (.Name "enumerate" p) [a] [] pos) (ip X.K t):=by
 intro pins s σ H R I h;refine Call_ (Qe I l hm boot_enumerate (PyProof.Rows.callWith_type1 (zY (o pos pins s σ H _ I h) λus s1 ⟨vs,H1,i,d,Q⟩=>?_) g rfl));obtain⟨p,k,xs,rfl,j,q⟩:=Q;obtain⟨u,rfl,r⟩:=d.one;cases r;obtain⟨f,w,sq,x⟩:=i.sq j;refine B6 sq λh' e v E=>wpAny_pyIter_enum e ?_;refine⟨s1.heap.objs.size+1,[s1.heap.objs.size+1,s1.heap.objs.size],_,_,H1,rfl,i.kept (t':=s1.toks) E,BG k p _ _,⟨⟨_,by simpa using e⟩,v,Nat.succ_ne_self _⟩,λb n=>?_,q⟩
 have c:s1.heap.objs.size<=b:=by
  rcases cm.mp n with z|z
  ·rw[z];exact Nat.le_succ _
  ·rw[cw.mp z];exact aq _
 exact i.fpOk c (i.hok.fresh c)
noncomputable def atEnd (ws:List W)(i:Nat)(f:W->W):Option (Option W):=match ws[i]? with
 |some x=>some (some (f x))|none=>if ws.length=i then some none else none
def kH (w:W)(n:Nat):jJ:=⟨λA i=>match zX w A with
 |some ws=>atEnd ws i λx=>.tup [.int i,x]|none=>none,n⟩
noncomputable def Q4 (w:W):Bool:=match w with
 |.tup _=>false|_=>true
def GN {K:Frag}{A:Hx}{w:W}{ws:List W}(S:zQ K φ A H)(q:RV K φ H w v)(e:zX w A=some ws):∃p ys,v=.ref p/\wd (Q4 w) K H p ys/\zI K φ H ws ys:=by
 cases w with
 |tup us=>cases e;obtain⟨a,vs,E,t,r⟩:=q;exact⟨a,vs,E,t,r⟩|ref n=>
  obtain⟨a,E,f⟩:=q;unfold zX at e;dsimp only at e;cases c:A[n]? with
  |none=>rw[c]at e;cases e|some o=>
   rw[c]at e;obtain⟨d,b,r⟩:=S.ob n o c;rw[f]at b;cases b;cases o with
   |lst xs=>cases e;obtain⟨y,h1,h2⟩:=r;exact⟨a,y,E,je.of h1,h2⟩|ro xs=>cases e;obtain⟨y,h1,h2⟩:=r;exact⟨a,y,E,h1.sq,h2⟩|dct xs=>cases e|td _=>cases e|tr _=>cases e|tab _ _=>cases e
 |non=>cases e|bl _=>cases e|clo _ _ _=>cases e|xc _=>cases e|fn _=>cases e|int _=>cases e|str _=>cases e
def Ur {K:Frag}{a:bM}{A':Hx}{h:Hp}{w:W}{b:List W}{p:Addr}(q:RV K φ H w (.ref p))(lw:QG K φ H a h)(S:zQ K a A' h)(E:zX w A'=some b):∃y,wd (Q4 w) K h p y/\zI K a h b y:=by
 obtain⟨P,ys,e,h1,h2⟩:=GN S (RV.monoW lw q) E;cases e;exact⟨ys,h1,h2⟩
def ir {K:Frag}{w:W}{p:Addr}(q:RV K φ H w (.ref p)):ZW K φ H (kH w n) (Ra (Q4 w) K p):=λi a f A' lw S=>by
 unfold kH;dsimp only;cases es:zX w A' with
 |none=>exact⟨λ_ z=>(by cases z),λz=>(by cases z)⟩|some ws=>
  dsimp only;obtain⟨ys,h1,h2⟩:=Ur q lw S es;unfold atEnd;cases E:ws[i]? with
  |none=>
   dsimp only
   by_cases hl:ws.length=i
   ·rw[aj hl]
    exact⟨λ_ z=>(by cases z),λ_=>⟨ys,h1,by rw[<- h2.length];exact hl⟩⟩
   ·rw[ao hl]
    exact⟨λ_ z=>(by cases z),λz=>(by cases z)⟩
  |some x=>
   dsimp only;refine⟨λu z=>?_,λz=>(by cases z)⟩
   cases z;obtain⟨y,e,d⟩:=h2.get E;refine⟨⟨ys,y,h1,e⟩,λX H1 ⟨t,Y,h,b,ex,c⟩=>?_⟩;subst ex c
   have:=h ys h1
   rw[e]at this;cases this;obtain⟨a1,a2,A⟩:=Qi S b (.cons (w:=.int i) (v:=.int i) rfl (.one d));exact⟨a1,a2,A⟩
def kD (m:Ev):Ei:=λρ A=>(m ρ A).bind λw A1=>match zX w A1 with
 |some ws=>.ok (kH w ws.length) A1|none=>.bad
end
section
variable {prog:Program}{A:Around}{z TI TO i1 i2 l1 l2:Addr}{n1 n2:Nat}{c1 c2:Bool}{xs ys:Array Value}{x y a b:Value}
def iu (D:ZipApart z TI TO i1 i2 l1 l2)(h:IsZip s.heap z TI TO .none)(I:IsPair s.heap TI (.ref i1) (.ref i2))(u:IsPair s.heap TO a b)
  (g1:jW c1 s.heap i1 l1 n1)(g2:jW c2 s.heap i2 l2 n2)(s1:yo c1 s.heap l1 xs)(s2:yo c2 s.heap l2 ys)(X:xs[n1]? =some x)(U:ys[n2]? =some y)
  (hQ:∀h',IsZip h' z TI TO (rawInt s.heap.objs.size)->IsPair h' TI (.ref i1) (.ref i2)->IsPair h' TO x y->jW c1 h' i1 l1 (n1+1)->jW c2 h' i2 l2 (n2+1)->IsPair h' s.heap.objs.size x y->
   (∀c o,c≠z->c≠TO->c≠i1->c≠i2->s.heap.get? c=some o->h'.get? c=some o)->Q (.ref s.heap.objs.size) { s with heap:=h' }):
  wpAny (model prog w) A (Builtin.«zip.__next__» ⟨[.ref z],[]⟩) (λfin s'=>∃v,fin=.done (.ret v)/\Q v s') E s:=by
 show wpAny _ _ (field (.ref z) 2 >>= _) _ _ _;refine cf (wpAny_field h rfl (x:=.bool false) rfl ?_);show wpAny _ _ (field (.ref z) 3 >>= _) _ _ _;refine cf (wpAny_field h rfl (x:=.ref TI) rfl (cf (wpAny_seqItems I rfl ?_)));show wpAny _ _ (Builtin.SmallTypes.ownedTupleIsFree (.ref z) >>= _) _ _ _;refine cf ?_;unfold Builtin.SmallTypes.ownedTupleIsFree;refine cf (wpAny_field h rfl (x:=.none) rfl (cg ?_));simp only[if_true];refine cf (wpAny_rule (cf (wpAny_field h rfl (x:=.ref TO) rfl ?_)));refine cf (wpAny_setField_rec h (by simp) λha p sa=>?_);replace p:IsZip ha z TI TO .ellipsis:=p
 refine cf ?_;simp only[List.zipIdx_cons,List.zipIdx_nil,forIn_cons,forIn_nil];refine cf (cf (wpAny_onRaise ?_));show wpAny _ _ (Builtin.SmallTypes.nextOf (.ref i1) >>= _) _ _ _;refine cf (G2 (g1.to λo e=>sa.extBut _ _ D.i1z e) (s1.to λo e=>sa.extBut _ _ D.l1z e) X λhb gb j=>cg ?_);have K:IsPair hb TO a b:=j.extBut _ _ D.TOi1 (sa.extBut _ _ D.TOz u);refine cf (wpAny_seqItems K rfl (cf (wpAny_updateSeq_pair K λP T sc=>cf (wpAny_letGo (cg ?_)))));replace T:IsPair P TO x b:=T;refine cf (cf (wpAny_onRaise ?_));show wpAny _ _ (Builtin.SmallTypes.nextOf (.ref i2) >>= _) _ _ _;have up:∀c o,c≠z->c≠i1->c≠TO->s.heap.get? c=some o->P.get? c=some o:=λc o f d g e=>sc.extBut _ _ g (j.extBut _ _ d (sa.extBut _ _ f e));refine cf (G2 (g2.to λo e=>up _ o D.i2z D.i12.symm D.TOi2.symm e) (s2.to λo e=>up _ o D.l2z D.l2i1 D.l2TO e) U λhd gd sd=>cg ?_);have td:IsPair hd TO x b:=sd.extBut _ _ D.TOi2 T;refine cf (wpAny_seqItems td rfl (cf (wpAny_updateSeq_pair td λhe t S=>cf (wpAny_letGo (cg (cg ?_))))));replace t:IsPair he TO x y:=t;refine cf (wpAny_seqItems t rfl (cf (wpAny_newTuple ?_)));have H:he.objs.size=s.heap.objs.size:=by rw[S.1,sd.1,sc.1,j.1,sa.1]
 have C:IsZip he z TI TO .ellipsis:=S.extBut _ _ D.TOz.symm (sd.extBut _ _ D.i2z.symm (sc.extBut _ _ D.TOz.symm (j.extBut _ _ D.i1z.symm p)));have N:∀c o,c≠z->c≠TO->c≠i1->c≠i2->s.heap.get? c=some o->he.get? c=some o:=λc o f d g r e=>S.extBut _ _ d (sd.extBut _ _ r (up c o f g d e));have ge1:jW c1 he i1 l1 (n1+1):=((gb.to λo e=>sc.extBut _ _ D.TOi1.symm e).to λo e=>sd.extBut _ _ D.i12 e).to λo e=>S.extBut _ _ D.TOi1.symm e;have B:jW c2 he i2 l2 (n2+1):=gd.to λo e=>S.extBut _ _ D.TOi2.symm e;have Z:z<he.objs.size:=aL C;show wpAny _ _ (Builtin.SmallTypes.ownedTupleHandOut (.ref z) (.ref he.objs.size) >>= _) _ _ _;refine cf ?_;unfold Builtin.SmallTypes.ownedTupleHandOut;have zf:IsZip (he.push { cls:=.type "tuple",data:=.seq #[x,y] }) z TI TO .ellipsis:=af _ C;refine cf (wpAny_setField_rec zf (by simp) λY n M=>?_);replace n:IsZip Y z TI TO (rawInt he.objs.size):=n
 refine wpAny_setField_rec n (by simp) λl i L=>?_;replace i:IsZip l z TI TO (rawInt he.objs.size):=i
 have fin:∀c o,c≠z->he.get? c=some o->l.get? c=some o:=λc o q e=>L.extBut _ _ q (M.extBut _ _ q (af _ e));have J:IsPair l he.objs.size x y:=L.extBut _ _ (ne_of_gt Z) (M.extBut _ _ (ne_of_gt Z) (ay _ rfl));rw[H]at i J;refine cg ⟨_,rfl,?_⟩;show Q (.ref he.objs.size) _;rw[H];exact hQ l i (fin _ _ D.TIz (N _ _ D.TIz D.TITO D.TIi1 D.TIi2 I)) (fin _ _ D.TOz t) (ge1.to λo e=>fin _ o D.i1z e) (B.to λo e=>fin _ o D.i2z e) J λc o f d g r e=>fin c o f (N c o f d g r e)
def iw {Q:Fin->Shared->Prop}(J:A.handled=none)(D:ZipApart z TI TO i1 i2 l1 l2)(i:IsZip s.heap z TI TO .none)(I:IsPair s.heap TI (.ref i1) (.ref i2))(v:IsPair s.heap TO a b)
  (g1:jW c1 s.heap i1 l1 n1)(g2:jW c2 s.heap i2 l2 n2)(s1:yo c1 s.heap l1 xs)(s2:yo c2 s.heap l2 ys)(j:xs[n1]? =none∨ys[n2]? =none)
  (K:∀h' e,(∀c o,c≠z->c≠TO->c≠i1->c≠i2->s.heap.get? c=some o->h'.get? c=some o)->(∃o,h'.get? e=some o/\o.cls=.type "StopIteration")->E (.ref e) { s with heap:=h' }):
  wpAny (model prog w) A (Builtin.«zip.__next__» ⟨[.ref z],[]⟩) Q E s:=by
 show wpAny _ _ (field (.ref z) 2 >>= _) _ _ _;refine cf (wpAny_field i rfl (x:=.bool false) rfl ?_);show wpAny _ _ (field (.ref z) 3 >>= _) _ _ _;refine cf (wpAny_field i rfl (x:=.ref TI) rfl (cf (wpAny_seqItems I rfl ?_)));show wpAny _ _ (Builtin.SmallTypes.ownedTupleIsFree (.ref z) >>= _) _ _ _;refine cf ?_;unfold Builtin.SmallTypes.ownedTupleIsFree;refine cf (wpAny_field i rfl (x:=.none) rfl (cg ?_));simp only[if_true];refine cf (wpAny_rule (cf (wpAny_field i rfl (x:=.ref TO) rfl ?_)));refine cf (wpAny_setField_rec i (by simp) λu Z sa=>?_);replace Z:IsZip u z TI TO .ellipsis:=Z
 refine cf ?_;simp only[List.zipIdx_cons,List.zipIdx_nil,forIn_cons,forIn_nil];refine cf (cf (wpAny_onRaise ?_));show wpAny _ _ (Builtin.SmallTypes.nextOf (.ref i1) >>= _) _ _ _;have ga:=g1.to (h':=u) λo e=>sa.extBut _ _ D.i1z e;have Y:=s1.to (h':=u) λo e=>sa.extBut _ _ D.l1z e;cases p:xs[n1]? with
 |none=>
  refine cf (TH J ga Y p λt e S he=>?_);obtain⟨n,h,H⟩:=he;have B:IsZip t z TI TO .ellipsis:=S _ _ D.i1z.symm Z;have f:e≠z:=λq=>by subst q;rw[B]at h;cases h;simp at H
  exact wpAny_setField_rec B (by simp) λr _ sc=>K r e (λc o d _ g _ q=>sc.extBut _ _ d (S _ _ g (sa.extBut _ _ d q))) ⟨n,sc.extBut _ _ f h,H⟩
 |some x=>
  have M:ys[n2]? =none:=by
   rcases j with q|q
   ·rw[p]at q;cases q
   ·exact q
  refine cf (G2 ga Y p λt P S=>cg ?_);have T:IsPair t TO a b:=S.extBut _ _ D.TOi1 (sa.extBut _ _ D.TOz v);refine cf (wpAny_seqItems T rfl (cf (wpAny_updateSeq_pair T λr N sc=>cf (wpAny_letGo (cg ?_)))));refine cf (cf (wpAny_onRaise ?_));show wpAny _ _ (Builtin.SmallTypes.nextOf (.ref i2) >>= _) _ _ _;have up:∀c o,c≠z->c≠i1->c≠TO->s.heap.get? c=some o->r.get? c=some o:=λc o d l g e=>sc.extBut _ _ g (S.extBut _ _ l (sa.extBut _ _ d e));refine cf (TH J (g2.to λo e=>up _ o D.i2z D.i12.symm D.TOi2.symm e) (s2.to λo e=>up _ o D.l2z D.l2i1 D.l2TO e) M λhd e sd he=>?_);obtain⟨n,h,H⟩:=he;have y:IsZip hd z TI TO .ellipsis:=sd _ _ D.i2z.symm (sc.extBut _ _ D.TOz.symm (S.extBut _ _ D.i1z.symm Z));have f:e≠z:=λq=>by subst q;rw[y]at h;cases h;simp at H
  exact wpAny_setField_rec y (by simp) λhf _ C=>K hf e (λc o d l g L q=>C.extBut _ _ d (sd _ _ L (up c o d g l q))) ⟨n,C.extBut _ _ f h,H⟩
def iy {Q:Option Value->Shared->Prop}(D:ZipApart z TI TO i1 i2 l1 l2)(d:IsZip s.heap z TI TO .none)(H:IsPair s.heap TI (.ref i1) (.ref i2))(h:IsPair s.heap TO a b)
  (g1:jW c1 s.heap i1 l1 n1)(g2:jW c2 s.heap i2 l2 n2)(s1:yo c1 s.heap l1 xs)(s2:yo c2 s.heap l2 ys)(p:xs[n1]? =some x)(n:ys[n2]? =some y)
  (r:∀h',IsZip h' z TI TO (rawInt s.heap.objs.size)->IsPair h' TI (.ref i1) (.ref i2)->IsPair h' TO x y->jW c1 h' i1 l1 (n1+1)->jW c2 h' i2 l2 (n2+1)->IsPair h' s.heap.objs.size x y->
   (∀c o,c≠z->c≠TO->c≠i1->c≠i2->s.heap.get? c=some o->h'.get? c=some o)->Q (some (.ref s.heap.objs.size)) { s with heap:=h' }):wpAny (model prog w) A (pyNext (.ref z)) Q E s:=by
 have hT:s.TypeIs (.ref z) "zip":=⟨_,d,rfl⟩;unfold pyNext;exact cf (wpAny_attempt (wpAny_callSpecial?_slot (name:=Str.ofString "__next__") hT F.slot_zip_next (wpAny_call_entry F.slot_zip_next hT F.entry_zip_next
  (iu D d H h g1 g2 s1 s2 p n λh' l j i g f e q=>cg (r h' l j i g f e q)) (F.args_zip_next_1 _))))
def iz {Q:Option Value->Shared->Prop}(g:A.handled=none)(D:ZipApart z TI TO i1 i2 l1 l2)(d:IsZip s.heap z TI TO .none)(I:IsPair s.heap TI (.ref i1) (.ref i2))(H:IsPair s.heap TO a b)
  (g1:jW c1 s.heap i1 l1 n1)(g2:jW c2 s.heap i2 l2 n2)(s1:yo c1 s.heap l1 xs)(s2:yo c2 s.heap l2 ys)(h:xs[n1]? =none∨ys[n2]? =none)
  (j:∀h',(∀c o,c≠z->c≠TO->c≠i1->c≠i2->s.heap.get? c=some o->h'.get? c=some o)->Q none { s with heap:=h' }):wpAny (model prog w) A (pyNext (.ref z)) Q E s:=by
 have hT:s.TypeIs (.ref z) "zip":=⟨_,d,rfl⟩;unfold pyNext;refine cf (wpAny_attempt (wpAny_callSpecial?_slot (name:=Str.ofString "__next__") hT F.slot_zip_next (wpAny_call_entry F.slot_zip_next hT F.entry_zip_next (iw g D d I H g1 g2 s1 s2 h λh' e f he=>?_) (F.args_zip_next_1 _))));obtain⟨o,ho,i⟩:=he;exact cf (wpAny_isInstance (T := "StopIteration") (b:=true) ⟨o,ho,i⟩ isSubtype_stop (cg (j _ f)))
end
abbrev XW (h:Heap)(c1:Bool)(l:Addr):Heap:=h.push { cls:=.type (JF c1),data:=.fields #[.ref l,.int 0 0] }
abbrev XX (h:Heap)(c1 c2:Bool)(L l:Addr):Heap:=(XW h c1 L).push { cls:=.type (JF c2),data:=.fields #[.ref l,.int 0 0] }
abbrev X3 (h:Heap)(c1 c2:Bool)(l L:Addr):Heap:=(XX h c1 c2 l L).push { cls:=.type "tuple",data:=.seq #[.ref h.objs.size,.ref (XW h c1 l).objs.size] }
abbrev X9 (h:Heap)(c1 c2:Bool)(L l:Addr):Heap:=(X3 h c1 c2 L l).push { cls:=.type "tuple",data:=.seq #[.none,.none] }
abbrev YN (h:Heap)(c1 c2:Bool)(L l:Addr):Heap:=(X9 h c1 c2 L l).push { cls:=.type "zip",data:=.fields #[.none,.bool false,.bool false,.ref (XX h c1 c2 L l).objs.size,.ref (X3 h c1 c2 L l).objs.size] }
def Af (c1 c2:Bool)(l L:Addr)(xs ys:Array Value):
  Meets (Builtin.«zip.__new__» ⟨[.type "zip",.ref l,.ref L],[]⟩) (λ_ R s=>yo c1 s.heap l xs/\yo c2 s.heap L ys/\R (.ok (.ret (.ref (X9 s.heap c1 c2 l L).objs.size))) { s with heap:=YN s.heap c1 c2 l L }):=
 .of_wp λprog w A R s h=>by
  obtain⟨p,g,d,t,os⟩:=s;obtain⟨Q,q,h⟩:=h;have H:=sub_zip;have k1:yo c1 (Shared.heap ⟨p,g,d,t,os⟩) l xs:=Q;have k2:yo c2 (Shared.heap ⟨p.push { cls:=.type (JF c1),data:=.fields #[.ref l,.int 0 0] },g,d,t,os⟩) L ys:=q.to λo e=>af _ e
  wp_walk using Mv k1,Mv k2
  exact⟨_,rfl,h⟩
section
variable {prog:Program}{A:Around}{c1 c2:Bool}{l1 l2:Addr}{xs ys:Array Value}
def iA (s1:yo c1 s.heap l1 xs)(s2:yo c2 s.heap l2 ys)
  (h:∀h' n,n=s.heap.objs.size->IsZip h' (n+4) (n+2) (n+3) .none->IsPair h' (n+2) (.ref n) (.ref (n+1))->IsPair h' (n+3) .none .none->jW c1 h' n l1 0->jW c2 h' (n+1) l2 0->
   (∀c o,s.heap.get? c=some o->h'.get? c=some o)->Q (.ref (n+4)) { s with heap:=h' }):wpAny (model prog w) A (call (.type "zip") [.ref l1,.ref l2]) Q E s:=by
 refine callType_new F.called_zip (by decide) (F.typeCall_zip_2 _ _) (F.newCall_zip_2 _ _) (λobj=>F.args_object_init_3 obj _ _) F.entry_zip_new (Af c1 c2 l1 l2 xs ys) ⟨s1,s2,?_⟩
 have a:(XW s.heap c1 l1).objs.size=s.heap.objs.size+1:=bq ..;have Z:(XX s.heap c1 c2 l1 l2).objs.size=s.heap.objs.size+2:=by rw[bq,a]
 have z:(X3 s.heap c1 c2 l1 l2).objs.size=s.heap.objs.size+3:=by rw[bq,Z]
 have b:(X9 s.heap c1 c2 l1 l2).objs.size=s.heap.objs.size+4:=by rw[bq,z]
 have y:(YN s.heap c1 c2 l1 l2).get? (X9 s.heap c1 c2 l1 l2).objs.size=some _:=ay _ rfl;have y4:(YN s.heap c1 c2 l1 l2).get? (X3 s.heap c1 c2 l1 l2).objs.size=some _:=af _ (ay _ rfl);have Y:(YN s.heap c1 c2 l1 l2).get? (XX s.heap c1 c2 l1 l2).objs.size=some _:=af _ (af _ (ay _ rfl));have d:(YN s.heap c1 c2 l1 l2).get? (XW s.heap c1 l1).objs.size=some _:=af _ (af _ (af _ (ay _ rfl)));have e:(YN s.heap c1 c2 l1 l2).get? s.heap.objs.size=some _:=af _ (af _ (af _ (af _ (ay _ rfl))));show _/\_;rw[Z,z,b]at y;rw[a,Z]at Y;rw[z]at y4;rw[a]at d;rw[b];exact⟨⟨_,y,rfl⟩,h _ _ rfl y Y y4 (.mk ⟨_,e,rfl,rfl⟩) (.mk ⟨_,d,rfl,rfl⟩) λc o q=>
  af _ (af _ (af _ (af _ (af _ q))))⟩
end
def Rq (c1 c2:Bool)(K:Frag)(p q:Addr):It:=
 ⟨λi H=>∃xs ys x y,wd c1 K H p xs/\wd c2 K H q ys/\xs[i]? =some x/\ys[i]? =some y,
  λi H v h=>∃t x y,(∀xs,wd c1 K H p xs->xs[i]? =some x)/\(∀ys,wd c2 K H q ys->ys[i]? =some y)/\H t=none/\v=.ref t/\h=upd H t (.tup [x,y]),
  λi H=>∃xs ys,wd c1 K H p xs/\wd c2 K H q ys/\(xs[i]? =none∨ys[i]? =none)⟩
def iB {K:Frag}(c1 c2:Bool)(p q z TI TO t r:Addr)(D:ZipApart z TI TO t r p q):
  Turn P w K (.Tuple elts kk tpos) (Rq c1 c2 K p q) [z,TI,TO,t,r] z (λi h=>IsZip h z TI TO .none/\IsPair h TI (.ref t) (.ref r)/\(∃a b,IsPair h TO a b)/\jW c1 h t p i/\jW c2 h r q i) where
 mem:=by simp
 obj:=λi h st b d=>by
  obtain⟨j,g,⟨M,L,f⟩,g1,g2⟩:=st;simp only[mem_cons,not_mem_nil,or_false]at d;rcases d with rfl|rfl|rfl|rfl|rfl
  ·exact⟨_,j,λv e=>nomatch e⟩
  ·exact⟨_,g,λv e=>nomatch e⟩
  ·exact⟨_,f,λv e=>nomatch e⟩
  ·obtain⟨o,ho,_,hd⟩:=g1.ob;exact⟨o,ho,λv e=>by rw[hd]at e;cases e⟩
  ·obtain⟨o,ho,_,hd⟩:=g2.ob;exact⟨o,ho,λv e=>by rw[hd]at e;cases e⟩
 keep:=λi h h' ⟨j,g,⟨M,L,f⟩,g1,g2⟩ k=>⟨k z (by simp) _ j,k TI (by simp) _ g,⟨M,L,k TO (by simp) _ f⟩,g1.to λo e=>k t (by simp) o e,g2.to λo e=>k r (by simp) o e⟩
 item:=by
  intro X hP hw hK hc i pins s σ H E I hf st hg;subst hP hw hK;obtain⟨j,g,⟨M,L,f⟩,g1,g2⟩:=st;obtain⟨xs,ys,x,y,h1,h2,ex,ey⟩:=hg;obtain⟨n,Z,u,_⟩:=I.sq h1;obtain⟨l,Y,S,_⟩:=I.sq h2;obtain⟨N,eu1,T⟩:=Z.get ex;obtain⟨U,eu2,Q⟩:=Y.get ey;refine iy D j g f g1 g2 u S (x:=N) (y:=U) (by simpa using eu1) (by simpa using eu2) λhh z1 z2 z3 z4 z5 z6 kp=>?_
  refine⟨_,rfl,wpAny_letOwnedTupleGo_zip z1 λhk zk C=>?_⟩;have lt:∀{c o},s.heap.get? c=some o->c≠s.heap.objs.size:=λe=>aQ (aL e);have T2:IsPair hk s.heap.objs.size N U:=C.extBut _ _ (lt j).symm z6;have fre:∀b∈[z,TI,TO,t,r],b≠s.heap.objs.size:=λb d=>by
   simp only[mem_cons,not_mem_nil,or_false]at d;rcases d with rfl|rfl|rfl|rfl|rfl
   ·exact lt j
   ·exact lt g
   ·exact lt f
   ·obtain⟨o,ho,_⟩:=g1.ob;exact lt ho
   ·obtain⟨o,ho,_⟩:=g2.ob;exact lt ho
  refine⟨.ref s.heap.objs.size,upd H s.heap.objs.size (.tup [x,y]),?_,rfl,⟨s.heap.objs.size,x,y,λzs A=>by rw[I.sq_inj A h1];exact ex,λzs A=>by rw[I.sq_inj A h2];exact ey,I.hok.fresh (aq _),rfl,rfl⟩,
   ⟨zk,C.extBut _ _ D.TIz z2,⟨_,_,C.extBut _ _ D.TOz z3⟩,z4.to λo e=>C.extBut _ _ D.i1z e,z5.to λo e=>C.extBut _ _ D.i2z e⟩,λb d=>?_⟩
  ·refine I.spun (fp:=[z,TI,TO,t,r]) (t':=s.toks) (λb o d eo=>?_) hf (aq _) ?_
   ·exact C.extBut _ _ (λe=>d (by simp[e])) (kp b o (λe=>d (by simp[e])) (λe=>d (by simp[e])) (λe=>d (by simp[e])) (λe=>d (by simp[e])) eo)
   ·exact⟨by show 2<=sizeLine;decide,[N,U],.cons T (.cons Q .nil),_,T2,⟨rfl,rfl⟩,0,rfl⟩
  ·show upd H s.heap.objs.size _ b=none
   rw[qz (fre b d)];exact(hf b d).1
 done:=by
  intro X hP hw hK hc i pins s σ H E I hf st hg;subst hP hw hK;obtain⟨j,g,⟨M,L,f⟩,g1,g2⟩:=st;obtain⟨xs,ys,h1,h2,J⟩:=hg;obtain⟨n,Z,u,_⟩:=I.sq h1;obtain⟨l,Y,S,_⟩:=I.sq h2;have B:n.toArray[i]? =none∨l.toArray[i]? =none:=by
   rcases J with e|e
   ·exact .inl (by simpa using Z.none_of e)
   ·exact .inr (by simpa using Y.none_of e)
  exact iz (I.ok.hd hc) D j g f g1 g2 u S B λhh kp=>⟨rfl,I.spun0 (fp:=[z,TI,TO,t,r]) (t':=s.toks) (λb o d eo=>kp b o (λe=>d (by simp[e])) (λe=>d (by simp[e])) (λe=>d (by simp[e])) (λe=>d (by simp[e])) eo) hf⟩
 self:=λ_ _ _ _ _ st h=>wpAny_pyIter_zip st.1 h
section
variable {a b:Expr}{m:Ev}
def iC (K:Frag)(t:TA):TI:=λσ H R=>t σ H λvs H1=>∃p q c1 c2 xs ys,vs=[.ref p,.ref q]/\wd c1 K H1 p xs/\wd c2 K H1 q ys/\R (Rq c1 c2 K p q) H1
def iD {T:TA}(U:Gl X "zip")(hm:X.mg "zip"=none)(Y:PA X [a,b] T)(N:starEach [a,b] X.env=(false,eval a X.env)::starEach [b] X.env)(P:(backTo pos (starEach [b] X.env)).any (·.1)=false):
  PI X (.Tuple elts kk tpos) (.Call (.Name "zip" p) [a,b] [] pos) (iC X.K T):=by
 intro pins s σ H R I h;refine Call_ (Qe I U hm boot_zip (PyProof.Rows.callWith_type1 (zY (Y pos pins s σ H _ I h) λus s1 ⟨vs,H1,g,M,Q⟩=>?_) N P));obtain⟨p,q,c1,c2,xs,ys,rfl,h1,h2,hR⟩:=Q;obtain⟨u1,u2,rfl,o,r⟩:=M.two;cases o;cases r;obtain⟨w,J,d,_⟩:=g.sq h1;obtain⟨v,C,S,_⟩:=g.sq h2;obtain⟨op,u,_⟩:=d.ob;obtain⟨oq,t,_⟩:=S.ob;have L:p<s1.heap.objs.size:=aL u;have l:q<s1.heap.objs.size:=aL t;refine iA d S λh' n E z B A y Z kp=>wpAny_pyIter_zip z ?_;rw[<- E]at L l;have ne1:∀(i j:Nat),i≠j->n+i≠n+j:=λi j h e=>h (Nat.add_left_cancel e);have ne2:∀(c:Nat)(i:Nat),c<n->c≠n+i:=λc i h e=>absurd h (by rw[e];exact Nat.not_lt.mpr (le_add_right n i))
 have D:ZipApart (n+4) (n+2) (n+3) (n+0) (n+1) p q:=⟨ne1 2 4 (by decide),ne1 3 4 (by decide),ne1 0 4 (by decide),ne1 1 4 (by decide),ne1 2 3 (by decide),ne1 2 0 (by decide),ne1 2 1 (by decide),ne1 3 0 (by decide),ne1 3 1 (by decide),ne1 0 1 (by decide),
  ne2 p 4 L,ne2 p 3 L,ne2 p 0 L,ne2 p 1 L,ne2 q 4 l,ne2 q 3 l,ne2 q 0 l,ne2 q 1 l⟩
 refine⟨n+4,[n+4,n+2,n+3,n,n+1],_,_,H1,rfl,g.kept (t':=s1.toks) kp,iB c1 c2 p q _ _ _ _ _ D,⟨z,B,⟨_,_,A⟩,y,Z⟩,λc x=>?_,hR⟩;have f:s1.heap.objs.size<=c:=by
  rw[<- E];simp only[mem_cons,not_mem_nil,or_false]at x;rcases x with rfl|rfl|rfl|rfl|rfl
  ·exact le_add_right _ _
  ·exact le_add_right _ _
  ·exact le_add_right _ _
  ·exact aq _
  ·exact le_add_right _ _
 exact g.fpOk f (g.hok.fresh f)
noncomputable def zip2:Option W->Option W->Option W
 |some x,some y=>some (.tup [x,y])|_,_=>none
def Qq (w a:W)(n:Nat):jJ:=⟨λA i=>match zX w A,zX a A with
 |some us,some vs=>some (zip2 us[i]? vs[i]?)|_,_=>none,n⟩
def iE {K:Frag}{w a:W}{p P:Addr}(q:RV K φ H w (.ref p))(Q:RV K φ H a (.ref P)):ZW K φ H (Qq w a n) (Rq (Q4 w) (Q4 a) K p P):=λi b C A' lw S=>by
 unfold Qq;dsimp only;cases es:zX w A' with
 |none=>exact⟨λ_ z=>(by cases z),λz=>(by cases z)⟩|some us=>
  cases E:zX a A' with
  |none=>exact⟨λ_ z=>(by cases z),λz=>(by cases z)⟩|some vs=>
   dsimp only;obtain⟨xs,h1,h2⟩:=Ur q lw S es;obtain⟨ys,h,c⟩:=Ur Q lw S E;have non:∀{us:List W}{xs:List V},zI K b C us xs->us[i]? =none->xs[i]? =none:=λr e=>by
    rw[List.getElem?_eq_none_iff]at e ⊢;rw[<- r.length];exact e
   cases g:us[i]? with
   |none=>exact⟨λ_ z=>(by cases z),λ_=>⟨xs,ys,h1,h,.inl (non h2 g)⟩⟩|some x=>
    cases d:vs[i]? with
    |none=>exact⟨λ_ z=>(by cases z),λ_=>⟨xs,ys,h1,h,.inr (non c d)⟩⟩|some y=>
     refine⟨λu z=>?_,λz=>(by cases z)⟩
     cases z;obtain⟨j,f1,f2⟩:=h2.get g;obtain⟨v,f,f4⟩:=c.get d;refine⟨⟨xs,ys,j,v,h1,h,f1,f⟩,λX H1 ⟨t,D,Y,o,l,s,ex,A⟩=>?_⟩;subst ex A;have g1:=o xs h1;have g2:=l ys h;rw[f1]at g1;cases g1;rw[f]at g2;cases g2;obtain⟨a1,a2,B⟩:=Qi S s (.cons f2 (.one f4));exact⟨a1,a2,B⟩
def wA (m M:Ev):Ei:=λρ A=>(m ρ A).bind λw A1=>(M ρ A1).bind λa A2=>match zX w A2,zX a A2 with
 |some us,some _=>.ok (Qq w a us.length) A2|_,_=>.bad
variable {K:Frag}{c:Expr}
noncomputable def XY:Ev:=λ_ A=>.ok (.ref A.length) (A++[.dct []])
noncomputable def X2:W->Option Key
 |.int i=>some (.inl i)|_=>none
noncomputable def yR (k:Key):List (Key×W)->Option W
 |[]=>none|(j,w)::r=>if j=k then some w else yR k r
theorem UD (k:Key):∀{kvs:List (Key×W)}{us:List (Key×V)},us.map (·.1)=kvs.map (·.1)->zI K φ H (kvs.map (·.2)) (us.map (·.2))->
  (∀w,yR k kvs=some w->∃v,kJ us k=some v/\RV K φ H w v)/\(yR k kvs=none->kJ us k=none)
 |[],[],_,_=>⟨λw h=>(by cases h),λ_=>rfl⟩|[],_::_,h,_=>by simp at h|_::_,[],h,_=>by simp at h|(j,w)::kvs,(J,v)::us,h,r=>by
  simp only[aS,List.cons.injEq]at h;obtain⟨d,f,e,h1,h2⟩:=r;simp only[aS,List.cons.injEq]at e;obtain⟨rfl,rfl⟩:=e;have i:=UD k h.2 h2;have b:J=j:=h.1;subst b
  by_cases a:J=k
  ·refine⟨λc hw=>⟨v,GJ a,?_⟩,λhn=>?_⟩
   ·unfold yR at hw;rw[aj a]at hw;cases hw;exact h1
   ·unfold yR at hn;rw[aj a]at hn;cases hn
  ·unfold yR
   rw[ao a,GS (p:=(J,v)) a];exact i
theorem zQ.dct {A:Hx}{kvs:List (Key×W)}(S:zQ K φ A H)(q:RV K φ H (.ref n) v)(e:A[n]? =some (.dct kvs)):∃p us,v=.ref p/\φ[n]? =some p/\H p=some (.dK us)/\us.map (·.1)=kvs.map (·.1)/\zI K φ H (kvs.map (·.2)) (us.map (·.2)):=by
 obtain⟨p,rfl,h1⟩:=q;obtain⟨P,h2,us,b,a,h⟩:=S.ob n _ e;rw[h1]at h2;cases h2;exact⟨p,us,rfl,h1,b,a,h⟩
def XB:W->W->Hx->R W:=λd k A=>match d,X2 k with
 |.ref n,some k=>match A[n]? with
  |some (.dct kvs)=>match yR k kvs with
   |some w=>.ok w A|none=>.bad
  |_=>.bad
 |_,_=>.bad
def iF:V->List V->Hp->VK->Prop:=λx vs H Q=>∃p us k d,x=.ref p/\vs=[kV k,d]/\H p=some (.dK us)/\us.length<sizeLine/\(∀v,kJ us k=some v->Q v H)/\(kJ us k=none->Q d (upd H p (.dK (putK us k d))))
def BY:Y3 X "dict.setdefault" iF:=by
 intro pins s σ H x vs v us Q I g i h;obtain⟨p,kvs,k,d,rfl,rfl,f,hl,n,l⟩:=h;cases g;obtain⟨U,u,rfl,j,c⟩:=i.two;obtain⟨z,hd,ws,rel,dd⟩:=Ip I.hok f;refine call_meetsIn PySem.F.slot_dict_setdefault dd.typeIs PySem.F.entry_dict_setdefault (PySem.F.args_dict_setdefault_3 _ _ _) (kt_meets_setdefault (yX X.prog X.w) p (Sj j) hd u) ⟨ws,dd,by rw[<- rel.length];exact z,λv o=>?_,λhn h' D t=>?_⟩
 ·have r:=rel.val k
  rw[o]at r;cases e:kJ kvs k with
  |none=>rw[e]at r;exact r.elim|some a=>rw[e]at r;exact⟨a,H,I.tok _,r,n a e⟩
 ·have r:=rel.val k
  rw[hn]at r;cases e:kJ kvs k with
  |some a=>rw[e]at r;exact r.elim|none=>
   have b:(putK kvs k d).length<=sizeLine:=by have:=Cd kvs k d;omega
   have he:∃q,h'.get? p=some q:=let ⟨q,_,_,y,_⟩:=D;⟨q,y⟩
   exact⟨d,_,eW I (by rw[f];exact True.intro) t he (eX b hd (rel.put k c) D),c,l e⟩
noncomputable def Vn (x:W)(A:Hx):Bool:=match x with
 |.ref n=>match A[n]? with
  |some (.dct _)=>true|_=>false
 |_=>false
def Qb:W->W->W->Hx->R W:=λd k v A=>match d,X2 k with
 |.ref n,some k=>match A[n]? with
  |some (.dct kvs)=>if kvs.length<qj then(match yR k kvs with
   |some w=>.ok w A|none=>.ok v (A.set n (.dct (kvs++[(k,v)])))) else .bad
  |_=>.bad
 |_,_=>.bad
def Yu (g:W->W->W->Hx->R W)(a b c:Ev):Ev:=λρ A=>(a ρ A).bind λx A1=>if Vn x A1 then(b ρ A1).bind λy A2=>(c ρ A2).bind λz d=>g x y z d else .bad
def iG {A:Hx}{w:W}(S:zQ K φ A H)(q:RV K φ H w v)(e:Vn w A=true):Vl K "dict" v H:=by
 unfold Vn at e;cases w with
 |ref n=>
  dsimp only at e;cases E:A[n]? with
  |none=>rw[E]at e;cases e|some o=>cases o with
   |dct ws=>obtain⟨p,us,rfl,_,h,_⟩:=S.dct q E;exact .inr (.inr (.inl ⟨rfl,.inl ⟨us,h⟩⟩))|_=>rw[E]at e;cases e
 |_=>cases e
end
def Rk (d:Addr)(o:Obj)(us:List (Key×V)):It:=
 ⟨λi H=>H d=some (.frz o (.dK us))/\i<us.length,λi H x h=>∃t p,us[i]? =some p/\H t=none/\x=.ref t/\h=upd H t (.tup [kV p.1,p.2]),λi H=>H d=some (.frz o (.dK us))/\us[i]? =none⟩
def iH {k:Key}(h:(yX P w).is k u=true):RelV (kV k) u:=by
 rw[C6]at h;rcases Zw h with ⟨i,t,rfl,rfl⟩|⟨x,t,rfl,rfl⟩
 ·exact⟨t,rfl⟩
 ·exact⟨t,rfl⟩
theorem KV.at:∀{us:List (Key×V)}{vs:List (Key×Value)}{i:Nat}{p:Key×V},KV us vs->us[i]? =some p->∃u,vs[i]? =some (p.1,u)/\RelV p.2 u
 |[],_,_,_,_,e=>by simp at e|q::us,_,0,p,.cons (b:=b) r t,e=>by
  simp at e;subst e;exact⟨b.2,by simp only[List.getElem?_cons_zero];rw[r.1],r.2⟩
 |q::us,_,i+1,p,.cons r t,e=>by
  obtain⟨u,h1,h2⟩:=KV.at (i:=i) (p:=p) t (by simpa using e)
  exact⟨u,by simpa using h1,h2⟩
section
def _root_.L2.Inv.frzD {d:Addr}{o:Obj}{us:List (Key×V)}{c:Nat}(I:Inv X pins σ H s)(h:H d=some (.frz o (.dK us)))(p:∃E,o.data=.dict E c):∃vs,KV us vs/\s.heap.DictAt (yX X.prog X.w) d vs c:=by
 obtain⟨ho,z,hd,vs,rel,dd⟩:=I.hok d _ h;obtain⟨f,o',e,h1,h2,b,r⟩:=dd.dictAt;rw[ho]at h1;cases h1;obtain⟨E,he⟩:=p;have a:=b;rw[he]at a;injection a with i g
 subst g;exact⟨vs,rel,o,e,ho,h2,b,r⟩
end
def iI:entryFor table "dict_itemiterator.__iter__"=some Builtin.«dict_keyiterator.__iter__»:=entryFor_alias (id' := "dict_keyiterator.__iter__") (by kernel_rfl)
 (by first|rfl|decide +kernel|(unfold String.splitOn;simp +decide [String.splitOnAux])) (by decide +kernel) (by kernel_rfl)
def Bh {K:Frag}(d it:Addr)(o:Obj)(us:List (Key×V))(j:Nat)(g:∃M,o.data=.dict M j):
  Turn P w K (.Tuple elts kk tpos) (Rk d o us) [it] it (λi h=>∃ok ov,IsItemIter h it d i us.length j ok ov) where
 mem:=by simp
 obj:=λi h ⟨ok,ov,st⟩ b a=>by
  rw[cw.mp a];exact⟨_,st,λv e=>nomatch e⟩
 keep:=λi h h' ⟨ok,ov,st⟩ k=>⟨ok,ov,k it (by simp) _ st⟩
 item:=by
  intro X q hw r x i pins s σ H E I hf st l;subst q hw r;obtain⟨ok,ov,st⟩:=st;obtain⟨hd,f⟩:=l;obtain⟨vs,rel,D⟩:=I.frzD hd g;obtain⟨u,J,B⟩:=KV.at rel (i:=i) (p:=us[i]) (by simp[f])
  have S:IsItemIter s.heap it d i vs.length j ok ov:=by rw[<- rel.length];exact st
  refine wpAny_pyNext_items_item S D J λkey h1 y ho hT L kp=>⟨_,rfl,wpAny_letOwnedTupleGo_items ho λh2 n c=>?_⟩;have lt:it<s.heap.objs.size:=aL st;have T2:h2.get? s.heap.objs.size=some { cls:=.type "tuple",data:=.seq #[key,u] }:=c.extBut _ _ (ne_of_gt lt) hT;refine⟨.ref s.heap.objs.size,upd H s.heap.objs.size (.tup [kV us[i].1,us[i].2]),?_,rfl,⟨s.heap.objs.size,us[i],by simp[f],I.hok.fresh (aq _),rfl,rfl⟩,⟨_,_,by rw[rel.length];exact n⟩,λb a=>?_⟩
  ·refine I.spun (fp:=[it]) (t':=s.toks) (λb ob a t=>?_) hf (aq _) ?_
   ·exact c.extBut _ _ (λz=>a (by simp[z])) (kp b ob (λz=>a (by simp[z])) t)
   ·exact⟨by show 2<=sizeLine;decide,[key,u],.cons (iH y) (.cons B .nil),_,T2,⟨rfl,rfl⟩,0,rfl⟩
  ·show upd H s.heap.objs.size _ b=none
   have bn:b≠s.heap.objs.size:=λz=>by rw[cw.mp a]at z;exact absurd lt (by rw[z];exact aV _)
   rw[qz bn];exact(hf b a).1
 done:=by
  intro X q hw r x i pins s σ H E I hf st l;subst q hw r;obtain⟨ok,ov,st⟩:=st;obtain⟨hd,f⟩:=l;obtain⟨vs,rel,D⟩:=I.frzD hd g;have S:IsItemIter s.heap it d i vs.length j ok ov:=by rw[<- rel.length];exact st
  have hn:vs[i]? =none:=by
   rw[List.getElem?_eq_none_iff]at f ⊢;rw[<- rel.length];exact f
  exact wpAny_pyNext_items_end (I.ok.hd x) S D hn λh1 C=>⟨rfl,I.spun0 (fp:=[it]) (t':=s.toks) (λb ob a t=>C b ob (λz=>a (by simp[z])) t) hf⟩
 self:=λA i s Q E ⟨ok,ov,st⟩ h=>by
  have hT:s.TypeIs (.ref it) "dict_itemiterator":=⟨_,st,rfl⟩;refine wpAny_pyIter_slot hT F.slot_dict_itemiterator_iter (wpAny_call_entry F.slot_dict_itemiterator_iter hT iI ?_ (F.args_dict_itemiterator_iter_1 _));show wpAny _ _ (ret (.ref it)) _ _ s;exact cg ⟨_,rfl,"dict_itemiterator",_,hT,F.slot_dict_itemiterator_next.lookup,h⟩
section
variable {a b:Expr}{m:Ev}
def iJ (td:TE):TI:=λσ H R=>td σ H λx H1=>∃d us,x=.ref d/\H1 d=some (.dK us)/\∀o,R (Rk d o us) (upd H1 d (.frz o (.dK us)))
def AQ {td:TE}(ho:PE X a td)(i:attributeBase a "items" X.env (eval a X.env)=eval a X.env)(g:(apos.endLine==cpos.line)=true):
  PI X (.Tuple elts kk tpos) (.Call (.Attribute a "items" apos) [] [] cpos) (iJ td):=by
 intro pins s σ H R I h;refine wpAny_Call_method0_late i g (zY (ho pins s σ H _ I h) λv s1 ⟨x,H1,n,u,d,us,ex,hd,q⟩=>?_);subst ex;cases u;obtain⟨z,f,vs,rel,dd⟩:=Ip n.hok hd;obtain⟨o,l,p,c,hex,t,r⟩:=id dd;refine⟨"dict","dict.items",PySem.F.plainAttrs_dict,PySem.F.slot_dict_items,PySem.F.type_dict_items,dd.typeIs,λb E=>by cases E;exact⟨o,c,hex.2.1⟩,Calls.callWith_builtin rfl (PySem.evalArgs_none ?_)⟩
 refine call_meetsIn PySem.F.slot_dict_items dd.typeIs PySem.F.entry_dict_items (PySem.F.args_dict_items_1 _) (meets_dict_items (yX X.prog X.w) d f) ⟨⟨vs,dd⟩,?_⟩;have A:Inv X pins σ (upd H1 d (.frz o (.dK us))) { s1 with heap:=s1.heap,toks:=s1.toks }:=n.write (x:=d) (e:=d) (o:=.frz o (.dK us)) (t':=s1.toks) (h':=s1.heap) (by rw[hd];exact True.intro) (.inl rfl) (λ_ _ _ q=>q) ⟨o,c⟩ ⟨c,z,f,vs,rel,dd⟩
 have j:Inv X pins σ (upd H1 d (.frz o (.dK us))) { s1 with heap:=s1.heap.push { cls:=.type "dict_items",data:=.fields #[.ref d] } }:=A.kept (t':=s1.toks) λb ob q=>af _ q
 have D:(s1.heap.push { cls:=.type "dict_items",data:=.fields #[.ref d] }).DictAt (yX X.prog X.w) d vs p:=⟨o,l,af _ c,hex,t,r⟩;refine wpAny_pyIter_items (s:={ s1 with heap:=s1.heap.push { cls:=.type "dict_items",data:=.fields #[.ref d] } }) ⟨_,ay _ rfl,rfl,rfl⟩ D ?_
 refine⟨_,[_],_,_,_,rfl,j.kept (t':=s1.toks) λb ob q=>af _ q,Bh d _ o us p ⟨l,t⟩,⟨.none,.none,?_⟩,λb y=>?_,q o⟩
 ·rw[rel.length];exact ay _ rfl
 ·have E:=cw.mp y
  subst E;exact j.fpOk (aq _) (j.hok.fresh (aq _))
noncomputable def kW:Key->W
 |.inl i=>.int i|.inr x=>.str x
def YM (kvs:List (Key×W)):jJ:=⟨λ_ i=>some (kvs[i]?.map λp=>.tup [kW p.1,p.2]),kvs.length⟩
def Wa (m:Ev):Ei:=λρ A=>match A with
 |[]=>(m ρ []).bind λw A1=>match w,A1 with
  |.ref 0,[.dct kvs]=>if qO (kvs.map (·.2)) then .ok (YM kvs) [] else .bad|_,_=>.bad
 |_=>.bad
def iK {K:Frag}{d:Addr}{o:Obj}{us:List (Key×V)}{kvs:List (Key×W)}(hd:H d=some (.frz o (.dK us)))(c:us.map (·.1)=kvs.map (·.1))(w:zI K φ H (kvs.map (·.2)) (us.map (·.2)))(n:qO (kvs.map (·.2))=true):
  ZW K φ H (YM kvs) (Rk d o us):=λi a f A' lw S=>by
 unfold YM;dsimp only;have h:=lw.fz d o _ hd;have E:zI K a f (kvs.map (·.2)) (us.map (·.2)):=w.nrm lw.tp lw.fz n;have hl:us.length=kvs.length:=by have:=congrArg List.length c;simpa using this
 cases e:kvs[i]? with
 |none=>
  refine⟨λ_ z=>(by cases z),λ_=>⟨h,?_⟩⟩
  rw[List.getElem?_eq_none_iff]at e ⊢;rw[hl];exact e
 |some p=>
  have j:i<kvs.length:=(ck.mp e).1;refine⟨λu z=>?_,λz=>(by cases z)⟩
  cases z;refine⟨⟨h,by rw[hl];exact j⟩,λx H1 ⟨t,q,b,g,ex,s⟩=>?_⟩
  subst ex s;have k1:q.1=p.1:=by
   have a1:(us.map (·.1))[i]? =some q.1:=by simp[b]
   rw[c]at a1;simp[e]at a1;exact a1.symm
  have a2:(kvs.map (·.2))[i]? =some p.2:=by simp[e]
  obtain⟨v,h1,h2⟩:=E.get a2;have l:v=q.2:=by simp[b]at h1;exact h1.symm
  subst l;rw[k1];have r:RV K a f (kW p.1) (kV p.1):=by cases p.1<;>rfl
  obtain⟨A,y,B⟩:=Qi S g (.cons r (.one h2));exact⟨A,y,B⟩
end
mutual
noncomputable def W.beq:W->W->Bool
 |.non,.non=>true|.bl a,.bl b=>a==b|.int a,.int b=>decide (a=b)|.str a,.str b=>decide (a=b)|.tup a,.tup b=>kG a b|_,_=>false
noncomputable def kG:List W->List W->Bool
 |[],[]=>true|a::as,b::bs=>a.beq b&&kG as bs|_,_=>false
end
mutual
theorem W.eq_of:∀{a b:W},a.beq b=true->a=b
 |.non,.non,_=>rfl|.bl a,.bl b,h=>by have h':(a==b)=true:=h;rw[aH]at h';rw[h']|.int a,.int b,h=>by have h':decide (a=b)=true:=h;rw[ai]at h';rw[h']|.str a,.str b,h=>by have h':decide (a=b)=true:=h;rw[ai]at h';rw[h']|.tup a,.tup b,h=>by have h':kG a b=true:=h;rw[Yt h']|.non,.bl _,h=>nomatch h|.non,.int _,h=>nomatch h|.non,.str _,h=>nomatch h|.non,.tup _,h=>nomatch h|.non,.ref _,h=>nomatch h
 |.bl _,.non,h=>nomatch h|.bl _,.int _,h=>nomatch h|.bl _,.str _,h=>nomatch h|.bl _,.tup _,h=>nomatch h|.bl _,.ref _,h=>nomatch h
 |.int _,.non,h=>nomatch h|.int _,.bl _,h=>nomatch h|.int _,.str _,h=>nomatch h|.int _,.tup _,h=>nomatch h|.int _,.ref _,h=>nomatch h
 |.str _,.non,h=>nomatch h|.str _,.bl _,h=>nomatch h|.str _,.int _,h=>nomatch h|.str _,.tup _,h=>nomatch h|.str _,.ref _,h=>nomatch h
 |.tup _,.non,h=>nomatch h|.tup _,.bl _,h=>nomatch h|.tup _,.int _,h=>nomatch h|.tup _,.str _,h=>nomatch h|.tup _,.ref _,h=>nomatch h
 |.ref _,.non,h=>nomatch h|.ref _,.bl _,h=>nomatch h|.ref _,.int _,h=>nomatch h|.ref _,.str _,h=>nomatch h|.ref _,.tup _,h=>nomatch h|.ref _,.ref _,h=>nomatch h
theorem Yt:∀{a b:List W},kG a b=true->a=b
 |[],[],_=>rfl|a::as,b::bs,h=>by
  have h':(a.beq b&&kG as bs)=true:=h;rw[ah]at h';rw[W.eq_of h'.1,Yt h'.2]
 |[],_::_,h=>nomatch h
 |_::_,[],h=>nomatch h
end
section
variable {K:Frag}
def FD (K:Frag)(x:Str)(st:Stmt):Prop:=∃f fd,kR K x x st f fd/\nsIn K mainGlobals x=some (some (.ref f))
def zfp {st:Stmt}{f:Addr}{b:Value}{o an:cb}{kV doc pm C ct:Value}(a:nsIn K mainGlobals x=some (some (.ref f)))
  (l:K.lookup f=some ⟨b,o,.func (fnOf x x (Qc st) (yW st) (zZ st) .none kV doc pm an C ct),osl⟩)(c:codeIn K C x=true)(k:keepIn K (.ref f)=true):FD K x st:=⟨f,_,eU l c k,a⟩
def CD (K:Frag)(x:Str)(i:Int):Prop:=∃t,nsIn K mainGlobals x=some (some (.int i t))
def zfh {i:Int}{t:Tok}(a:nsIn K mainGlobals x=some (some (.int i t))):CD K x i:=⟨t,a⟩
end
open PySem PySem.Spec PyProof.Rows L2 Mi
@[irreducible] noncomputable def zC (X:Cx)(x:XR)(e:Expr)(m:Ev):Prop:=Mi.SE X x e m
def Xo:@zC=@Mi.SE:=by
 funext X xr e m
 unfold zC
 rfl
@[irreducible] noncomputable def wZ (X:Cx)(x:XR)(e:bU)(m:Ea):Prop:=Mi.SA X x e m
def TV:@wZ=@Mi.SA:=by
 funext X xr es m
 unfold wZ
 rfl
@[irreducible] noncomputable def yy (X:Cx)(x:XR)(e:Expr)(m:Ev):Prop:=Mi.ST X x e m
def TK:@yy=@Mi.ST:=by
 funext X xr e m
 unfold yy
 rfl
@[irreducible] noncomputable def gX (X:Cx)(x:XR)(e:Expr)(m:Ev):Prop:=Mi.SW X x e m
def TC:@gX=@Mi.SW:=by
 funext X xr e m
 unfold gX
 rfl
@[irreducible] noncomputable def kj (X:Cx)(x:XR)(st:Stmt)(m:Ex):Prop:=Mi.SS X x st m
def To:@kj=@Mi.SS:=by
 funext X xr st m
 unfold kj
 rfl
@[irreducible] noncomputable def kI (X:Cx)(x:XR)(st:cc)(m:Ex):Prop:=Mi.JY X x st m
def UY:@kI=@Mi.JY:=by
 funext X xr st m
 unfold kI
 rfl
@[irreducible] noncomputable def kL (X:Cx)(x:XR)(t e:Expr)(m:Ei):Prop:=Mi.SI X x t e m
def Tu:@kL=@Mi.SI:=by
 funext X xr tg e m
 unfold kL
 rfl
@[irreducible] noncomputable def wD (X:Cx)(t:Expr)(m:Tg):Prop:=Mi.SG X t m
def Tw:@wD=@Mi.SG:=by
 funext X tg m
 unfold wD
 rfl
@[irreducible] noncomputable def ZU (X:Cx)(x:XR)(e:Expr)(m:j3):Prop:=Mi.SF X x e m
def TJ:@ZU=@Mi.SF:=by
 funext X xr e m
 unfold ZU
 rfl
@[irreducible] noncomputable def w8 (X:Cx)(x:XR)(e:Expr)(m:j3):Prop:=Mi.SQ X x e m
def Tn:@w8=@Mi.SQ:=by
 funext X xr e m
 unfold w8
 rfl
@[irreducible] noncomputable def gL (X:Cx)(e:bU)(m:Ev):Prop:=Mi.WV X e m
def U0:@gL=@Mi.WV:=by
 funext X es m
 unfold gL
 rfl
@[irreducible] noncomputable def gw (X:Cx)(elt:Expr)(gens:List Comprehension)(sc:Scope)(c:Pos)(d:Nat)(em:Em):Prop:=Mi.SM X elt gens sc c d em
def TQ:@gw=@Mi.SM:=by
 funext X elt gens sc cpos d em
 unfold gw
 rfl
section
variable {xr:XR}{K:Frag}{a b c:Expr}{m ma mb mc:Ev}{m1 m2:Ex}{st:Stmt}{rest:cc}
def qg:@zC=@Mi.SE/\@wZ=@Mi.SA/\@yy=@Mi.ST/\@gX=@Mi.SW/\@kj=@Mi.SS/\@kI=@Mi.JY/\@kL=@Mi.SI/\@wD=@Mi.SG/\@ZU=@Mi.SF/\@w8=@Mi.SQ/\@gL=@Mi.WV/\@gw=@Mi.SM:=⟨Xo,TV,TK,TC,To,UY,Tu,Tw,TJ,Tn,U0,TQ⟩
def zp {M:Ea}(a:zC X xr e ma)(H:wZ X xr es M)(h:starEach (e::es) X.env=(false,eval e X.env)::starEach es X.env:=by rfl):wZ X xr (e::es) (zh ma M):=by
 try simp only[qg]at*
 exact Mi.MH a H h
def zw:wZ X xr [] zm:=by
 try simp only[qg]at*
 exact Mi.Lu
def jI (H:zC X xr a ma)(h:zC X xr b mb):zC X xr (.BinOp a .Add b pos) (zi qv ma mb):=by
 try simp only[qg]at*
 exact Zd (dD.or (eC.or (A9.or eR))) f9 gg H h
def Jt {q:j3}(H:X.calm=true)(hm:X.mg "all"=none)(a:w8 X xr e q)(h:Gl X "all":=by rfl)(he:starEach [e] X.env=(false,eval e X.env)::starEach [] X.env:=by rfl):
  zC X xr (.Call (.Name "all" p) [e] [] pos) (mQ Qx q):=by
 try simp only[qg]at*
 exact Wo (fW H) LA Mp hm (by rfl) a h (by decide) (by decide) he (by rfl)
def ZC {rest:bU}(e:zC X xr a ma)(d:zC X xr (.BoolOp .And (b::rest) pos) mb):zC X xr (.BoolOp .And (a::b::rest) pos) (j0 ma mb):=by
 try simp only[qg]at*
 exact PE.imp (cU e d) λσ H Q ⟨φ,A,ρ,S,re,h⟩=>by
   refine tM.go S re (qe.mp h) λw A1 c H1 v h1 l s q=>?_;cases w with
   |bl k=>
    refine⟨k,q,?_⟩;cases k with
    |true=>rw[aj rfl];exact⟨c,A1,ρ,s,re.mono l,qJ h1 (λ_ _ z=>z.mono l) λ_ _ z=>z.mono l⟩|false=>rw[ao aD];exact h1 c H1 _ l s rfl
   |non=>cases h1|int _=>cases h1|str _=>cases h1|tup _=>cases h1|ref _=>cases h1|clo _ _ _=>cases h1|xc _=>cases h1|fn _=>cases h1
def iM {q:j3}(H:X.calm=true)(hm:X.mg "any"=none)(a:w8 X xr e q)(h:Gl X "any":=by rfl)(he:starEach [e] X.env=(false,eval e X.env)::starEach [] X.env:=by rfl):
  zC X xr (.Call (.Name "any" p) [e] [] pos) (mQ YR q):=by
 try simp only[qg]at*
 exact Wo (fX H) LA Mp hm (by rfl) a h (by decide) (by decide) he (by rfl)
def yA {i j}:zC X xr (.Constant (.bool i) j pos) (zW (.bl i)):=by
 try simp only[qg]at*
 exact PE.imp cI λσ H Q ⟨φ,A,ρ,S,r,h⟩=>h φ H _ .refl S rfl
def kC {g:W->W->Hx->R W}(h:wQ X op g)(c:zC X xr a ma)(H:zC X xr b mb)(h1:op≠.In:=by decide)(h2:op≠.NotIn:=by decide):zC X xr (.Compare a [op] [b] pos) (zi g ma mb):=by
 try simp only[qg]at*
 exact let ⟨r,a1,a2,A⟩:=h.ex;Ly a1 a2 A c H (h.mks b h1 h2)
def iN {o:CmpOp}{g g':W->W->Hx->R W}(h:wQ X op g)(h':wQ X o g')(e:zC X xr a ma)(d:zC X xr b mb)(H:zC X xr c mc)(hm:lastMarks [op,o] [b,c]=false:=by with_unfolding_all rfl):
  zC X xr (.Compare a [op,o] [b,c] pos) (wu g g' ma mb mc):=by
 try simp only[qg]at*
 exact let ⟨r,a1,a2,A⟩:=h.ex;let ⟨j,i,f,B⟩:=h'.ex;fD a1 a2 A i f B e d H hm
def qf {k:Nat}{f:Fn}{M:Ea}(F:zJ X.prog X.w X.K X.mg X.base k x n f)(r:jO k X.A)(o:wZ X yJ (e::es) M)(hl:ZR M n:=by repeat' (first|exact zO|refine zD ?_))(i:Gl X x:=by rfl)
  (c:(x==("__debug__":Str))=false:=by decide)(he:starEach (e::es) X.env=(false,eval e X.env)::starEach es X.env:=by rfl)(l:(backTo pos (starEach es X.env)).any (·.1)=false:=by rfl):
  zC X yJ (.Call (.Name x p) (e::es) [] pos) (zH f M):=by
 try simp only[qg]at*
 obtain⟨y,fd,ps,F,hm,g,j⟩:=F;refine PE.imp (Ms F r i hm g j .nil eT o c he l) λσ H Q ⟨φ,A,ρ,S,re,h⟩=>?_;have h':=qe.mp h;refine⟨φ,A,ρ,S,re,?_⟩;cases E:M ρ A with
 |ok ws A1=>
  rw[E]at h';intro b H1 vs L t q;have v:vs.length=n:=by rw[<- q.length];exact hl ρ A ws A1 E
  rw[a7];exact⟨v,b,A1,ws,t,q,qJ h' (λ_ _ z=>z.mono L) λx A2 z a u d s=>(z a u (L.trans d) s).elim⟩
 |exc x A1=>rw[E]at h';exact h'|bad=>rw[E]at h';exact h'
def iP {g:W->W->Hx->R W}(h:XS X op g)(c:zC X xr a ma)(H:zC X xr b mb)(hm:behindInMarks op b=false:=by rfl):zC X xr (.Compare a [op] [b] pos) (zi g ma mb):=by
 try simp only[qg]at*
 exact let ⟨r,a1,a2,A⟩:=h.ex;Ly a1 a2 A c H hm
def Nj (ho:zC X xr a ma)(he:zC X xr b mb)(s:starEach [b] X.env=(false,eval b X.env)::starEach [] X.env:=by rfl)
  (c:attributeBase a "count" X.env (eval a X.env)=eval a X.env:=by rfl)
  (d:((backTo cpos (starEach [b] X.env)).all (λx=>!x.1)&&(backToKw cpos (keywordEach [] X.env)).all (λx=>x.1.isSome)
   && decide ([b].length+([]:b9).length+(if ([]:b9).isEmpty then 0 else 1)<30))=true:=by rfl)(e:(apos.endLine==cpos.line)=true:=by rfl):
  zC X xr (.Call (.Attribute a "count" apos) [b] [] cpos) (K7 Yv ma mb):=by
 try simp only[qg]at*
 exact PE.imp (ic PySem.F.slot_tuple_count PySem.F.type_tuple_count ia ho (jD he yg s) c d e s (by rfl)) λσ H Q ⟨φ,A,ρ,S,re,h⟩=>by
   refine tM.go S re (qe.mp h) λw A1 g H1 v h1 L t j=>?_;cases w with
   |tup ws=>
    obtain⟨p,vs,rfl,t1,r⟩:=j;refine⟨p,vs,rfl,t1,?_⟩;refine tM.go t (re.mono L) (qJ (qe.mp h1) (λ_ _ z=>z) λ_ _ z=>z.mono L) λi A2 f u v2 h2 l o q=>?_;unfold Yv at h2;dsimp only at h2
    by_cases hf:(yC i&&ws.all yC)=true
    ·rw[aj hf]at h2
     rw[ah]at hf;obtain⟨n,I⟩:=Uo q hf.1 (r.mono l) hf.2;refine⟨p,vs,v2,rfl,rfl,l.tp _ _ t1,KH q hf.1,n,?_⟩;rw[I];rw[G3]at h2;exact h2 f u _ (L.trans l) o (by simp[RV])
    ·rw[ao hf]at h2;exact h2.elim
   |_=>exact h1.elim
def MB:zC X xr (.Dict [] [] pos) XY:=by
 try simp only[qg]at*
 exact PE.imp AL λσ H Q ⟨φ,A,ρ,S,re,h⟩ p a=>by
  obtain⟨l,s⟩:=S.alloc (o:=.dct []) a (u:=.dK []) ⟨[],j5,rfl,.nil⟩;exact h _ _ _ l s ⟨p,rfl,by rw[<- S.len];simp⟩
def BZ {k:Nat}(u:jO k X.A)(y:zC X xr a ma)(x:zC X xr b mb)(t:SD b:=by intro _ _;rfl):zC X xr (.Subscript a b pos) (zi XB ma mb):=by
 try simp only[qg]at*
 exact PE.imp (fb (eV u) y x t) λσ H Q ⟨φ,A,ρ,S,re,h⟩=>by
   refine tM.go S re (qe.mp h) λw A1 d H1 v h1 l B g=>?_;refine tM.go B (re.mono l) (qJ (qe.mp h1) (λ_ _ z=>z) λ_ _ z=>z.mono l) λf A2 c C v2 h2 L s q=>?_;unfold XB at h2;cases w with
   |ref n=>
    cases f with
    |int i=>
     obtain rfl:=q;dsimp only[X2]at h2;cases e:A2[n]? with
     |none=>rw[e]at h2;exact h2.elim|some o=>cases o with
      |dct kvs=>
       rw[e]at h2;dsimp only at h2;obtain⟨p,us,rfl,f1,g1,g2,g3⟩:=s.dct (g.mono L) e;cases E:yR (.inl i) kvs with
       |none=>rw[E]at h2;exact h2.elim|some w=>
        rw[E]at h2;obtain⟨v,j,r⟩:=(UD (.inl i) g2 g3).1 w E;refine⟨p,v,rfl,?_,h2 c C v (l.trans L) s r⟩;rw[<- j];exact YH.k (k:=.inl i) g1
      |_=>rw[e]at h2;exact h2.elim
    |_=>exact h2.elim
   |_=>exact h2.elim
def AZ {i:Int}{t:Tok}(g:Gl X x)(hm:X.mg x=some (.int i t))(hd:(x==("__debug__":Str))=false:=by decide):zC X xr (.Name x pos) (zW (.int i)):=by
 try simp only[qg]at*
 exact PE.imp (M9 g hm (v:=.int i) ⟨t,rfl⟩ hd) λσ H Q ⟨φ,A,ρ,S,r,h⟩=>h φ H _ .refl S rfl
def Ld {c:Expr}(e:yy X xr c mc)(g:zC X xr a ma)(f:zC X xr b mb):zC X xr (.IfExp c a b pos) (Rc mc ma mb):=by
 try simp only[qg]at*
 exact PE.imp (cX e g f) λσ H Q ⟨φ,A,ρ,S,re,h⟩=>by
   refine tT.go S re (qe.mp h) λw A1 h1=>?_;cases w with
   |bl k=>
    refine⟨k,rfl,λd H1 l s=>?_⟩;cases k with
    |true=>rw[aj rfl];exact⟨d,A1,ρ,s,re.mono l,qJ h1 (λ_ _ z=>z.mono l) λ_ _ z=>z.mono l⟩|false=>rw[ao aD];exact⟨d,A1,ρ,s,re.mono l,qJ h1 (λ_ _ z=>z.mono l) λ_ _ z=>z.mono l⟩
   |non=>cases h1|int _=>cases h1|str _=>cases h1|tup _=>cases h1|ref _=>cases h1|clo _ _ _=>cases h1|xc _=>cases h1|fn _=>cases h1
def zG {i j}:zC X xr (.Constant (.int i) j pos) (zW (.int i)):=by
 try simp only[qg]at*
 exact PE.imp L7 λσ H Q ⟨φ,A,ρ,S,r,h⟩=>h φ H _ .refl S rfl
def gj (t:Ty){P:Pos}(hm:X.mg "isinstance"=none)(b:X.mg x=none)(d:bootBuiltins x=some (.type t.nm))(f:zC X xr e m)(g:Gl X "isinstance":=by rfl)(c:Gl X x:=by rfl)
  (hn:x ≠ "__name__":=by decide)(hd:(x==("__debug__":Str))=false:=by decide)
  (h1:starEach [e,.Name x P] X.env=(false,eval e X.env)::starEach [.Name x P] X.env:=by rfl)(h2:(backTo pos (starEach [.Name x P] X.env)).any (·.1)=false:=by rfl):
  zC X xr (.Call (.Name "isinstance" p) [e,.Name x P] [] pos) (kQ t m):=by
 try simp only[qg]at*
 exact PE.imp (Z5 fO g hm (by rfl) (jD f (jD (G5 c b d (v:=.ty t.nm) rfl hn hd) yg) h1) (by decide) (by decide) h1 h2) λσ H Q ⟨φ,A,ρ,S,re,h⟩=>by
   refine tM.go S re (qe.mp h) λw A1 a H1 v h1 l s q=>?_;cases E:kM w A1 with
   |none=>rw[E]at h1;exact h1.elim|some t'=>
    rw[E]at h1;exact⟨v,t',t,rfl,NO s q E,h1 a H1 _ l s rfl⟩
def qm (c:zC X xr a ma)(H:zC X xr b mb)(h:Mo b:=by intro _ _;rfl):zC X xr (.Subscript a b pos) (zi zB ma mb):=by
 try simp only[qg]at*
 exact PE.imp (eD eH c H h) (zi.read fP fR)
def jc {q:j3}(hm:X.mg "len"=none)(H:w8 X xr e q)(h:Gl X "len":=by rfl)(he:starEach [e] X.env=(false,eval e X.env)::starEach [] X.env:=by rfl):
  zC X xr (.Call (.Name "len" p) [e] [] pos) (mQ qc q):=by
 try simp only[qg]at*
 exact Wo Dw (λ_ _=>yc) fT hm (by rfl) H h (by decide) (by decide) he (by rfl)
def gf {q:j3}(h:ZU X xr e q):zC X xr e (qY q):=by
 try simp only[qg]at*
 exact PE.imp h qY.read
def Ba {P pos':Pos}(o:X.calm=true)(hm:X.mg "list"=none)(e:X.mg "range"=none)(t:zC X xr a ma)(n:Gl X "list":=by rfl)(f:Gl X "range":=by rfl)(s:starEach [a] X.env=[(false,eval a X.env)]:=by rfl)
  (c:starEach [.Call (.Name "range" P) [a] [] pos'] X.env=(false,eval (.Call (.Name "range" P) [a] [] pos') X.env)::starEach [] X.env:=by rfl):
  zC X xr (.Call (.Name "list" p) [.Call (.Name "range" P) [a] [] pos'] [] pos) (Xh ma):=by
 try simp only[qg]at*
 exact PE.imp (KG (CK o) n hm (by rfl) (jD (ij f e (jD t yg (by rw[s];rfl)) s) yg c) (by decide) (by decide) c (by rfl)) λσ H Q ⟨φ,A,ρ,S,re,h⟩=>by
   refine tM.go S re (qe.mp h) λw A1 b H1 v h1 L y q=>?_;cases w with
   |int j=>
    obtain rfl:=q;dsimp only at h1
    by_cases d:(jH j&&decide (j.toNat<=qj))=true
    ·rw[aj d]at h1
     rw[ah,ai]at d;refine⟨j,rfl,λp g=>⟨p,j,rfl,j5,QR d.1,Yg d.2,λl hl=>?_⟩⟩;have ln:Le X.K b H1 b (upd H1 p (.rng 0 j)):=Le.new g;have r:zI X.K b (upd H1 p (.rng 0 j)) ((List.range j.toNat).map λ(i:Nat)=>W.int i) (JJ j.toNat):=by
      have:=(zI.ints (K:=X.K) (φ:=b) (H:=upd H1 p (.rng 0 j)) (ns:=(List.range j.toNat).map λ(i:Nat)=>(i:Int)) (vs:=JJ j.toNat)).mpr (by unfold JJ;simp)
      rw[a3]at this;exact this
     obtain⟨x,u,B⟩:=Q0 (y.lay g) hl r;exact h1 _ _ _ ((L.trans ln).trans x) u B
    ·rw[ao d]at h1;exact h1.elim
   |_=>exact h1.elim
def qS {M:Ea}(h:wZ X xr es M)(hl:ZR M n)(hn:n<=qj:=by decide):zC X xr (.List es pos) (qi M):=by
 try simp only[qg]at*
 exact fF h λρ A ws A' e=>by rw[hl ρ A ws A' e];exact Yg hn
def Yj {q:j3}(H:X.calm=true)(hm:X.mg "max"=none)(a:w8 X xr e q)(h:Gl X "max":=by rfl)(he:starEach [e] X.env=(false,eval e X.env)::starEach [] X.env:=by rfl):
  zC X xr (.Call (.Name "max" p) [e] [] pos) (mQ yS q):=by
 try simp only[qg]at*
 exact Wo (Ab H) hW hZ hm (by rfl) a h (by decide) (by decide) he (by rfl)
def Mh (e:X.calm=true)(hm:X.mg "min"=none)(o:zC X xr a ma)(n:zC X xr b mb)(l:Gl X "min":=by rfl)(h1:starEach [a,b] X.env=(false,eval a X.env)::starEach [b] X.env:=by rfl)(h2:starEach [b] X.env=(false,eval b X.env)::starEach [] X.env:=by rfl)(h:(backTo pos (starEach [b] X.env)).any (·.1)=false:=by rfl):
  zC X xr (.Call (.Name "min" p) [a,b] [] pos) (zi XC ma mb):=by
 try simp only[qg]at*
 exact Ie (Aj e) Qj (λφ A H x y u v Q S d c p=>by
   obtain⟨i,j,r,E,q⟩:=Qh (K:=X.K) (f:=λi j=>.int (if j<i then j else i)) (g:=λi j=>.int (if j<i then j else i)) (λ_ _ _ _=>rfl) φ A H x y u v Q S d c p;subst r;subst E;exact⟨i,j,rfl,q⟩) hm (by rfl) o n l (by decide) (by decide) h1 h2 h
def wq (H:zC X xr a ma)(h:zC X xr b mb):zC X xr (.BinOp a .Mod b pos) (zi yL ma mb):=by
 try simp only[qg]at*
 exact Zd dG Wm (Wh fL λ_ _ _ _=>rfl) H h
def jQ (H:zC X xr a ma)(h:zC X xr b mb):zC X xr (.BinOp a .Mult b pos) (zi qx ma mb):=by
 try simp only[qg]at*
 exact Zd (dF.or eS) gv gV H h
def Mt (h:zC X xr a ma):zC X xr (.UnaryOp .USub a pos) (yw Qs ma):=by
 try simp only[qg]at*
 exact fC Lf (λx A=>by unfold Qs;split;exact yc;exact ju) (λφ A H x u Q S q p=>by
  cases u with
  |int i=>obtain rfl:=q;exact⟨i,rfl,p φ H _ .refl S rfl⟩|_=>exact p.elim) h
def Ju {j}:zC X xr (.Constant .none j pos) (zW .non):=by
 try simp only[qg]at*
 exact PE.imp cJ λσ H Q ⟨φ,A,ρ,S,r,h⟩=>h φ H _ .refl S rfl
def Lb (c:zC X xr a ma):zC X xr (.UnaryOp .Not a pos) (yi ma):=by
 try simp only[qg]at*
 exact PE.imp (cV c) λσ H Q ⟨φ,A,ρ,S,re,h⟩=>by
   refine tM.go S re (qe.mp h) λw A1 b H1 v h1 l s q=>?_;cases w with
   |bl k=>exact⟨k,q,h1 b H1 _ l s rfl⟩|non=>cases h1|int _=>cases h1|str _=>cases h1|tup _=>cases h1|ref _=>cases h1|clo _ _ _=>cases h1|xc _=>cases h1|fn _=>cases h1
def Z6 {op}(h:zC X xr a ma):zC X xr (.BoolOp op [a] pos) ma:=by
 try simp only[qg]at*
 exact cT h
def C5 (ho:zC X xr a ma)(he:zC X xr b mb)(hf:zC X xr c mc)(h1:starEach [b,c] X.env=(false,eval b X.env)::starEach [c] X.env:=by rfl)(h2:starEach [c] X.env=(false,eval c X.env)::starEach [] X.env:=by rfl)
  (j:attributeBase a "setdefault" X.env (eval a X.env)=eval a X.env:=by rfl)
  (r:((backTo cpos (starEach [b,c] X.env)).all (λx=>!x.1)&&(backToKw cpos (keywordEach [] X.env)).all (λx=>x.1.isSome)
   && decide ([b,c].length+([]:b9).length+(if ([]:b9).isEmpty then 0 else 1)<30))=true:=by rfl)(g:(apos.endLine==cpos.line)=true:=by rfl)(M:(backTo cpos (starEach [c] X.env)).any (·.1)=false:=by rfl):
  zC X xr (.Call (.Attribute a "setdefault" apos) [b,c] [] cpos) (Yu Qb ma mb mc):=by
 try simp only[qg]at*
 exact PE.imp (Iq PySem.F.plainAttrs_dict PySem.F.slot_dict_setdefault PySem.F.type_dict_setdefault BY ho (jD he (jD hf yg h2) h1) j r g h1 M) λσ H Q ⟨φ,A,ρ,S,re,h⟩=>by
   refine tM.go S re (qe.mp h) λw A1 φ1 H1 v h1 D S1 Z=>?_
   by_cases hd:Vn w A1=true
   ·rw[aj hd]at h1
    refine⟨iG S1 Z hd,?_⟩;refine tM.go S1 (re.mono D) (qJ (qe.mp h1) (λ_ _ z=>z) λ_ _ z=>z.mono D) λt A2 φ2 H2 v2 h2 l2 S2 q2=>?_;have l:=D.trans l2;refine tM.go S2 (re.mono l) (qJ (qe.mp h2) (λ_ _ z=>z) λ_ _ z=>z.mono l) λw3 A3 f P q d l3 N Y=>?_;have L:=l.trans l3;unfold Qb at d;cases w with
    |ref n=>cases t with
     |int i=>
      obtain rfl:=q2;dsimp only[X2]at d;cases s:A3[n]? with
      |none=>rw[s]at d;exact d.elim|some o=>cases o with
       |dct kvs=>
        rw[s]at d;dsimp only at d;obtain⟨p,us,rfl,f1,g1,g2,g3⟩:=N.dct ((Z.mono l2).mono l3) s;have hlen:us.length=kvs.length:=by have:=congrArg List.length g2;simpa using this
        by_cases I:kvs.length<qj
        ·rw[aj I]at d
         have C:=UD (.inl i) g2 g3;refine⟨p,us,.inl i,q,rfl,rfl,g1,?_,λv' J=>?_,λhn=>?_⟩
         ·rw[hlen]
          have:sizeLine=16777216:=sizeLine_eq
          unfold qj at I;omega
         ·cases E:yR (.inl i) kvs with
          |none=>rw[C.2 E]at J;cases J|some y=>
           rw[E]at d;obtain⟨B,e,U⟩:=C.1 y E;rw[J]at e;cases e;exact d f P _ L N U
         ·cases E:yR (.inl i) kvs with
          |some y=>obtain⟨B,e,U⟩:=C.1 y E;rw[hn]at e;cases e|none=>
           rw[E]at d;dsimp only at d;rw[AH q hn];have ln:Le X.K f P f (upd P p (.dK (us++[(.inl i,q)]))):=Le.upd f1 (λxs z=>by rw[g1]at z;cases z) (λ_ _ z=>by rw[g1]at z;cases z)
           obtain⟨T,t⟩:=N.write (o:=.dct kvs) (o':=.dct (kvs++[(.inl i,w3)])) s rfl rfl f1 (u:=.dK (us++[(.inl i,q)])) ⟨us++[(.inl i,q)],j5,by simp[g2],by
            rw[aO,aO];exact(g3.mono ln).append (.one (Y.mono ln))⟩
           exact d _ _ _ (L.trans T) t (Y.mono T)
        ·rw[ao I]at d;exact d.elim
       |_=>rw[s]at d;exact d.elim
     |_=>exact d.elim
    |_=>exact d.elim
   ·rw[ao hd]at h1;exact h1.elim
def Z7 (H:zC X xr a ma)(h:zC X xr b mb):zC X xr (.BinOp a .Sub b pos) (zi yQ ma mb):=by
 try simp only[qg]at*
 exact Zd dE Qj (Qh λ_ _ _ _=>rfl) H h
def UU {q:j3}(H:X.calm=true)(hm:X.mg "sum"=none)(a:w8 X xr e q)(h:Gl X "sum":=by rfl)(he:starEach [e] X.env=(false,eval e X.env)::starEach [] X.env:=by rfl):
  zC X xr (.Call (.Name "sum" p) [e] [] pos) (mQ wB q):=by
 try simp only[qg]at*
 exact Wo (Bm H) hX h7 hm (by rfl) a h (by decide) (by decide) he (by rfl)
def qX {x1}{M:Ea}(h:wZ X xr es M)(hl:ZR M n)(hn:n<=qj:=by decide):zC X xr (.Tuple es x1 pos) (qb M):=by
 try simp only[qg]at*
 exact PE.imp (LM h) λσ H Q ⟨φ,A,ρ,S,re,h⟩=>by
   have h':=qe.mp h;cases e:M ρ A with
   |ok ws A'=>
    rw[e]at h';refine⟨φ,A,ρ,S,re,?_⟩;rw[e];intro a H1 vs l s q;refine⟨by rw[<- q.length,hl ρ A ws A' e];exact Yg hn,λp b=>?_⟩
    obtain⟨a1,a2,c⟩:=Qi s b q;exact h' _ _ _ (l.trans a1) a2 c
   |exc x A'=>rw[e]at h';refine⟨φ,A,ρ,S,re,?_⟩;rw[e];exact h'|bad=>rw[e]at h';exact h'.elim
def j7 {q:j3}(hm:X.mg "tuple"=none)(H:w8 X xr e q)(h:Gl X "tuple":=by rfl)(he:starEach [e] X.env=(false,eval e X.env)::starEach [] X.env:=by rfl):
  zC X xr (.Call (.Name "tuple" p) [e] [] pos) (mQ jA q):=by
 try simp only[qg]at*
 exact fS Ew (λ_ _=>yc) fU hm (by rfl) H h (by decide) (by decide) he (by rfl)
def zc (i:Nat)(b:X.N[i]? =some x:=by rfl)(a:W6 X.env.scope x:=by first|exact Or.inl rfl|exact Or.inr (Or.inl rfl)|exact Or.inr (Or.inr rfl))(hd:(x==("__debug__":Str))=false:=by decide)
  (d:(x==("__classdict__":Str))=false:=by decide):zC X xr (.Name x pos) (qh i):=by
 try simp only[qg]at*
 exact PE.imp (Lv b a hd d) λσ H Q ⟨φ,A,ρ,S,r,h⟩=>by
  unfold qh at h;cases e:ρ[i]? with
  |none=>rw[e]at h;cases h|some o=>cases o with
   |none=>rw[e]at h;cases h|some w=>
    rw[e]at h;obtain⟨v,h1,h2⟩:=r.get i w e;exact⟨v,h1,h φ H v .refl S h2⟩
def AJ {mi:Ei}{tw:Tg}{M:Ev}{em:Em}(nl:Nat)(cap:bP)(c:X.calm=true)(S:gE X sc)(p:Qm X.N N sc nl cap=true)(hw:kL X xr tg iter mi)
  (n:∀s H fp,wD (jT X N sc s H fp yr) tg tw/\gL (jT X N sc s H fp yr) ifs M/\gw (jT X N sc s H fp yr) elt (⟨tg,iter,ifs,0⟩::gs) sc pos 0 em)
  (b:∀g',gs[0]? =some g'->g'.is_async=0:=by intro _ h;cases h<;>rfl)
  (a:∀x,foldedSetIterable iter X.env x=pure x:=by intro _;rfl):ZU X xr (.ListComp elt (⟨tg,iter,ifs,0⟩::gs) sc pos) (zU nl cap mi tw M em):=by
 try simp only[qg]at*
 exact PE.imp (fv (g:=tG X.K tw) (ti:=tT X.K yJ M) (tm:=tE X.K em) c S p b hw n a) zU.read
def kq (i j:Nat){y:Str}{q:Pos}{k:Nat}(o:X.calm=true)(h:X.N.Nodup)(l:X.N[i]? =some x:=by rfl)(f:Loc X.env.scope x:=by first|exact Or.inl rfl|exact Or.inr rfl)(hf:X.fn x=true∨X.env.scope.names.lookup x=some .local:=by first|exact .inl rfl|exact .inr rfl)
  (g:X.N[j]? =some y:=by rfl)(d:Loc X.env.scope y:=by first|exact Or.inl rfl|exact Or.inr rfl)(n:X.fn y=true∨X.env.scope.names.lookup y=some .local:=by first|exact .inl rfl|exact .inr rfl):wD X (.Tuple [.Name x p,.Name y q] k pos) (ji i j):=by
 try simp only[qg]at*
 exact PG.imp (TB o (Yl (Yo h l f hf) (Yl (Yo h g d n) US))) λv σ H Q ⟨φ,A,ρ,w,b,S,re,c,e,kk⟩=>by
   unfold ji at e
   split at e
   ·rename_i x1 Y
    have E:=aF e;subst E;obtain⟨a,vs,rfl,s,rs⟩:=c;obtain⟨v1,t,rfl,h1,v2,r,rfl,h2,rfl⟩:=rs;exact⟨a,[v1,v2],rfl,s,rfl,v1,[v2],rfl,v2,[],rfl,rfl,kk _ ((re.set h1).set h2)⟩
   ·cases e
def BE (i j k:Nat){y z:Str}{q r pp:Pos}{s:Nat}(f:X.calm=true)(c:X.N.Nodup)(I:X.N[i]? =some x:=by rfl)(B:Loc X.env.scope x:=by first|exact Or.inl rfl|exact Or.inr rfl)(hf:X.fn x=true∨X.env.scope.names.lookup x=some .local:=by first|exact .inl rfl|exact .inr rfl)
  (E:X.N[j]? =some y:=by rfl)(u:Loc X.env.scope y:=by first|exact Or.inl rfl|exact Or.inr rfl)(K:X.fn y=true∨X.env.scope.names.lookup y=some .local:=by first|exact .inl rfl|exact .inr rfl)
  (D:X.N[k]? =some z:=by rfl)(t:Loc X.env.scope z:=by first|exact Or.inl rfl|exact Or.inr rfl)(J:X.fn z=true∨X.env.scope.names.lookup z=some .local:=by first|exact .inl rfl|exact .inr rfl):
  wD X (.Tuple [.Name x p,.Tuple [.Name y q,.Name z r] s pp] n pos) (Yy i j k):=by
 try simp only[qg]at*
 exact PG.imp (TB f (Yl (Yo c I B hf) (Yl (TB f (Yl (Yo c E u K) (Yl (Yo c D t J) US))) US))) λv σ H Q ⟨φ,A,ρ,w,g,S,re,o,e,kk⟩=>by
   unfold Yy at e
   split at e
   ·rename_i x1 Y Z
    have P:=aF e;subst P;obtain⟨a,vs,rfl,C,rs⟩:=o;obtain⟨v1,r1,rfl,h1,v2,r2,rfl,h2,rfl⟩:=rs;obtain⟨a2,l,rfl,h,b⟩:=h2;obtain⟨d,U,rfl,M,v4,T,rfl,L,rfl⟩:=b;exact⟨a,[v1,.ref a2],rfl,C,rfl,v1,[.ref a2],rfl,.ref a2,[],rfl,a2,[d,v4],rfl,h,rfl,d,[v4],rfl,v4,[],rfl,rfl,rfl,kk _ (((re.set h1).set M).set L)⟩
   ·cases e
def qk (i:Nat)(c:X.N.Nodup)(b:X.N[i]? =some x:=by rfl)(h:Loc X.env.scope x:=by first|exact Or.inl rfl|exact Or.inr rfl)(hf:X.fn x=true∨X.env.scope.names.lookup x=some .local:=by first|exact .inl rfl|exact .inr rfl):wD X (.Name x pos) (zE i):=by
 try simp only[qg]at*
 exact PG.imp (Yo c b h hf) λv σ H Q ⟨φ,A,ρ,w,a,S,re,q,e,k⟩=>by
   have E:ρ.set i (some w)=a:=aF e;subst E;exact k _ (re.set q)
def jN (h:zC X xr e m):kL X xr tg e (qu m):=by
 try simp only[qg]at*
 exact PI.imp (fJ h) λσ H U ⟨φ,A,ρ,S,re,h⟩=>by
  refine tM.go S re (qe.mp h) λw A1 d H1 v h1 M L Q=>?_;unfold WM at h1;cases e:zX w A1 with
  |none=>rw[e]at h1;exact h1.elim|some ws=>
   rw[e]at h1;dsimp only at h1;cases w with
   |tup us=>
    obtain⟨a,ys,rfl,f,p⟩:=Q;refine⟨a,rfl,.inr ⟨⟨ys,f⟩,h1 d H1 _ M L λi c g A' lw s=>⟨λu b=>?_,λb=>?_⟩⟩⟩
    ·have E:us[i]? =some u:=aF b
     obtain⟨y,j,C⟩:=(p.monoW lw).get E;refine⟨⟨ys,y,lw.tp _ _ f,j⟩,λx T t=>?_⟩;obtain⟨J,I⟩:=t;subst J;have l:=I ys (lw.tp _ _ f);rw[j]at l;cases l;exact⟨.refl,s,C⟩
    ·have E:us[i]? =none:=aF b
     refine⟨ys,lw.tp _ _ f,?_⟩;rw[<- p.length];exact List.getElem?_eq_none_iff.mp E
   |ref n=>
    obtain⟨a,rfl,f⟩:=Q;have read:∀{c g A' us},QG X.K d H1 c g->zQ X.K c A' g->zX (.ref n) A'=some us->∃ys,je X.K g a ys/\zI X.K c g us ys:=λ {c g A' us} lw s es=>by
     obtain⟨P,ys,N,z,r⟩:=GA (w:=.ref n) (v:=.ref a) s ⟨a,rfl,lw.ex _ _ f⟩ es;cases N;unfold zX at es;dsimp only at es;cases D:A'[n]? with
     |none=>rw[D]at es;cases es|some o=>
      rw[D]at es;obtain⟨P,p,r⟩:=s.ob n o D;rw[lw.ex _ _ f]at p;cases p;cases o with
      |lst xs=>cases es;obtain⟨ys,h1,h2⟩:=r;exact⟨ys,je.of h1,h2⟩|ro xs=>cases es;obtain⟨ys,h1,h2⟩:=r;exact⟨ys,h1.sq,h2⟩|dct xs=>cases es|td _=>cases es|tr _=>cases es|tab _ _=>cases es
    obtain⟨Y,B,_⟩:=read ⟨λ_ _ h=>h,λ_ _ h=>h,λ_ _ _ h=>h⟩ L e;refine⟨a,rfl,.inl ⟨⟨Y,B⟩,h1 d H1 _ M L λi c g A' lw s=>⟨λu b=>?_,λb=>?_⟩⟩⟩
    ·dsimp only at b
     cases es:zX (.ref n) A' with
     |none=>rw[es]at b;cases b|some us=>
      rw[es]at b;have E:us[i]? =some u:=aF b;obtain⟨ys,q,r⟩:=read lw s es;obtain⟨y,j,C⟩:=r.get E;refine⟨⟨ys,y,q,j⟩,λx T t=>?_⟩;obtain⟨J,I⟩:=t;subst J;have l:=I ys q;rw[j]at l;cases l;exact⟨.refl,s,C⟩
    ·dsimp only at b
     cases es:zX (.ref n) A' with
     |none=>rw[es]at b;cases b|some us=>
      rw[es]at b;have E:us[i]? =none:=aF b;obtain⟨ys,q,r⟩:=read lw s es;refine⟨ys,q,?_⟩;rw[<- r.length];exact List.getElem?_eq_none_iff.mp E
   |non=>cases e|bl _=>cases e|clo _ _ _=>cases e|xc _=>cases e|fn _=>cases e|int _=>cases e|str _=>cases e
def QU (g:Gl X "enumerate")(hm:X.mg "enumerate"=none)(d:zC X xr a ma)(s:starEach [a] X.env=[(false,eval a X.env)]:=by rfl):kL X xr (.Tuple elts kk tpos) (.Call (.Name "enumerate" p) [a] [] pos) (kD ma):=by
 try simp only[qg]at*
 exact PI.imp (iq g hm (jD d yg (by rw[s];rfl)) s) λσ H r ⟨φ,A,ρ,S,re,h⟩=>by
   refine tM.go S re (qe.mp h) λw A1 b H1 v h1 l c q=>?_;cases es:zX w A1 with
   |none=>rw[es]at h1;exact h1.elim|some ws=>
    rw[es]at h1;obtain⟨p,ys,rfl,z,Z⟩:=GN c q es;exact⟨p,Q4 w,ys,rfl,z,h1 b H1 _ l c (ir q)⟩
def BV (j:zC X xr a ma)(d:attributeBase a "items" X.env (eval a X.env)=eval a X.env:=by rfl)(e:(apos.endLine==cpos.line)=true:=by rfl):
  kL X xr (.Tuple elts kk tpos) (.Call (.Attribute a "items" apos) [] [] cpos) (Wa ma):=by
 try simp only[qg]at*
 exact PI.imp (AQ j d e) λσ H r ⟨φ,A,ρ,S,re,h⟩=>by
   unfold Wa at h;cases A with
   |cons o A=>exact h.elim|nil=>
    dsimp only at h;have g:φ=[]:=by have:=S.len;simpa using this
    subst g;refine tM.go S re (qe.mp h) λw A1 i H1 v h1 l s q=>?_
    split at h1
    ·rename_i kvs
     by_cases hn:qO (kvs.map (·.2))=true
     ·rw[aj hn]at h1
      obtain⟨p,us,rfl,f1,g1,g2,g3⟩:=s.dct q (kvs:=kvs) rfl;have h0:H p=none:=by
       rcases l.nw 0 p f1 with z|z
       ·simp at z
       ·exact z
      refine⟨p,us,rfl,g1,λo=>?_⟩;have tp:∀c vs,qH X.K H1 c vs->qH X.K (upd H1 p (.frz o (.dK us))) c vs:=λc vs t=>Xa t (λxs z=>by rw[g1]at z;cases z) (λ_ _ z=>by rw[g1]at z;cases z)
      have le:Le X.K [] H [] (upd H1 p (.frz o (.dK us))):=by
       refine⟨λn c z=>z,λc vs t=>tp c vs (l.tp c vs t),λc u b nn=>?_,λn c z=>.inl z,λc z=>?_,λc u U b=>?_⟩
       ·rw[qz (kT b h0)];exact l.fr c u b nn
       ·by_cases f:c=p
        ·rw[f];exact h0
        ·rw[qz f]at z;exact l.st c z
       ·rw[qz (kT b h0)];exact l.fz c u U b
      exact h1 [] _ _ le zQ.none (iK (o:=o) j5 g2 (g3.nrm tp (λc u U b=>by rw[qz (YE b g1 (by intro z;cases z))];exact b) hn) hn)
     ·rw[ao hn]at h1;exact h1.elim
    ·exact h1.elim
def jz (g:Gl X "range")(hm:X.mg "range"=none)(d:zC X xr a ma)(s:starEach [a] X.env=[(false,eval a X.env)]:=by rfl):kL X xr tg (.Call (.Name "range" p) [a] [] pos) (qN ma):=by
 try simp only[qg]at*
 exact PI.imp (B7 g hm (jD d yg (by rw[s];rfl)) s) λσ H r ⟨φ,A,ρ,S,re,h⟩=>by
   refine tM.go S re (qe.mp h) λw A1 b H1 v h1 l f q=>?_;cases w with
   |int j=>
    obtain rfl:=q;dsimp only at h1
    by_cases c:jH j=true
    ·rw[aj c]at h1
     obtain⟨e,B⟩:=QR c;exact⟨j,rfl,e,B,h1 b H1 _ l f LX⟩
    ·rw[ao c]at h1;exact h1.elim
   |non=>exact h1.elim|bl _=>exact h1.elim|str _=>exact h1.elim|tup _=>exact h1.elim|ref _=>exact h1.elim|clo _ _ _=>exact h1.elim|xc _=>exact h1.elim|fn _=>exact h1.elim
def Jp (n:Gl X "range")(hm:X.mg "range"=none)(r:zC X xr a ma)(o:zC X xr b mb)(s:starEach [a,b] X.env=[(false,eval a X.env),(false,eval b X.env)]:=by rfl)(c:starEach [b] X.env=[(false,eval b X.env)]:=by rfl):kL X xr tg (.Call (.Name "range" p) [a,b] [] pos) (wy ma mb):=by
 try simp only[qg]at*
 exact PI.imp (Bq n hm (jD r (jD o yg (by rw[c];rfl)) (by rw[s,c])) s c) λσ H E ⟨φ,A,ρ,S,re,h⟩=>by
   refine tM.go S re (qe.mp h) λw A1 f H1 v h1 l C Q=>?_;refine tM.go C (re.mono l) (qJ (qe.mp h1) (λ_ _ z=>z) λ_ _ z=>z.mono l) λg A2 e D v2 h2 L y q=>?_;cases w with
   |int i=>
    obtain rfl:=Q;cases g with
    |int j=>
     obtain rfl:=q;dsimp only at h2
     by_cases d:(jH i&&jH j)=true
     ·rw[aj d]at h2
      rw[ah]at d;obtain⟨x,u⟩:=QR d.1;obtain⟨t,B⟩:=QR d.2;exact⟨i,j,rfl,⟨x,u,t,B⟩,h2 e D _ (l.trans L) y LX⟩
     ·rw[ao d]at h2;exact h2.elim
    |non=>exact h2.elim|bl _=>exact h2.elim|str _=>exact h2.elim|tup _=>exact h2.elim|ref _=>exact h2.elim|clo _ _ _=>exact h2.elim|xc _=>exact h2.elim|fn _=>exact h2.elim
   |non=>exact h2.elim|bl _=>exact h2.elim|str _=>exact h2.elim|tup _=>exact h2.elim|ref _=>exact h2.elim|clo _ _ _=>exact h2.elim|xc _=>exact h2.elim|fn _=>exact h2.elim
def iQ {c P:Pos}{k}(n:Gl X "range")(hm:X.mg "range"=none)(r:zC X xr a ma)(o:zC X xr b mb)
  (h1:starEach [a,b,.UnaryOp .USub (.Constant (.int 1) k c) P] X.env=(false,eval a X.env)::starEach [b,.UnaryOp .USub (.Constant (.int 1) k c) P] X.env:=by rfl)
  (h2:starEach [b,.UnaryOp .USub (.Constant (.int 1) k c) P] X.env=(false,eval b X.env)::starEach [.UnaryOp .USub (.Constant (.int 1) k c) P] X.env:=by rfl)
  (s:(backTo pos (starEach [b,.UnaryOp .USub (.Constant (.int 1) k c) P] X.env)).any (·.1)=false:=by rfl):
  kL X xr tg (.Call (.Name "range" p) [a,b,.UnaryOp .USub (.Constant (.int 1) k c) P] [] pos) (Wn ma mb):=by
 try simp only[qg]at*
 exact PI.imp (BI n hm (jD r (jD o (jD (Ih Lf L7) yg (by rfl)) h2) h1) h1 s) λσ H E ⟨φ,A,ρ,S,re,h⟩=>by
   refine tM.go S re (qe.mp h) λw A1 f H1 v h1 l C Q=>?_;refine tM.go C (re.mono l) (qJ (qe.mp h1) (λ_ _ z=>z) λ_ _ z=>z.mono l) λg A2 e D v2 h2 L y q=>?_;cases w with
   |int i=>
    obtain rfl:=Q;cases g with
    |int j=>
     obtain rfl:=q;dsimp only at h2
     by_cases d:(jH i&&jH j)=true
     ·rw[aj d]at h2
      rw[ah]at d;obtain⟨x,u⟩:=QR d.1;obtain⟨t,B⟩:=QR d.2;exact⟨1,rfl,i,j,rfl,⟨x,u,t,B⟩,h2 e D _ (l.trans L) y ig⟩
     ·rw[ao d]at h2;exact h2.elim
    |_=>exact h2.elim
   |_=>exact h2.elim
def Yn (r:Gl X "zip")(hm:X.mg "zip"=none)(u:zC X xr a ma)(t:zC X xr b mb)(g:starEach [a,b] X.env=(false,eval a X.env)::starEach [b] X.env:=by rfl)(d:starEach [b] X.env=(false,eval b X.env)::starEach [] X.env:=by rfl)(o:(backTo pos (starEach [b] X.env)).any (·.1)=false:=by rfl):
  kL X xr (.Tuple elts kk tpos) (.Call (.Name "zip" p) [a,b] [] pos) (wA ma mb):=by
 try simp only[qg]at*
 exact PI.imp (iD r hm (jD u (jD t yg d) g) g o) λσ H D ⟨φ,A,ρ,S,re,h⟩=>by
   refine tM.go S re (qe.mp h) λw A1 i H1 v h1 l x n=>?_;refine tM.go x (re.mono l) (qJ (qe.mp h1) (λ_ _ z=>z) λ_ _ z=>z.mono l) λf A2 c y v2 h2 L s Q=>?_;cases es:zX w A2 with
   |none=>rw[es]at h2;exact h2.elim|some us=>
    cases e:zX f A2 with
    |none=>rw[es,e]at h2;exact h2.elim|some vs=>
     rw[es,e]at h2;have q:=n.mono L;obtain⟨p,xs,rfl,j,C⟩:=GN s q es;obtain⟨P,ys,rfl,Z,B⟩:=GN s Q e;exact⟨p,P,Q4 w,Q4 f,xs,ys,rfl,j,Z,h2 c y _ (l.trans L) s (iE q Q)⟩
def iR {d:Nat}{me:Ev}(x:∀e s,X.xe e s->False)(he:zC X yJ elt me)(g:gens[d+1]? =none):gw X elt gens sc pos d (zR me):=by
 try simp only[qg]at*
 exact wW.imp (AN x he g) λD σ H Q ⟨φ,A,ρ,acc,ys,S,re,j,n,r,h⟩=>by
   refine tM.go S re (UI (qe.mp h)) λw A1 f H1 v h1 l o q=>?_;obtain⟨c,n1⟩:=l.off j n
   by_cases z:acc.length<qj
   ·rw[aj z]at h1
    have hl:=r.length;refine⟨ys,c,?_,?_⟩
    ·rw[<- hl]
     have:sizeLine=16777216:=sizeLine_eq
     unfold qj at z;omega
    ·exact h1 f _ σ _ (l.toD.trans (yT.upd c)) n1 (o.off c n1) ⟨re.len,λi w e=>let ⟨v,a,b⟩:=re.get i w e;⟨v,a,(b.mono l).monoD (yT.upd c)⟩⟩ j5
      (((r.mono l).monoD (yT.upd c)).append (.one (q.monoD (yT.upd c))))
   ·rw[ao z]at h1;exact h1.elim
def G7 {d:Nat}{mi:Ei}{tw:Tg}{M:Ev}{em:Em}(o:∀e s,X.xe e s->False)(w:X.calm=true)(v:gens[d+1]? =some ⟨tg,iter,ifs,0⟩)(y:∀g',gens[d+2]? =some g'->g'.is_async=0)
  (hw:kL X yJ tg iter mi)(t:wD X tg tw)(u:gL X ifs M)(hm:gw X elt gens sc pos (d+1) em)(q:∀x,foldedSetIterable iter X.env x=pure x:=by intro _;rfl):gw X elt gens sc pos d (gI mi tw M em):=by
 try simp only[qg]at*
 exact wW.imp (AS o w v y hw t u hm q) λD σ H Q ⟨φ,A,ρ,acc,ys,S,re,B,n,f,h⟩=>by
   refine⟨φ,A,ρ,S,re,qJ (UI (qe.mp h)) (λj A1 h1 c H1 J l K i=>?_) λ_ _ z=>z⟩;obtain⟨E,n1⟩:=l.off B n;exact jn.read i K (re.mono l) E n1 (f.mono l) (qJ h1 (λp A2 h2 a P b zs L N I r C g=>h2 a P b zs (l.toD.trans L) N I r C g) λ_ _ z=>z)
def qD (h:zC X xr e m):w8 X xr e (zN m):=by
 try simp only[qg]at*
 exact PE.imp h λσ H Q ⟨φ,A,ρ,S,re,h⟩=>by
  refine tM.go S re (qe.mp h) λw A1 b H1 v h1 l s q=>?_;cases e:zX w A1 with
  |none=>rw[e]at h1;exact h1.elim|some ws=>
   rw[e]at h1;obtain⟨a,ys,rfl,c,E⟩:=GA s q e;exact h1 b H1 a ys l s c E
def yd {q:j3}(h:ZU X xr e q):w8 X xr e q:=by
 try simp only[qg]at*
 exact PE.imp h λσ H Q ⟨φ,A,ρ,S,re,h⟩=>
  ⟨φ,A,ρ,S,re,qJ h (λws A1 h1 a H1 D ys l s h0 b n r=>h1 a H1 D ys l s (.inl (je.of b)) r) λ_ _ z=>z⟩
def AV {o i:Expr}{mo mi:Ev}(ho:zC X xr o mo)(hi:zC X xr i mi)(he:zC X xr e m)
  (ha:∀ov I new,augStore i ov I new=(do holding [new,ov,I] (setItem ov I new);release [new,ov,I] [];pure .next):=by intros;rfl):kj X xr (.AugAssign (.Subscript o i tpos) .Add e pos) (Wq mo mi m):=by
 try simp only[qg]at*
 exact PS.imp (dm ho hi il he dt set_list ha) λD σ H ⟨φ,A,ρ,S,re,h⟩=>by
   refine tM.go S re (qe.mp h) λQ A1 M H1 v1 h1 g S1 q=>?_;refine tM.go S1 (re.mono g) (qJ (qe.mp h1) (λ_ _ z=>z) λ_ _ z=>z.mono g) λw A2 J H2 v2 h2 f t Z=>?_;have l:=g.trans f;cases Q with
   |ref n=>cases w with
    |int k=>
     obtain rfl:=Z;dsimp only at h2
     by_cases h0:0<=k
     ·rw[aj h0]at h2
      cases b:(A2[n]?:Option O) with
      |none=>rw[b]at h2;exact h2.elim|some ob=>cases ob with
       |lst ws=>
        rw[b]at h2;dsimp only at h2;obtain⟨p,vs,rfl,f1,g1,U⟩:=t.lst (q.mono f) b;cases E:ws[k.toNat]? with
        |none=>rw[E]at h2;exact h2.elim|some N=>cases N with
         |int x=>
          rw[E]at h2;dsimp only at h2;obtain⟨v,hv,T⟩:=U.get E;obtain rfl:=T;refine⟨p,vs,k,_,rfl,rfl,h0,g1,hv,?_⟩;refine tM.go t (re.mono l) (qJ (qe.mp h2) (λ_ _ z=>z) λ_ _ z=>z.mono l) λP C d H3 v3 a s S3 Y=>?_;have L:=l.trans s;cases P with
          |int y=>
           obtain rfl:=Y;dsimp only at a;refine⟨x,y,rfl,rfl,?_⟩;refine My (K:=X.K) d C H3 (.ref p) (.int k) (.int (x+y)) (.ref n) (.int k) (.int (x+y)) _ S3 ((q.mono f).mono s) rfl rfl ?_;cases r:k9 (.ref n) (.int k) (.int (x+y)) C with
           |ok u B=>
            rw[r]at a;exactλc H4 j S4=>a c H4 σ (L.trans j) S4 (re.mono (L.trans j))
           |exc z B=>exact absurd r (LN _ _ _ _ z B)|bad=>rw[r]at a;exact a.elim
          |_=>exact a.elim
         |_=>rw[E]at h2;exact h2.elim
       |_=>rw[b]at h2;exact h2.elim
     ·rw[ao h0]at h2;exact h2.elim
    |_=>exact h2.elim
   |_=>cases w<;>exact h2.elim
def zq (h1:kj X xr st m1)(h2:kI X xr rest m2):kI X xr (st::rest) (zj m1 m2):=by
 try simp only[qg]at*
 exact yM.imp (Aq h1 h2) λD σ H ⟨φ,A,ρ,S,re,h⟩=>by
   refine⟨φ,A,ρ,S,re,qJ (qe.mp h) (λfl A1 h1=>?_) λ_ _ z=>z⟩;cases fl with
   |nx ρ1=>exactλa c b l s r=>⟨a,A1,ρ1,s,r,qJ h1 (λ_ _ z=>z.mono l) λ_ _ z=>z.mono l⟩|rt w=>exact h1|bk ρ1=>exact h1|ct ρ1=>exact h1
def yu (he:zC X xr e m)(s:swapsWith e none pos.line X.env=pure false:=by rfl):kj X xr (.Expr e pos) (jx m):=by
 try simp only[qg]at*
 exact PS.imp (c6 he s) λD σ H ⟨φ,A,ρ,S,re,h⟩=>tM.go S re (qe.mp h) λw A1 a H1 v h1 l b q=>h1 a H1 σ l b (re.mono l)
def jl {mi:Ei}{tw:Tg}(hp:PassesOwn (model X.prog X.w) X.A X.env X.xe)(hc:X.calm=true)(hi:kL X xr tg iter mi)(hg:wD X tg tw)(hb:kI X xr body m1)
  (hs:∀x,foldedSetIterable iter X.env x=pure x:=by intro _;rfl):kj X xr (.For tg iter body [] pos) (qF mi tw m1):=by
 try simp only[qg]at*
 exact PS.imp (dA hp hc hi hg hb hs) λD σ H ⟨φ,A,ρ,S,re,h⟩=>by
   refine⟨φ,A,ρ,S,re,qJ (qe.mp h) (λj A1 h1 e H1 J N S1 jr=>?_) λ_ _ z=>z⟩;refine⟨λi f c C=>HG X.K xr j (turn tw m1) D e H1 f i c C,
    ⟨j.len,e,A1,ρ,.refl,S1,re.mono N,qJ h1 (λ_ _ z=>z.mono N) λ_ _ z=>z.mono N⟩,?_⟩
   rintro i f I U ⟨b,A2,p,t,T,q,h2⟩
   obtain⟨j1,j2⟩:=jr i b U A2 ⟨t.ex,t.tp,t.fz⟩ T;cases E:j.at_ A2 i with
   |none=>cases f<;>(unfold yh at h2;rw[E]at h2;exact h2.elim)|some o=>
    cases o with
    |none=>
     left
     refine⟨j2 E,?_⟩;cases f<;>(unfold yh at h2;rw[E]at h2;exact h2 b U I .refl T q)
    |some w=>
     right
     obtain⟨go,yl⟩:=j1 w E;cases f with
     |zero=>unfold yh at h2;rw[E]at h2;exact h2.elim|succ f=>
      unfold yh at h2;rw[E]at h2;refine⟨go,λc C=>HG X.K xr j (turn tw m1) D e H1 f (i+1) c C,λc C z=>⟨f,bx _,z⟩,λx H3 y=>?_⟩;obtain⟨L,Q,q3⟩:=yl x H3 y;have u:=qe.mp h2;unfold turn at u;cases P:tw w p with
      |none=>rw[P]at u;exact u.elim|some n=>
       rw[P]at u;refine⟨b,A2,p,w,n,Q,q.mono L,q3,P,λZ M=>?_⟩;refine⟨b,A2,n,Q,M,qJ u (λfl Y B=>?_) λ_ _ z=>z.mono L⟩;cases fl with
       |nx d=>exactλa v g l s r=>⟨a,Y,d,(t.trans L).trans l,s,r,qJ B (λ_ _ z=>z.mono (L.trans l)) λ_ _ z=>z.mono (L.trans l)⟩|ct d=>exactλa v g l s r=>⟨a,Y,d,(t.trans L).trans l,s,r,qJ B (λ_ _ z=>z.mono (L.trans l)) λ_ _ z=>z.mono (L.trans l)⟩|bk d=>exactλa v g l s r=>B a v g (L.trans l) s r|rt w4=>exactλa v v4 l s q4=>B a v v4 (L.trans l) s q4
def yb {sa s:cc}(d:yy X xr c mc)(f:kI X xr sa m1)(e:kI X xr s m2):kj X xr (.If c sa s pos) (jf mc m1 m2):=by
 try simp only[qg]at*
 exact PS.imp (da d f e) λD σ H ⟨φ,A,ρ,S,re,h⟩=>by
   refine tT.go S re (qe.mp h) λw A1 h1=>?_;cases w with
   |bl k=>
    refine⟨k,rfl,λa H1 l b=>?_⟩;cases k with
    |true=>rw[aj rfl];exact⟨a,A1,ρ,b,re.mono l,qJ h1 (λ_ _ z=>z.mono l) λ_ _ z=>z.mono l⟩|false=>rw[ao aD];exact⟨a,A1,ρ,b,re.mono l,qJ h1 (λ_ _ z=>z.mono l) λ_ _ z=>z.mono l⟩
   |non=>cases h1|int _=>cases h1|str _=>cases h1|tup _=>cases h1|ref _=>cases h1|clo _ _ _=>cases h1|xc _=>cases h1|fn _=>cases h1
def zF:kI X xr [] zx:=by
 try simp only[qg]at*
 exact yM.imp c4 λD σ H ⟨φ,A,ρ,S,re,h⟩=>h φ H σ .refl S re
def qw (he:zC X xr e m):kj X xr (.Return (some e) pos) (qA m):=by
 try simp only[qg]at*
 exact PS.imp (c8 he) λD σ H ⟨φ,A,ρ,S,re,h⟩=>tM.go S re (qe.mp h) λw A1 a H1 v h1 l s q=>h1 a H1 v l s q
def ql (i:Nat){pos':Pos}(b:X.N.Nodup)(he:zC X xr e m)(a:X.N[i]? =some x:=by rfl)(h:Loc X.env.scope x:=by first|exact Or.inl rfl|exact Or.inr rfl)(H:swapsWith e (some (.Name x pos')) pos.line X.env=pure false:=by rfl)
  (hf:X.fn x=true∨X.env.scope.names.lookup x=some .local:=by first|exact .inl rfl|exact .inr rfl):kj X xr (.Assign [.Name x pos'] e pos) (zM i m):=by
 try simp only[qg]at*
 exact PS.imp (dh b a h he H hf) zM.read
def Zx (i:Nat){mi:Ei}{tw:Tg}{M:Ev}{em:Em}{P a:Pos}(nl:Nat)(cap:bP)(j:X.N.Nodup)
  (e:X.calm=true)(S:gE X sc)(p:Qm X.N N sc nl cap=true)(hw:kL X xr tg iter mi)
  (n:∀s H fp,wD (jT X N sc s H fp yr) tg tw/\gL (jT X N sc s H fp yr) ifs M/\gw (jT X N sc s H fp yr) elt (⟨tg,iter,ifs,0⟩::gs) sc pos 0 em)
  (b:X.N[i]? =some x:=by rfl)(c:X.env.scope.names.lookup x=some .local:=by rfl)
  (w:swapsWith (.ListComp elt (⟨tg,iter,ifs,0⟩::gs) sc pos) (some (.Name x P)) a.line X.env=pure true:=by rfl)
  (f:∀g',gs[0]? =some g'->g'.is_async=0:=by intro _ h;cases h<;>rfl)
  (d:∀x,foldedSetIterable iter X.env x=pure x:=by intro _;rfl):kj X xr (.Assign [.Name x P] (.ListComp elt (⟨tg,iter,ifs,0⟩::gs) sc pos) a) (zM i (qY (zU nl cap mi tw M em))):=by
 try simp only[qg]at*
 exact PS.imp (L2.CQ (g:=tG X.K tw) (ti:=tT X.K yJ M) (tm:=tE X.K em) j b c w e S p f hw n d) λD σ H h=>zU.read σ H _ (qY.read σ H _ (zM.read D σ H h))
def QV (h:gX X xr e m):yy X xr e m:=by
 try simp only[qg]at*
 exact PW.pt h
def yF {g:W->W->Hx->R W}(h:wQ X op g)(c:zC X xr a ma)(H:zC X xr b mb)(h1:op≠.In:=by decide)(h2:op≠.NotIn:=by decide):yy X xr (.Compare a [op] [b] pos) (zi g ma mb):=by
 try simp only[qg]at*
 exact let ⟨r,a1,a2,A⟩:=h.ex;Lp a1 a2 A c H (h.mks b h1 h2)
def iS {o:CmpOp}{g g':W->W->Hx->R W}(h:wQ X op g)(h':wQ X o g')(e:zC X xr a ma)(d:zC X xr b mb)(H:zC X xr c mc)(hm:lastMarks [op,o] [b,c]=false:=by with_unfolding_all rfl):
  yy X xr (.Compare a [op,o] [b,c] pos) (wu g g' ma mb mc):=by
 try simp only[qg]at*
 exact let ⟨r,a1,a2,A⟩:=h.ex;let ⟨j,i,f,B⟩:=h'.ex;fE a1 a2 A i f B e d H hm
def Ti {g:W->W->Hx->R W}(h:XS X op g)(c:zC X xr a ma)(H:zC X xr b mb)(hm:behindInMarks op b=false:=by rfl):yy X xr (.Compare a [op] [b] pos) (zi g ma mb):=by
 try simp only[qg]at*
 exact let ⟨r,a1,a2,A⟩:=h.ex;Lp a1 a2 A c H hm
def Zc (d:yy X xr a ma):yy X xr (.UnaryOp .Not a pos) (yi ma):=by
 try simp only[qg]at*
 exact PT.imp (cQ d) λσ H Q ⟨φ,A,ρ,S,re,h⟩=>by
   refine tT.go S re (qe.mp h) λw A1 h1=>?_;cases w with
   |bl k=>obtain⟨b,e,q⟩:=h1;cases e;exact⟨k,rfl,λc H1 l s=>q c H1 l s⟩|non=>cases h1|int _=>cases h1|str _=>cases h1|tup _=>cases h1|ref _=>cases h1|clo _ _ _=>cases h1|xc _=>cases h1|fn _=>cases h1
def kU (h:zC X xr e m)(he:∀whole,isTrue e X.env whole=(do let v <- whole;standAt e.pos;holding [v] (truthy v)):=by intro _;rfl):yy X xr e m:=by
 try simp only[qg]at*
 exact PT.imp (cM h he) λσ H Q h=>h.toM
def qW:gL X [] (zW (.bl true)):=by
 try simp only[qg]at*
 exactλpins s σ H Q I ⟨φ,A,ρ,S,re,h⟩=>Ap pins s σ H Q I (by
  obtain⟨b,e,q⟩:=h;cases e;exact q φ H .refl S)
def KJ (h:yy X yJ c mc):gL X [c] mc:=by
 try simp only[qg]at*
 exact fk h
def U7 {rest:bU}(f:yy X xr a ma)(d:gX X xr (.BoolOp .And (b::rest) pos) mb):gX X xr (.BoolOp .And (a::b::rest) pos) (j0 ma mb):=by
 try simp only[qg]at*
 exact PW.imp (pw_and f d) λσ H Q ⟨φ,A,ρ,S,re,h⟩=>by
   refine tT.go S re (qe.mp h) λw A1 h1=>?_;cases w with
   |bl k=>
    refine⟨k,rfl,λc H1 l s=>?_⟩;cases k with
    |true=>rw[aj rfl];exact tT.mono s l re h1|false=>rw[ao aD];obtain⟨b,e,q⟩:=h1;cases e;exact q c H1 l s
   |non=>cases h1|int _=>cases h1|str _=>cases h1|tup _=>cases h1|ref _=>cases h1|clo _ _ _=>cases h1|xc _=>cases h1|fn _=>cases h1
def UR (h:yy X xr a ma):gX X xr (.BoolOp .And [a] pos) ma:=by
 try simp only[qg]at*
 exact pw_and1 h
def Wc {rest:bU}(f:yy X xr a ma)(d:gX X xr (.BoolOp .Or (b::rest) pos) mb):gX X xr (.BoolOp .Or (a::b::rest) pos) (gQ ma mb):=by
 try simp only[qg]at*
 exact PW.imp (pw_or f d) λσ H Q ⟨φ,A,ρ,S,re,h⟩=>by
   refine tT.go S re (qe.mp h) λw A1 h1=>?_;cases w with
   |bl k=>
    refine⟨k,rfl,λc H1 l s=>?_⟩;cases k with
    |false=>rw[ao aD];exact tT.mono s l re h1|true=>rw[aj rfl];obtain⟨b,e,q⟩:=h1;cases e;exact q c H1 l s
   |non=>cases h1|int _=>cases h1|str _=>cases h1|tup _=>cases h1|ref _=>cases h1|clo _ _ _=>cases h1|xc _=>cases h1|fn _=>cases h1
def KW (h:yy X xr a ma):gX X xr (.BoolOp .Or [a] pos) ma:=by
 try simp only[qg]at*
 exact pw_or1 h
def qZ {K:Frag}{st:Stmt}{f:Addr}{k:Nat}{m:Ex}(F:kR K x x st f fd)(hm:mg x=some (.ref f))(S:qC N ps (zZ st))
  (i:∀(kV doc pm:Value)(an:cb)(c ct:Value)(us:bL),us.length=ps.length->bindArgs (fnOf x x (Qc st) (yW st) (zZ st) .none kV doc pm an c ct) ⟨us,[]⟩=pure (ps.zip us))
  (a:∀(c:Value)(A:Around)(outer:b0)(s:Shared)(H:Hp)(E:XK),jO k (A.deeper (envOfC x (zZ st) s.heap.objs.size f c))->kI (wj wc P w K mg base N x (zZ st) f c A outer s H E).nox yJ (yW st) m):
  zJ P w K mg base (k+1) x ps.length (qt N.length m):=by
 try simp only[qg]at*
 refine⟨f,fd,ps,?_,hm,F.kp,F.binds i⟩;refine F.ok S (λvs H Q E h=>h.len) λc A outer s H vs Q E g ⟨hl,φ,A1,ws,j,r,h⟩=>⟨_,a c A outer s H E g,?_⟩;refine⟨φ,A1,ws.map some++List.replicate (N.length-ws.length) none,j,RE.start r,?_⟩;have h':=qe.mp h;show R.post _ (FB K φ H _) _;cases e:m (ws.map some++List.replicate (N.length-ws.length) none) A1 with
 |ok fl A2=>
  rw[e]at h';cases fl with
  |rt w=>exact h'|nx ρ=>exactλb o d l n _=>h' b o .non l n rfl|bk ρ=>exact h'.elim|ct ρ=>exact h'.elim
 |exc y A2=>
  rw[e]at h';exact h'.elim
 |bad=>rw[e]at h';exact h'.elim
def M6 (hm:X.mg "abs"=none)(a:zC X xr e m)(h:Gl X "abs":=by rfl)(he:starEach [e] X.env=(false,eval e X.env)::starEach [] X.env:=by rfl):zC X xr (.Call (.Name "abs" p) [e] [] pos) (yw Vc m):=by
 try simp only[qg]at*
 exact hA AW (λw A=>by unfold Vc;split;exact yc;exact ju) (λφ A H x u Q S q p=>by
   cases u with
   |int i=>obtain rfl:=q;exact⟨i,rfl,p φ H _ .refl S rfl⟩|_=>exact p.elim) hm (by rfl) a h (by decide) (by decide) he (by rfl)
def km (ho:zC X xr a ma)(he:zC X xr b mb)(s:starEach [b] X.env=(false,eval b X.env)::starEach [] X.env:=by rfl)
  (e:attributeBase a "append" X.env (eval a X.env)=eval a X.env:=by rfl)
  (w:((backTo cpos (starEach [b] X.env)).all (λx=>!x.1)&&(backToKw cpos (keywordEach [] X.env)).all (λx=>x.1.isSome)
   && decide ([b].length+([]:b9).length+(if ([]:b9).isEmpty then 0 else 1)<30))=true:=by rfl)(h:(apos.endLine==cpos.line)=true:=by rfl):
  zC X xr (.Call (.Attribute a "append" apos) [b] [] cpos) (jj jS ma mb):=by
 try simp only[qg]at*
 exact XG PySem.F.slot_list_append PySem.F.type_list_append Nu Ad (λφ A H x y u v Q S g q p=>by
   unfold jS at p;cases u with
   |ref n=>
    dsimp only at p;cases E:A[n]? with
    |none=>rw[E]at p;exact p.elim|some o=>cases o with
     |lst ws=>
      rw[E]at p;dsimp only at p
      by_cases c:ws.length<qj
      ·rw[aj c]at p
       obtain⟨l,vs,rfl,f1,g1,r⟩:=S.lst g E;refine⟨l,vs,y,rfl,rfl,g1,?_,?_⟩
       ·rw[<- r.length]
        have:sizeLine=16777216:=sizeLine_eq
        unfold qj at c;omega
       ·have ln:Le X.K φ H φ (upd H l (.lst (vs++[y]))):=Le.upd f1 (λxs z=>by rw[g1]at z;cases z) (λ_ _ z=>by rw[g1]at z;cases z)
        obtain⟨f,d⟩:=S.write (o:=.lst ws) (o':=.lst (ws++[v])) E rfl rfl f1 ⟨_,j5,(r.mono ln).append (.one (q.mono ln))⟩;exact p _ _ _ f d rfl
      ·rw[ao c]at p;exact p.elim
     |_=>rw[E]at p;exact p.elim
   |_=>exact p.elim) ho he s e w h
def UA (hm:X.mg "int"=none)(a:zC X xr e m)(h:Gl X "int":=by rfl)(he:starEach [e] X.env=(false,eval e X.env)::starEach [] X.env:=by rfl):zC X xr (.Call (.Name "int" p) [e] [] pos) (yw WI m):=by
 try simp only[qg]at*
 exact hE Bi (λw A=>by unfold WI;split;exact yc;exact yc;exact ju) (λφ A H x u Q S q p=>by
   cases u with
   |int i=>obtain rfl:=q;exact .inl ⟨i,rfl,p φ H _ .refl S rfl⟩|bl k=>obtain rfl:=q;exact .inr ⟨k,rfl,p φ H _ .refl S rfl⟩|_=>exact p.elim) hm (by rfl) a h (by decide) (by decide) he (by rfl)
def iT (e:X.calm=true)(hm:X.mg "max"=none)(o:zC X xr a ma)(n:zC X xr b mb)(l:Gl X "max":=by rfl)(h1:starEach [a,b] X.env=(false,eval a X.env)::starEach [b] X.env:=by rfl)(h2:starEach [b] X.env=(false,eval b X.env)::starEach [] X.env:=by rfl)(h:(backTo pos (starEach [b] X.env)).any (·.1)=false:=by rfl):
  zC X xr (.Call (.Name "max" p) [a,b] [] pos) (zi Sk ma mb):=by
 try simp only[qg]at*
 exact Ie (Bk e) Qj (λφ A H x y u v Q S d c p=>by
   obtain⟨i,j,r,E,q⟩:=Qh (K:=X.K) (f:=λi j=>.int (if j > i then j else i)) (g:=λi j=>.int (if j > i then j else i)) (λ_ _ _ _=>rfl) φ A H x y u v Q S d c p;subst r;subst E;exact⟨i,j,rfl,q⟩) hm (by rfl) o n l (by decide) (by decide) h1 h2 h
def Ae (ho:zC X xr a ma)(he:zC X xr b mb)(B:starEach [b] X.env=(false,eval b X.env)::starEach [] X.env:=by rfl)
  (e:attributeBase a "pop" X.env (eval a X.env)=eval a X.env:=by rfl)
  (c:((backTo cpos (starEach [b] X.env)).all (λx=>!x.1)&&(backToKw cpos (keywordEach [] X.env)).all (λx=>x.1.isSome)
   && decide ([b].length+([]:b9).length+(if ([]:b9).isEmpty then 0 else 1)<30))=true:=by rfl)(h:(apos.endLine==cpos.line)=true:=by rfl):
  zC X xr (.Call (.Attribute a "pop" apos) [b] [] cpos) (jj Zf ma mb):=by
 try simp only[qg]at*
 exact XG PySem.F.slot_list_pop PySem.F.type_list_pop eQ AM (λφ A H x y u v Q S t s p=>by
   unfold Zf at p;cases u with
   |ref n=>cases v with
    |int i=>
     obtain rfl:=s;dsimp only at p;cases E:A[n]? with
     |none=>rw[E]at p;exact p.elim|some o=>cases o with
      |lst ws=>
       rw[E]at p;dsimp only at p
       by_cases d:jH i=true
       ·rw[aj d]at p
        obtain⟨D,C⟩:=QR d;cases g:seqIndex? i ws.length with
        |none=>rw[g]at p;exact p.elim|some k=>
         rw[g]at p;dsimp only at p;cases f:ws[k]? with
         |none=>rw[f]at p;exact p.elim|some w=>
          rw[f]at p;obtain⟨l,vs,rfl,f1,g1,r⟩:=S.lst t E;obtain⟨y,h1,h2⟩:=r.get f;have ln:Le X.K φ H φ (upd H l (.lst (vs.eraseIdx k))):=Le.upd f1 (λxs z=>by rw[g1]at z;cases z) (λ_ _ z=>by rw[g1]at z;cases z)
          obtain⟨j,q⟩:=S.write (o:=.lst ws) (o':=.lst (ws.eraseIdx k)) E rfl rfl f1 ⟨_,j5,(r.erase k).mono ln⟩;exact⟨l,vs,i,k,y,rfl,rfl,g1,by omega,by omega,by rw[<- r.length];exact g,h1,p _ _ _ j q (h2.mono j)⟩
       ·rw[ao d]at p;exact p.elim
      |_=>rw[E]at p;exact p.elim
    |_=>exact p.elim
   |_=>cases v<;>exact p.elim) ho he B e c h
def Mk (H:zC X xr a ma)(h:zC X xr b mb):zC X xr (.BinOp a .Pow b pos) (zi X0 ma mb):=by
 try simp only[qg]at*
 exact Zd dH Wm (Wh Mx λ_ _ _ _=>rfl) H h
def Xd {x j}:zC X xr (.Constant (.str x) j pos) (zW (.str x)):=by
 try simp only[qg]at*
 exact PE.imp cK λσ H Q ⟨φ,A,ρ,S,r,h⟩=>h φ H _ .refl S rfl
def MC (H:zC X xr a ma)(h:zC X xr b mb):zC X xr (.BinOp a .BitXor b pos) (zi Sr ma mb):=by
 try simp only[qg]at*
 exact Zd dN Qj (Qh λ_ _ _ _=>rfl) H h
def iU {q:j3}(hm:X.mg "list"=none)(c:w8 X xr e q)(g:Gl X "list":=by rfl)(he:starEach [e] X.env=(false,eval e X.env)::starEach [] X.env:=by rfl):
  zC X xr (.Call (.Name "list" p) [e] [] pos) (qY q):=by
 try simp only[qg]at*
 exact PE.imp (KG DQ g hm (by rfl) (jD c yg he) (by decide) (by decide) he (by rfl)) λσ H Q ⟨φ,A,ρ,S,re,h⟩=>by
   refine⟨φ,A,ρ,S,re,qJ (qe.mp h) (λws A1 h1 b H1 a ys L s z r=>?_) λ_ _ z=>z⟩;refine⟨a,ys,rfl,z,λl hl=>?_⟩;obtain⟨a1,a2,d⟩:=Q0 s hl r;exact h1 _ _ _ (L.trans a1) a2 d
def G4 {o i:Expr}{mo mi:Ev}(he:zC X xr e m)(ho:zC X xr o mo)(H:zC X xr i mi)
  (h:swapsWithSole [.Subscript o i tpos] e pos.line X.env=pure false:=by rfl)(hw:swappedStores [.Subscript o i tpos] e X.env=pure none:=by rfl)
  (h1:(assignEach [.Subscript o i tpos] X.env).map (·.2)=[assign (.Subscript o i tpos) X.env]:=by rfl)
  (a:∀v,assign (.Subscript o i tpos) X.env v=(do
   let ov <- holding [v] (eval o X.env)
   let iv <- holding [v,ov] (eval i X.env)
   standAt tpos
   holding [v,ov,iv] (setItem ov iv v)
   release [v,ov,iv] []):=by intro _;rfl):kj X xr (.Assign [.Subscript o i tpos] e pos) (ZK k9 m mo mi):=by
 try simp only[qg]at*
 exact fG set_list LN My he ho H h hw h1 a
def UG (f:Nat)(B:PassesOwn (model X.prog X.w) X.A X.env X.xe)(C:yy X xr c mc)(E:kI X xr body m1):kj X xr (.While c body [] pos) (Xw f mc m1):=by
 try simp only[qg]at*
 exact PS.imp (dv B C E) λD σ H ⟨φ,A,ρ,S,re,h⟩=>by
   refine⟨λf i e=>∃a A2 d,Le X.K φ H a e/\zQ X.K a A2 e/\RE X.K a e d i/\(QA mc m1 f d A2).post (FB X.K a e D) (EB X.K a e xr),⟨f,φ,A,ρ,.refl,S,re,h⟩,?_⟩
   rintro f u P ⟨a,A2,d,v,I,o,h2⟩
   cases f with
   |zero=>exact h2.elim|succ f=>
    unfold QA at h2;refine tT.go I o (qe.mp h2) λw M g=>?_;cases w with
    |bl k=>
     refine⟨k,rfl,λp J l x=>?_⟩;cases k with
     |true=>
      rw[aj rfl];refine⟨λi e=>∃a A2 d,Le X.K φ H a e/\zQ X.K a A2 e/\RE X.K a e d i/\(QA mc m1 f d A2).post (FB X.K a e D) (EB X.K a e xr),λi e z=>⟨f,bx _,z⟩,?_⟩;refine⟨p,M,d,x,o.mono l,qJ (qe.mp g) (λfl y t=>?_) λ_ _ z=>z.mono l⟩;cases fl with
      |nx j=>exactλb q n L s r=>⟨b,y,j,(v.trans l).trans L,s,r,qJ t (λ_ _ z=>z.mono (l.trans L)) λ_ _ z=>z.mono (l.trans L)⟩|ct j=>exactλb q n L s r=>⟨b,y,j,(v.trans l).trans L,s,r,qJ t (λ_ _ z=>z.mono (l.trans L)) λ_ _ z=>z.mono (l.trans L)⟩|bk j=>exactλb q n L s r=>t b q n (l.trans L) s r|rt N=>exactλb q v4 L s Q=>t b q v4 (l.trans L) s Q
     |false=>
      rw[ao aD];exact g p J u l x (o.mono l)
    |non=>cases g|int _=>cases g|str _=>cases g|tup _=>cases g|ref _=>cases g|clo _ _ _=>cases g|xc _=>cases g|fn _=>cases g
end
end Mi
variable {mr:Mi.Ea}{mi:Mi.Ei}{em:Mi.Em}{ρ:Mi.En}{me:Mi.Ev}{f:Mi.Fn}{A A1 B:Mi.Hx}{ws:List Mi.W}{tw:Mi.Tg}{g:Mi.W->Mi.W->Mi.Hx->Mi.R Mi.W}{xr:Mi.XR}{q:Mi.j3}
set_option maxHeartbeats 4000000
namespace Mi
open PySem L2
section
variable {ρ1:En}{A2:Hx}{w x y:W}{m ma mb mc:Ev}{m1 m2:Ex}
def zy (h:ρ[i]? =some (some w)):qh i ρ A=.ok w A:=by unfold qh;rw[h]
def qy:zW w ρ A=.ok w A:=rfl
def z7 (h1:ma ρ A=.ok x A1)(h2:mb ρ A1=.ok y A2):zi g ma mb ρ A=g x y A2:=by unfold zi;rw[h1,zT,h2,zT]
def iV {g:W->Hx->R W}(h1:ma ρ A=.ok x A1):yw g ma ρ A=g x A1:=by unfold yw;rw[h1,zT]
def gD {k:Bool}(h:ma ρ A=.ok (.bl k) A1):yi ma ρ A=.ok (.bl (!k)) A1:=by unfold yi;rw[h,zT]
def Ys (h:ma ρ A=.ok (.bl true) A1):j0 ma mb ρ A=mb ρ A1:=by unfold j0;rw[h,zT]
def K8 (h:ma ρ A=.ok (.bl false) A1):j0 ma mb ρ A=.ok (.bl false) A1:=by unfold j0;rw[h,zT]
def IE (h:ma ρ A=.ok (.bl false) A1):gQ ma mb ρ A=mb ρ A1:=by unfold gQ;rw[h,zT]
def jt {a:Ea}(h:a ρ A=.ok ws A1):zH f a ρ A=f ws A1:=by unfold zH;rw[h,zT]
def qE:zm ρ A=.ok [] A:=rfl
def zS {r:Ea}(h1:ma ρ A=.ok x A1)(h2:r ρ A1=.ok ws A2):zh ma r ρ A=.ok (x::ws) A2:=by unfold zh;rw[h1,zT,h2,zT]
def wL {a:Ea}(h:a ρ A=.ok ws A1):qb a ρ A=.ok (.tup ws) A1:=by unfold qb;rw[h,zT]
def j6 {a:Ea}(h:a ρ A=.ok ws A1):qi a ρ A=.ok (.ref A1.length) (A1++[.lst ws]):=by unfold qi;rw[h,zT]
def zL (h:m1 ρ A=.ok (.nx ρ1) A1):zj m1 m2 ρ A=m2 ρ1 A1:=by unfold zj;rw[h,zT]
def jb (h:m1 ρ A=.ok (.rt w) A1):zj m1 m2 ρ A=.ok (.rt w) A1:=by unfold zj;rw[h,zT]
def jk:zx ρ A=.ok (.nx ρ) A:=rfl
def jd (h:m ρ A=.ok w A1):zM i m ρ A=.ok (.nx (ρ.set i (some w))) A1:=by unfold zM;rw[h,zT]
def ZH (h:m ρ A=.ok w A1):jx m ρ A=.ok (.nx ρ) A1:=by unfold jx;rw[h,zT]
def jM (h:m ρ A=.ok w A1):qA m ρ A=.ok (.rt w) A1:=by unfold qA;rw[h,zT]
def gn (h:mc ρ A=.ok (.bl true) A1):jf mc m1 m2 ρ A=m1 ρ A1:=by unfold jf;rw[h,zT]
def yP (h:mc ρ A=.ok (.bl false) A1):jf mc m1 m2 ρ A=m2 ρ A1:=by unfold jf;rw[h,zT]
def ym {j:jJ}(h:mi ρ A=.ok j A1):qF mi tw m1 ρ A=yh j (turn tw m1) j.len 0 ρ A1:=by unfold qF;rw[h,zT]
def yz (h:tw w ρ=some ρ1):turn tw m1 w ρ A=m1 ρ1 A:=by unfold turn;rw[h]
def Ut {j:jJ}{st:W->Ex}(h:j.at_ A i=some none):yh j st n i ρ A=.ok (.nx ρ) A:=by
 cases n with
 |zero=>unfold yh;rw[h]|succ n=>unfold yh;rw[h]
def GL {j:jJ}{st:W->Ex}(h:j.at_ A i=some (some w))(H:st w ρ A=.ok (.nx ρ1) A1):yh j st (n+1) i ρ A=yh j st n (i+1) ρ1 A1:=by
 rw[yh,h];dsimp only;rw[H,zT]
def wm {k:Int}(h:m ρ A=.ok (.int k) A1)(H:jH k=true):qN m ρ A=.ok (ye 0 k.toNat) A1:=by unfold qN;rw[h,zT];dsimp only;rw[aj H]
def kf {lo:Int}{k:Nat}(h:i<k):(ye lo k).at_ A i=some (some (.int (lo+i))):=by unfold ye;dsimp only;rw[aj h]
def yY {lo:Int}{k:Nat}(h:¬i<k):(ye lo k).at_ A i=some none:=by unfold ye;dsimp only;rw[ao h]
def jC (h:m1 (ws.map some++List.replicate (n-ws.length) none) A=.ok (.rt w) A1):qt n m1 ws A=.ok w A1:=by unfold qt;rw[h];rfl
def Yw {w:W}(hn:qO ws=true)(hw:w.nr=true)(h:f ws []=.ok w A1):iso f ws A=.ok w A:=by
 unfold iso;rw[aj hn,h];cases w with
 |ref k=>cases hw|_=>dsimp only;rw[aj hw]
end
end Mi
set_option maxHeartbeats 4000000
namespace Mi
open PySem L2
def iW {j:jJ}{ifs:Ev}{c:En}{N:Nat}{item g:Nat->W}{keep:Nat->Bool}(t:∀i,i<N->j.at_ A i=some (some (item i)))(d:j.at_ A N=some none)
  (b:∀i,i<N->ifs (some (item i)::c) A=.ok (.bl (keep i)) A)(he:∀i,i<N->keep i=true->me (some (item i)::c) A=.ok (g i) A):
  ∀(n i:Nat)(x:Option W)(acc:List W),i+n=N->acc.length+n<=qj->∃y,jn j (zE 0) ifs (zR me) n i (x::c) acc A=.ok (y::c,acc++((List.range' i n).filter keep).map g) A:=by
 intro n
 induction n with
 |zero=>
  intro i x acc h _
  have:i=N:=by omega
  subst this;refine⟨x,?_⟩;unfold jn;rw[d];simp
 |succ n I=>
  intro i x acc h hl;have H:i<N:=by omega
  rw[jn,t i H];dsimp only[zE,List.set];rw[b i H,zT];rw[range'_succ];cases a:keep i with
  |true=>
   dsimp only;obtain⟨y,e⟩:=I (i+1) (some (item i)) (acc++[g i]) (by omega) (by rw[av,aW];omega)
   refine⟨y,?_⟩;have E:zR me (some (item i)::c) acc A=.ok (some (item i)::c,acc++[g i]) A:=by
    unfold zR;rw[he i H a,zT,aj (by omega)]
   rw[E,zT];dsimp only;rw[e,List.filter_cons_of_pos a,aS,aN]
   rfl
  |false=>
   dsimp only;obtain⟨y,e⟩:=I (i+1) (some (item i)) acc (by omega) (by omega)
   exact⟨y,by rw[e,List.filter_cons_of_neg (by rw[a];exact aD)]⟩
def Uv {j:jJ}{ifs:Ev}{N:Nat}{item g:Nat->W}{keep:Nat->Bool}(hm:mi ρ A=.ok j A)(a:j.len=N)(d:N<=qj)
  (H:∀i,i<N->j.at_ A i=some (some (item i)))(h:j.at_ A N=some none)(b:∀i,i<N->ifs (some (item i)::cap.map λi=>(ρ[i]?).join) A=.ok (.bl (keep i)) A)
  (he:∀i,i<N->keep i=true->me (some (item i)::cap.map λi=>(ρ[i]?).join) A=.ok (g i) A):
  zU 1 cap mi (zE 0) ifs (zR me) ρ A=.ok (((List.range N).filter keep).map g) A:=by
 obtain⟨y,e⟩:=iW H h b he N 0 none [] (zero_add N) (by simpa using d)
 unfold zU;rw[hm,zT,a];have c:Qo 1 cap ρ=none::cap.map λi=>(ρ[i]?).join:=rfl;rw[c,e,bf,<- range_eq_range']
 rfl
def gC {j:jJ}{N:Nat}{item g:Nat->W}(hm:mi ρ A=.ok j A)(a:j.len=N)(c:N<=qj)
  (t:∀i,i<N->j.at_ A i=some (some (item i)))(H:j.at_ A N=some none)(he:∀i,i<N->me (some (item i)::cap.map λi=>(ρ[i]?).join) A=.ok (g i) A):
  zU 1 cap mi (zE 0) (zW (.bl true)) (zR me) ρ A=.ok ((List.range N).map g) A:=by
 have h:=Uv (ifs:=zW (.bl true)) (keep:=λ_=>true) hm a c t H (λ_ _=>rfl) λi b _=>he i b;have f:(List.range N).filter (λ_=>true)=List.range N:=List.filter_eq_self.mpr λ_ _=>rfl;rw[f]at h;exact h
def yB {g:List W->Hx->R W}(h:q ρ A=.ok ws A1):mQ g q ρ A=g ws A1:=by unfold mQ;rw[h,zT]
def ko (h:q ρ A=.ok ws A1):qY q ρ A=.ok (.ref A1.length) (A1++[.lst ws]):=by unfold qY;rw[h,zT]
def kx {m:Ev}{w:W}(h:m ρ A=.ok w A1)(H:zX w A1=some ws):zN m ρ A=.ok ws A1:=by unfold zN;rw[h,zT,H]
open PySem PySem.Spec PyProof.Rows L2
inductive zgf (H:Hp)(h g:Heap)(e:Addr)(vs:Array Value):Prop
 |mk (T:Addr) (oT:Obj) (ts:Array Value) (h1:vs[1]? =some (.ref T)) (ne:T≠e) (ng:g.get? T=none) (nH:H T=none) (hT:h.get? T=some oT) (hd:oT.data=.fields ts) (h3:ts[3]? =some .none)
inductive gm (H:Hp)(h g:Heap)(e:Addr)(C:Value):Prop
 |mk (ng:g.get? e=none) (nH:H e=none) (oe:Obj) (vs:Array Value) (a0:Value) (he:h.get? e=some oe) (hc:oe.cls=C) (hd:oe.data=.fields vs) (h0:vs[0]? =some a0) (h1:vs[1]? =some .none∨zgf H h g e vs)
inductive Tr (h:Heap)(e:Addr):Prop
 |mk (oe:Obj) (vs:Array Value) (T:Addr) (he:h.get? e=some oe) (hd:oe.data=.fields vs) (h1:vs[1]? =some (.ref T))
section
variable {A:Around}{outer:b0}{L e:Addr}{C:Value}{g:Heap}
theorem frames_at {B:Heap}:∀{l:b0},s.heap.FunFrames base l->(∀b∈qR l,B.get? b=none)->s.heap.FunFrames B l
 |[],_,_=>trivial|e::r,⟨a,⟨L,o,hf,hn,ho,hd⟩,H⟩,h=>⟨a,⟨L,o,hf,h L (by unfold qR;rw[bc,hf];exact aB ..),ho,hd⟩,frames_at H λb c=>h b (by
   unfold qR;rw[bc,hf];exact au _ c)⟩
def LL {Q:Unit->Shared->Prop}(y:A.frames=some (env::outer))(hf:env.frame=some L)(hl:s.heap.FunFrames base (env::outer))(x:gm H s.heap g e C)
  (tr:∀b u,H b=some u->∃o,s.heap.get? b=some o)(th:∀b o,g.get? b=some o->∃o',s.heap.get? b=some o')
  (hQ:∀h',(∀b o,s.heap.get? b=some o->b∉qR (env::outer)->((∃o',g.get? b=some o')∨∃u,H b=some u)->h'.get? b=some o)->(∀b o,s.heap.get? b=some o->b∈qR (env::outer)->∃sl,h'.get? b=some { o with slots:=sl })->
   gm H h' g e C->Tr h' e->Q () { s with heap:=h' }):wpAny M A (leaving env (.ref e)) Q E s:=by
 obtain⟨J,P,oe,vs,Y,he,X,hd,h0,h1⟩:=x;have fin:∀(d:bM),(∀b∈qR (env::outer),b∈d)->(∀b∈d,b∉qR (env::outer)->g.get? b=none/\H b=none)->∀h',Heap.LeftW (hideAll s.heap d) (env::outer) e C Y s.heap h'->Q () { s with heap:=h' }:=by
  intro d hi1 w h' ⟨st,ff,r,us⟩;refine hQ h' (λb o h nb hx=>?_) (λb o h mb=>?_) ?_ (by obtain⟨i,v,T,D,t,j,_,l,p,_⟩:=r;exact⟨i,v,T,j,l,p⟩)
  ·refine st b o (bF d h λhm=>?_)
   obtain⟨z1,z2⟩:=w b hm nb;rcases hx with ⟨o',q⟩|⟨u,q⟩
   ·rw[z1]at q;cases q
   ·rw[z2]at q;cases q
  ·obtain⟨_,o',a,f⟩:=hl.mem mb
   rw[h]at a;cases a;exact us b o h f
  ·obtain⟨i,v,T,D,t,j,⟨K,U⟩,l,p,B,n,hT,c,S⟩:=r
   have nT:T∉qR (env::outer):=λhm=>by
    obtain⟨_,o',a,f⟩:=hl.mem hm;obtain⟨sl,z⟩:=us T o' a f;rw[hT]at z;cases z;exact f t c
   have both:g.get? T=none/\H T=none:=by
    cases q:s.heap.get? T with
    |some o=>
     by_cases hm:T∈d
     ·exact w T hm nT
     ·rw[bF d q hm]at B;cases B
    |none=>
     constructor
     ·cases z:g.get? T with
      |none=>rfl|some o=>obtain⟨o',Z⟩:=th T o z;rw[q]at Z;cases Z
     ·cases z:H T with
      |none=>rfl|some u=>obtain⟨o',Z⟩:=tr T u z;rw[q]at Z;cases Z
   exact⟨J,P,i,v,Y,j,K,l,U,.inr ⟨T,D,t,p,n,both.1,both.2,hT,c,S⟩⟩
 have stay:∀d:bM,(hideAll s.heap d).StaysIn s.heap:=λd b o q=>of_hideAll d q;rcases h1 with h1|⟨T,D,t,h1,n,I,N,hT,c,S⟩
 ·have hn:∀b∈e::qR (env::outer),(hideAll s.heap (e::qR (env::outer))).get? b=none:=λb h=>hideAll_none _ h
  refine wpAny_leaving_firstW (base:=hideAll s.heap (e::qR (env::outer))) y (frames_at hl λb h=>hn b (au _ h)) hf he (stay _) (hn e (aB ..)) hd h1 h0 ?_;rw[X];refine fin _ (λb h=>au _ h) λb h nb=>?_;rcases cm.mp h with rfl|h
  ·exact⟨J,P⟩
  ·exact absurd h nb
 ·have hn:∀b∈e::T::qR (env::outer),(hideAll s.heap (e::T::qR (env::outer))).get? b=none:=λb h=>hideAll_none _ h
  refine wpAny_leaving_nextW (base:=hideAll s.heap (e::T::qR (env::outer))) y (frames_at hl λb h=>hn b (au _ (au _ h))) hf
   ⟨oe,vs,T,D,t,he,⟨X,h0⟩,hd,h1,hn T (au _ (aB ..)),n,hT,c,S⟩ (stay _) (hn e (aB ..)) ?_
  refine fin _ (λb h=>au _ (au _ h)) λb h nb=>?_;rcases cm.mp h with rfl|h
  ·exact⟨J,P⟩
  ·rcases cm.mp h with rfl|h
   ·exact⟨I,N⟩
   ·exact absurd h nb
end
inductive MX (P:Program)(w:World)(outer:b0)(H:Hp)(s:Shared)(E:XK)(e:Value)(s':Shared):Prop
 |mk (ea C:Addr) (H':Hp) (he:e=.ref ea) (os:s'.os=s.os) (b:AllBare s'.gens) (un:Un (qR outer) [] H H' s.heap s'.heap) (hk:jy P w H' s'.heap) (ly:gm H' s'.heap s.heap ea (.ref C)) (tr:Tr s'.heap ea) (q:E (.ref C) none H')
noncomputable def g7 (P:Program)(w:World):gO:=λouter H s E e s'=>MX P w outer H s E e s'
def _root_.L2.jv.obj (x:jv P w H h a o):∃ob,h.get? a=some ob:=by
 cases o with
 |lst xs=>obtain⟨_,_,_,_,e⟩:=x;exact⟨_,e⟩|tup xs=>obtain⟨_,_,_,o,e,_⟩:=x;exact⟨o,e⟩|dK kvs=>obtain⟨_,_,_,_,o,_,_,e,_⟩:=x;exact⟨o,e⟩|dT kvs=>obtain⟨_,_,_,_,o,_,_,e,_⟩:=x;exact⟨o,e⟩|set S n=>obtain⟨o,_,_,_,e,_⟩:=x;exact⟨o,e⟩|ins C d fs=>obtain⟨_,_,_,e,_⟩:=x;exact⟨_,e⟩|own y=>exact x|xd fs=>obtain⟨_,⟨o,_,_,e,_⟩,_⟩:=x;exact⟨o,e⟩|rng lo i=>obtain⟨_,_,_,e⟩:=x;exact⟨_,e⟩|frz ob u=>exact⟨ob,x.1⟩|tbl ps=>exact⟨_,(show h.get? a=some _ from x)⟩|met f y=>exact⟨_,(show h.get? a=some _ from x)⟩|ext φ=>exact x.2.1
def Ac {K:Frag}{f:Addr}{cd:Value}{A:Around}{outer:b0}{E:XK}
  {h:Hp}{a C:Addr}(I:Inv (wj (g7 P w) P w K mg base N qual scope f cd A outer s H E) pins σ h s')(x:gm h s'.heap s.heap a (.ref C))(p:E (.ref C) none h):
  (wj (g7 P w) P w K mg base N qual scope f cd A outer s H E).xe (.ref a) s':=by
 have bs:Un (qR outer) [] H h s.heap s'.heap:=I.base;have stk:∀b∈qR (envOfC qual scope s.heap.objs.size f cd::outer),h b=none:=I.stkFree;have l:s.heap.get? s.heap.objs.size=none:=Heap.get?_none_of_le (aq _);have g:(envOfC qual scope s.heap.objs.size f cd).frame=some s.heap.objs.size:=rfl;have mem:∀b,b∈qR (envOfC qual scope s.heap.objs.size f cd::outer)↔b=s.heap.objs.size∨b∈qR outer:=λb=>by
  unfold qR;rw[bc,g];exact mem_cons
 show wpAny (model P w) (A.deeper (envOfC qual scope s.heap.objs.size f cd)) (leaving (envOfC qual scope s.heap.objs.size f cd) (.ref a)) _ _ s';refine LL (base:=base) (L:=s.heap.objs.size) I.ok.frames rfl I.stack x (λb u e=>(I.hok b u e).obj) (λb o e=>bs.there b o e (by simp)) λh' k1 k2 X t=>?_
 have r:∀b u,h b=some u->b∉qR (envOfC qual scope s.heap.objs.size f cd::outer):=λb u e hm=>by rw[stk b hm]at e;cases e
 refine⟨a,C,h,rfl,I.os,I.bare,⟨λb o e n nb _=>?_,λb o e n M _=>?_,λb o e n d=>bs.free b o e n d,λb o e d=>?_,bs.tups,bs.frzs,bs.tbls⟩,λb u e=>?_,X,t,p⟩
 ·have i:b≠s.heap.objs.size:=λz=>by rw[z,l]at e;cases e
  exact k1 b o (bs.keep b o e n nb (by simp)) (λhm=>(mem b).mp hm |>.elim i nb) (.inl ⟨o,e⟩)
 ·obtain⟨sl,q⟩:=bs.slot b o e n M (by simp)
  obtain⟨S,Q⟩:=k2 b _ q ((mem b).mpr (.inr M));exact⟨S,Q⟩
 ·obtain⟨o',q⟩:=bs.there b o e d
  by_cases hm:b∈qR (envOfC qual scope s.heap.objs.size f cd::outer)
  ·obtain⟨sl,z⟩:=k2 b o' q hm;exact⟨_,z⟩
  ·exact⟨o',k1 b o' q hm (.inl ⟨o,e⟩)⟩
 ·refine(I.hok b u e).stay (λc v j q=>?_) (λ_ q=>q) λ_ _ q=>q
  rcases j with z|z
  ·rw[z]at q ⊢;exact k1 b v q (r b u e) (.inr ⟨u,e⟩)
  ·exact k1 c v q (r c _ z) (.inr ⟨_,z⟩)
def Nl {E:XK}{e:Value}(I:Inv X pins σ H s)(h:g7 X.prog X.w X.stack H s E e s')(g:Heap)(r:∀b o,g.get? b=some o->∃o',s.heap.get? b=some o'):
  ∃a C c,e=.ref a/\Inv X pins σ c s'/\gm c s'.heap g a (.ref C)/\Tr s'.heap a/\E (.ref C) none c:=by
 obtain⟨a,C,c,rfl,os,bare,un,hok,x,tr,u⟩:=h;obtain⟨p,v,d,t,f⟩:=s';obtain rfl:f=s.os:=os;refine⟨a,C,c,rfl,I.call (h':=p) (g':=v) (d':=d) (t':=t) (ch:=[]) un hok bare (λb z=>absurd z (by simp)),?_,tr,u⟩
 have up:∀b,s.heap.get? b=none->g.get? b=none:=λb n=>by
  cases z:g.get? b with
  |none=>rfl|some o=>obtain⟨o',q⟩:=r b o z;rw[n]at q;cases q
 obtain⟨a1,a2,j,vs,Q,P,N,M,L,B⟩:=x;refine⟨up a a1,a2,j,vs,Q,P,N,M,L,?_⟩;rcases B with B|⟨T,l,i,c1,c2,K,J,D,A,y⟩
 ·exact .inl B
 ·exact .inr ⟨T,l,i,c1,c2,up T K,J,D,A,y⟩
noncomputable def Zp (K:Frag)(E:XK):XR:=λx H=>∀C:Addr,kg K x (.ref C)->E (.ref C) none H
inductive WO (K:Frag)(n:Nat)(f:Fn)(vs:List V)(H:Hp)(Q:VK)(E:XK):Prop
 |mk (len:vs.length=n) (φ:bM) (A:Hx) (ws:List W) (S:zQ K φ A H) (r:zI K φ H ws vs) (q:(f ws A).post (PB K φ H Q) (EB K φ H (Zp K E)))
def WO.len {K:Frag}{Q:VK}{E:XK}(h:WO K n f vs H Q E):vs.length=n:=by cases h;assumption
inductive yj (P:Program)(w:World)(K:Frag)(mg:bZ)(base:Heap)(k:Nat)(x:Str)(n:Nat)(f:Fn):Prop
 |mk (fa:Addr) (fd:FuncData) (ps:bR) (F:yG P w K mg base (g7 P w) k fa fd ps (WO K n f)) (at_:mg x=some (.ref fa)) (kp:keepIn K (.ref fa)=true) (bi:Binds K fd ps [])
structure gK (X:Cx)(g:Heap)(xr:XR):Prop where
 th:∀pins σ H s,Inv X pins σ H s->∀b o,g.get? b=some o->∃o',s.heap.get? b=some o'
 out:∀pins σ H s ea C x,Inv X pins σ H s->gm H s.heap g ea (.ref C)->kg X.K x (.ref C)->xr x H->X.xe (.ref ea) s
def iX {K:Frag}{f:Addr}{cd:Value}{A:Around}{outer:b0}{E:XK}:
  gK (wj (g7 P w) P w K mg base N qual scope f cd A outer s H E) s.heap (Zp K E) where
 th:=λpins σ h s' I b o e=>(show Un (qR outer) [] H h s.heap s'.heap from I.base).there b o e (by simp)
 out:=λpins σ h s' d C x I l c a=>Ac I l (a C c)
section
variable {g:Heap}{c:Expr}
noncomputable def HK (K:Frag)(X:XR):XK:=λc _ H=>∃x C,c=.ref C/\kg K x (.ref C)/\X x H
def gK.passes (x:gK X g xr):Passes (g7 X.prog X.w) X (HK X.K xr):=λpins σ H s e s' I h=>by
 obtain⟨b,C,d,rfl,i,l,_,nm,f,E,c,a⟩:=Nl I h g (x.th pins σ H s I);cases E;exact x.out pins σ d s' b C nm i l c a
end
noncomputable def kK (n:Nat)(m:Ex):Fn:=λws A=>(m (ws.map some++List.replicate (n-ws.length) none) A).bind λfl A1=>match fl with
 |.rt w=>.ok w A1|.nx _=>.ok .non A1|_=>.bad
inductive Sb (C:Addr)(bmB:bL)(newId:String)(h:Heap):Prop
 |mk (tl N nm q bs hdct sn sub ab col dd k0 k1 k2 k3 k5 mN:_) (obj:h.get? C=some (excClassObj nm q C N bs tl hdct sn sub ab col dd k0 k1 k2 k3 k5 newId)) (ns:h.Ns N mN) (init:mN "__init__"=none) (tail:OwnTail h bmB tl)
noncomputable def iY (d:Data):Option { c:ClassData // d=.cls c }:=match d with
 |.cls c=>some ⟨c,rfl⟩|_=>none
def Zg (K:Frag)(C:Addr)(b:bL)(newId:String):Bool:=(K.lookup C).any λo=>(iY o.data).any λc=>
 o.cls==.type "type" && c.1.mro==.ref C::c.1.mro.tail&&o.slots.toList==[o.slots.toList.getD 0 none,o.slots.toList.getD 1 none,o.slots.toList.getD 2 none,o.slots.toList.getD 3 none,some (.builtin newId),o.slots.toList.getD 5 none]
  && c.1.hasDel==false&&PySem.W.tailIn K b c.1.mro.tail&&PySem.W.nsOkIn K c.1.ns&&nsIn K c.1.ns "__init__" == some none
def T8 {K:Frag}{C:Addr}{b:bL}{newId:String}(X:K.In h)(q:Zg K C b newId=true):Sb C b newId h:=by
 obtain⟨⟨o,dd,dat,⟨sl⟩⟩,ho,q⟩:=(any_eq_true _ _).mp q;obtain⟨⟨⟨nm,bs,mro,ns,Q,hd,sn,sub,ab,col,del⟩,i⟩,-,q⟩:=(any_eq_true _ _).mp q;simp only[ah,aH]at q;obtain⟨⟨⟨⟨⟨⟨g,f⟩,d⟩,c⟩,a⟩,e⟩,E⟩:=q;cases i;cases g;cases c;exact⟨mro.tail,ns,nm,Q,bs,hd,sn,sub,ab,col,dd,_,_,_,_,_,_,X _ _ (by rw[ho,f,d];rfl),.of_isNs (PySem.W.isNs_of_in X e),PySem.W.nsMap_none_of_in X e E,PySem.W.tail_of_in X a⟩
noncomputable def Wj (x:Str)(M:Ea):Ex:=λρ A=>(M ρ A).bind λ_ A1=>.exc x A1
section
variable {g:Heap}{np:Pos}{C:Addr}{B newId initId:String}{bmB:bL}
def iZ {e:Addr}{vs:bL}(x:gK X g xr)(I:Inv X pins σ H s)(m:Heap.MadeExcOf s.heap h' e (.ref C) vs):
  Inv X pins σ H { s with heap:=h' }/\gm H h' g e (.ref C):=by
 have N:∀b,s.heap.get? b=none->H b=none:=λb z=>by
  cases q:H b with
  |none=>rfl|some u=>obtain⟨o,k⟩:=(I.hok b u q).obj;rw[z]at k;cases k
 have n:∀b,s.heap.get? b=none->g.get? b=none:=λb z=>by
  cases q:g.get? b with
  |none=>rfl|some o=>obtain⟨o',k⟩:=x.th pins σ H s I b o q;rw[z]at k;cases k
 obtain⟨t,he,a,h⟩:=m.there;refine⟨I.call' (s':={ s with heap:=h' }) (ch:=[]) rfl ⟨λb o q _ _ _=>m.keeps b o q,λb o q _ _ _=>⟨o.slots,m.keeps b o q⟩,λb o q z _=>z,λb o q _=>⟨o,m.keeps b o q⟩,λ_ _ q=>q,λ_ _ _ q=>q,λb ps q=>⟨#[],by rw[Array.append_empty];exact q⟩⟩
  (λb u q=>(I.hok b u q).stay (λc v _ z=>m.keeps c v z) (λ_ z=>z) λ_ _ z=>z) I.bare (λb z=>absurd z (by simp)),?_⟩
 exact⟨n e m.new,N e m.new,_,_,_,he,rfl,rfl,rfl,.inl rfl⟩
def i0 (o:gK X g xr)(f:kg X.K x (.ref C))(ex:Zg X.K C bmB newId=true)(FB:ExcBaseFacts B newId initId bmB)(w:SA X xr (e::es) mr)(hl:ZR mr n)(hn:n<=sizeLine:=by decide)(v:Gl X x:=by rfl)(a:X.calm=true:=by rfl)
  (d:(x==("__debug__":Str))=false:=by decide)(he:starEach (e::es) X.env=(false,eval e X.env)::starEach es X.env:=by rfl)(l:(backTo cpos (starEach es X.env)).any (·.1)=false:=by rfl):
  SS X xr (.Raise (some (.Call (.Name x np) (e::es) [] cpos)) none pos) (Wj x mr):=by
 intro pins s σ H D I ⟨φ,A,ρ,S,re,h⟩;have hm:X.mg x=some (.ref C):=aP I.mod.kin I.mod.glob f;obtain⟨t,N,nm,q,bs,hdct,sn,sub,ab,col,dd,k0,k1,k2,k3,k5,mN,J,z,c,T⟩:=T8 I.mod.kin ex;refine wpAny_Raise_call_subT (C:=C) (nm:=nm) (q:=q) (N:=N) (bs:=bs) (bm:=t) (hdct:=hdct) (sn:=sn) (sub:=sub) (ab:=ab) (col:=col) (dd:=dd) (k0:=k0) (k1:=k1) (k2:=k2) (k3:=k3) (k5:=k5)
  FB (mN:=mN) (T.hasType FB.hasBase) (I.ok.hd a) (by rw[he];show(false || (backTo cpos (starEach es X.env)).any (·.1))=false;rw[l];rfl) c (K1 I v hm ⟨rfl,?_⟩ d)
 have h':=qe.mp h;have j:=w cpos pins s σ H (λvs H1=>vs.length<=sizeLine/\xr x H1) I ⟨φ,A,ρ,S,re,?_⟩
 ·rw[he]at j ⊢
  refine Calls.evalArgs_plain (wpAny_mono j (λus s2 h2=>?_) λ_ _ y=>y);obtain⟨vs,Y,i,r,hlen,u⟩:=h2;refine⟨rfl,?_,i.bk _ _ J,z.keeps i.bk,T.keeps i.bk,λZ M m=>?_⟩
  ·rw[<- r.length];exact hlen
  ·obtain⟨U,L⟩:=iZ o i m
   exact o.out pins σ Y _ M C x U L f u
 ·cases E:mr ρ A with
  |ok ws A1=>
   rw[E]at h';intro b H1 vs p P Q;refine⟨?_,h' b H1 p P⟩;rw[<- Q.length,hl ρ A ws A1 E];exact hn
  |exc y A1=>rw[E]at h';exact h'|bad=>rw[E]at h';exact h'
end
noncomputable def mJ:List Ev->Str->Ev
 |[],acc=>λ_ A=>.ok (.str acc) A|m::ms,acc=>λρ A=>(m ρ A).bind λw A1=>match w with
  |.str y=>if (acc++y).length<=sizeLine then mJ ms (acc++y) ρ A1 else .bad|_=>.bad
section
variable {m:Ev}{ms:List Ev}
inductive SJ (X:Cx)(xr:XR):List Expr->List Ev->Prop where
 |nil:SJ X xr [] []
 |cons {e:Expr} {es:bU} {m:Ev} {ms:List Ev} (h:SE X xr e m) (r:SJ X xr es ms):SJ X xr (e::es) (m::ms)
end
section
variable {A:Around}{e C:Addr}{oe:Obj}{bmB bmD:bL}{newId newD:String}{Q:Bool->Shared->Prop}
def LP (h:Heap)(C D:Addr):Prop:=∃o cd,h.get? C=some o/\o.data=.cls cd/\cd.mro.contains (.ref D)=true
def CT (lc:Sb C bmB newId s.heap)(ld:Sb D bmD newD s.heap)(j:bmD.contains (.type "BaseException")=true)(he:s.heap.get? e=some oe)(a:oe.cls=.ref C)(up:LP s.heap C D)(w:Q true s):
  wpAny M A (excMatches (.ref e) (.ref D)) Q E s:=by
 obtain⟨h,g,d,t,os⟩:=s;obtain⟨n,N,nm,q,bs,hdct,sn,sub,ab,col,dd,k0,k1,k2,k3,k5,mN,l,_,_,_⟩:=lc;obtain⟨T,Y,u,I,y,c,r,S,z,p,x,X,U,P,K,L,v,o,_,_,T2⟩:=ld;obtain⟨J,cd,b,hd,hm⟩:=up;rw[l]at b;cases b;have H:(excClassObj nm q C N bs n hdct sn sub ab col dd k0 k1 k2 k3 k5 newId).data=.cls cd:=hd;unfold excClassObj at H;cases H;have B:(Value.ref D::T).contains (.type "BaseException")=true:=by rw[List.contains_cons,T2.hasType j,Bool.or_true]
 have i:(Value.ref C::n).contains (.ref D)=true:=hm;have f:=tc_notTuple;unfold excMatches
 repeat (first|(with_reducible refine wpAny_loadPart_at he ?_;rw[a])|with_reducible refine wpAny_loadPart_at o ?_|with_reducible refine wpAny_loadPart_at l ?_|(with_reducible refine wpAny_isSubtype_exc o ?_;rw[B])|(with_reducible refine wpAny_isSubtype_exc l ?_;rw[i])|wp_step)
 exact w
end
section
variable {H0:Hp}{s0:Shared}{ea C:Addr}
def landed {T:Addr}{a0:Value}(g:Inv X pins σ H0 s0)(I:Inv X pins σ H s)(x:gm H s.heap s0.heap ea (.ref C))(Y:s0.heap.get? T=none)(hT:H T=none)
  (th:∀b o,s0.heap.get? b=some o->∃o',s.heap.get? b=some o')
  (fl:Heap.FlyingW (hideAll s.heap (ea::T::qR X.stack)) X.stack ea (.ref C) a0 h')(us:s.heap.UpToSlots h'):
  Inv X pins σ H { s with heap:=h' }/\gm H h' s0.heap ea (.ref C)/\Tr h' ea/\∀b o,s0.heap.get? b=some o->∃o',h'.get? b=some o':=by
 obtain⟨st,_,ff,M,vs,t,oT,K,he,⟨w,h0⟩,hd,h1,j,A,B,l,h3⟩:=fl;have U:s0.heap.get? ea=none:=by cases x;assumption
 have Z:H ea=none:=by cases x;assumption
 have kept:∀b o,s.heap.get? b=some o->b∉qR X.stack->b≠ea->b≠T->h'.get? b=some o:=λb o q n1 N n3=>st b o (bF _ q λhm=>by
  rcases cm.mp hm with z|hm
  ·exact N z
  rcases cm.mp hm with z|hm
  ·exact n3 z
  ·exact n1 hm)
 have slot:∀b o,s.heap.get? b=some o->b∈qR X.stack->∃sl,h'.get? b=some { o with slots:=sl }:=λb o q hm=>by
  obtain⟨_,o',h,f⟩:=I.stack.mem hm;rw[q]at h;cases h;exact us b o q f
 have off:∀b u,H b=some u->b∉qR X.stack/\b≠ea/\b≠T:=λb u q=>⟨λhm=>(by rw[I.stkFree b hm]at q;cases q),λz=>(by rw[z,Z]at q;cases q),λz=>(by rw[z,hT]at q;cases q)⟩
 have ne:∀b o,s0.heap.get? b=some o->b≠ea/\b≠T:=λb o q=>⟨λz=>(by rw[z,U]at q;cases q),λz=>(by rw[z,Y]at q;cases q)⟩
 have any:∀b o o',s0.heap.get? b=some o'->s.heap.get? b=some o->∃sl,h'.get? b=some { o with slots:=sl }:=λb o o' Q q=>by
  by_cases hm:b∈qR X.stack
  ·exact slot b o q hm
  ·exact⟨o.slots,kept b o q hm (ne b o' Q).1 (ne b o' Q).2⟩
 have cell:∀y c,X.env.cells.lookup y=some c->∀v,s.heap.IsCell c v->h'.IsCell c v:=λy c e v ⟨o,ho,hd⟩=>by
  obtain⟨_,o0,d,_⟩:=g.cell y c e;obtain⟨sl,z⟩:=any c o o0 d ho;exact⟨_,z,hd⟩
 have inv:Inv X pins σ H { s with heap:=h' }:=by
  refine⟨I.ok,I.os,I.bare,⟨λb o q n E nx=>?_,λb o q n hf nx=>?_,I.base.free,λb o q nx=>?_,I.base.tups,I.base.frzs,I.base.tbls⟩,?_,λy c e=>?_,I.free,I.freeC,λp hp=>?_,λb u q=>?_,I.len⟩
  ·have a:=I.base.keep b o q n E nx
   have Q:=g.base.keep b o q n E nx;refine kept b o a (λhm=>?_) (ne b o Q).1 (ne b o Q).2;rcases cm.mp (I.stkSub b hm) with z|z
   ·exact absurd (aE (aL q) I.ok.above) (by rw[z];exact aV _)
   ·exact E z
  ·obtain⟨sl,a⟩:=I.base.slot b o q n hf nx
   obtain⟨sl0,Q⟩:=g.base.slot b o q n hf nx;obtain⟨S,z⟩:=any b _ _ Q a;exact⟨S,z⟩
  ·obtain⟨D,a⟩:=I.base.there b o q nx
   obtain⟨o0,Q⟩:=g.base.there b o q nx;obtain⟨sl,z⟩:=any b D o0 Q a;exact⟨_,z⟩
  ·obtain⟨m,⟨o,es,ep,ho,r⟩,k⟩:=I.loc
   obtain⟨_,⟨o0,_,_,d,_⟩,_⟩:=g.loc;obtain⟨sl,z⟩:=any _ o o0 d ho;refine⟨m,⟨_,es,ep,z,r⟩,λi y v e1 e2 e3=>?_⟩;obtain⟨u,ru,lk⟩:=k i y v e1 e2 e3;refine⟨u,ru,?_⟩;rcases lk with lk|⟨lk,c,ec,J⟩
   ·exact .inl lk
   ·exact .inr ⟨lk,c,ec,cell y c ec _ J⟩
  ·obtain⟨v,hv⟩:=I.cell y c e
   exact⟨v,cell y c e v hv⟩
  ·obtain⟨p1,p2,p3,P,p5⟩:=I.pin p hp
   have L:=(g.pin p hp).1;refine⟨kept _ _ p1 (λhm=>?_) (ne _ _ L).1 (ne _ _ L).2,p2,p3,P,p5⟩;rcases cm.mp (I.stkSub _ hm) with z|z
   ·exact p3 z
   ·exact P z
  ·refine(I.hok b u q).stay (λc v J z=>?_) (λ_ z=>z) λ_ _ z=>z
   rcases J with e|e
   ·obtain⟨n1,N,n3⟩:=off b u q
    rw[e]at z ⊢;exact kept b v z n1 N n3
   ·obtain⟨n1,N,n3⟩:=off c _ e
    exact kept c v z n1 N n3
 have both:s0.heap.get? t=none/\H t=none:=by
  cases q:s.heap.get? t with
  |some o=>
   by_cases hm:t∈ea::T::qR X.stack
   ·rcases cm.mp hm with z|hm
    ·exact absurd z A
    rcases cm.mp hm with z|hm
    ·rw[z];exact⟨Y,hT⟩
    ·obtain⟨sl,z⟩:=slot t o q hm
     obtain⟨_,o',h,f⟩:=I.stack.mem hm;rw[q]at h;cases h;rw[B]at z;cases z;exact absurd l (f K)
   ·rw[bF _ q hm]at j;cases j
  |none=>
   constructor
   ·cases z:s0.heap.get? t with
    |none=>rfl|some o=>obtain⟨o',k⟩:=th t o z;rw[q]at k;cases k
   ·cases z:H t with
    |none=>rfl|some u=>obtain⟨o',k⟩:=(I.hok t u z).obj;rw[q]at k;cases k
 exact⟨inv,⟨U,Z,M,vs,a0,he,w,hd,h0,.inr ⟨t,oT,K,h1,A,both.1,both.2,B,l,h3⟩⟩,⟨M,vs,t,he,hd,h1⟩,λb o q=>by
  obtain⟨D,a⟩:=th b o q;obtain⟨sl,z⟩:=any b D o q a;exact⟨_,z⟩⟩
def flying (I:Inv X pins σ H s)(x:gm H s.heap s0.heap ea (.ref C))(tr:Tr s.heap ea):
  ∃T A,s0.heap.get? T=none/\H T=none/\Heap.FlyingW (hideAll s.heap (ea::T::qR X.stack)) X.stack ea (.ref C) A s.heap:=by
 obtain⟨u,w,l,vs,A,he,p,hd,h0,h1⟩:=x;obtain⟨j,v,y,h,a,c⟩:=tr;rw[he]at h;cases h;rw[hd]at a;cases a;rcases h1 with h1|⟨T,n,t,h1,g,d,i,hT,e,r⟩
 ·rw[h1]at c;cases c
 ·have hn:∀b∈ea::T::qR X.stack,(hideAll s.heap (ea::T::qR X.stack)).get? b=none:=λb f=>hideAll_none _ f
  exact⟨T,A,d,i,λb o q=>of_hideAll _ q,hn ea (aB ..),frames_at I.stack λb f=>hn b (au _ (au _ f)),
   l,vs,T,n,t,he,⟨p,h0⟩,hd,h1,hn T (au _ (aB ..)),g,hT,e,r⟩
end
noncomputable def WE (o:Obj):HO:=.frz o (.own 0)
noncomputable def JN (K:Frag)(C D:Addr):Bool:=match K.lookup C with
 |some ⟨_,_,.cls cd,_⟩=>cd.mro.contains (.ref D)|_=>false
def i3 {K:Frag}{C:Addr}(X:K.In h)(e:JN K C D=true):LP h C D:=by
 unfold JN at e
 split at e
 ·rename_i ho
  exact⟨_,_,X _ _ ho,rfl,e⟩
 ·cases e
section
variable {H0:Hp}{s0:Shared}{ea C L:Addr}
def YD (i:Inv X pins σ H0 s0)(I:Inv X pins σ H s)(x:gm H s.heap s0.heap ea (.ref C)):∃a,a.cls=.ref C/\H ea=none/\Inv X pins σ (upd H ea (WE a)) s:=by
 obtain⟨j,d,a,vs,A,he,l,_⟩:=x;refine⟨a,l,d,?_⟩;have ne:∀b o,s0.heap.get? b=some o->b≠ea:=λb o q z=>by rw[z,j]at q;cases q
 have at_:∀b,b≠ea->upd H ea (WE a) b=H b:=λb n=>by unfold upd;exact ao n
 have N:∀b u,H b=some u->upd H ea (WE a) b=some u:=λb u q=>by
  rw[at_ b λz=>by rw[z,d]at q;cases q];exact q
 refine⟨I.ok,I.os,I.bare,⟨I.base.keep,I.base.slot,λb o q n nx=>?_,I.base.there,λb xs q=>N _ _ (I.base.tups b xs q),λb o u q=>N _ _ (I.base.frzs b o u q),λb ps q=>?_⟩,I.loc,I.cell,?_,λy c e=>?_,λp f=>?_,λb u q=>?_,I.len⟩
 ·obtain⟨o0,Q⟩:=i.base.there b o q nx
  rw[at_ b (ne b o0 Q)];exact I.base.free b o q n nx
 ·obtain⟨more,z⟩:=I.base.tbls b ps q
  exact⟨more,N _ _ z⟩
 ·obtain⟨m,⟨o0,_,_,h,_⟩,_⟩:=i.loc
  rw[at_ _ (ne _ o0 h)];exact I.free
 ·obtain⟨v,o0,h,_⟩:=i.cell y c e
  rw[at_ _ (ne _ o0 h)];exact I.freeC y c e
 ·obtain⟨g,P,p3⟩:=I.pin p f
  refine⟨g,?_,p3⟩;rw[at_ _ (ne _ _ (i.pin p f).1)];exact P
 ·by_cases z:b=ea
  ·subst z
   have:u=WE a:=by
    unfold upd at q;rw[aj rfl]at q;exact(aF q).symm
   subst this;exact⟨he,⟨a,he⟩⟩
  ·rw[at_ b z]at q
   exact(I.hok b u q).stay (λ_ _ _ z=>z) (λc z=>N c _ z) λc xs z=>N c _ z
def i4 (X:Cx)(pins:bN)(σ:St)(s0:Shared)(D:Addr)(k:Addr->Addr->Hp->Prop)(e:Value)(s:Shared):Prop:=
 ∃E C H B n,e=.ref E/\Inv X pins σ H s/\gm H s.heap s0.heap E (.ref C)/\Tr s.heap E/\(∀b o,s0.heap.get? b=some o->∃o',s.heap.get? b=some o')/\Mi.Zg X.K C B n=true/\JN X.K C D=true/\∀a,a.cls=.ref C->H E=none->k E C (upd H E (WE a))
def i5 {l n:Str}{p:bL}{newD:String}{S:cc}{B:Stmt}{np hp:Pos}{Q:Flow->Shared->Prop}{k:Addr->Addr->Hp->Prop}
  (I0:Inv X pins σ H0 s0)(t:X.stack=X.env::X.outer)(hL:X.env.frame=some L)(hD:kg X.K l (.ref D))(exD:Mi.Zg X.K D p newD=true)(hbD:p.contains (.type "BaseException")=true)
  (hN:X.N.Nodup)(hi:X.N[i]? =some n)(hx:Loc X.env.scope n)
  (y:wpAny (model X.prog X.w) X.A (execs body X.env) (λf s1=>f=.next/\Q .next s1) (i4 X pins σ s0 D k) s0)
  (b:∀E C H s2,Inv X pins (σ.set i (some (.ref E))) H s2->k E C H->∀E',wpAny (model X.prog X.w) (X.A.mark (some (.ref E))) (execs (B::S) X.env)
   (λf s4=>wpAny (model X.prog X.w) X.A (do bindName X.env n .none;unbindBehindTheSuite X.env n hp) (λ_ s5=>Q f s5) X.xe s4) E' s2)
  (hg:Gl X l)(Z:(l==("__debug__":Str))=false:=by decide)(hf:X.fn n=true∨X.env.scope.names.lookup n=some .local:=by first|exact .inl rfl|exact .inr rfl|assumption):
  wpAny (model X.prog X.w) X.A (exec (.Try body [.ExceptHandler (some (.Name l np)) (some n) (B::S) hp] [] [] pos) X.env) Q X.xe s0:=by
 refine wpAny_Try_except (wpAny_mono y (λf s1 ⟨ef,q⟩=>?_) λe s1 h=>?_)
 ·subst ef
  exact wpAny_execs_nil q
 obtain⟨E,C,H,bmC,newC,rfl,I,x,tr,th,exC,up,hk⟩:=h;have hm:X.mg l=some (.ref D):=aP I.mod.kin I.mod.glob hD;obtain⟨T,a0,nT,hT,fl⟩:=flying I x tr;have Y:X.A.frames=some (X.env::X.outer):=by rw[<- t];exact I.ok.frames
 refine wpAny_looks_onW Y hL (by rw[<- t];exact fl) λh₄ g d=>?_
 refine wpAny_landsW g λo a U=>?_;obtain⟨c,x5,r,z⟩:=landed I0 I x nT hT th (by rw[<- t]at a;exact a) (d.trans U)
 obtain⟨_,_,oe,_,_,he,hc,_⟩:=id x5;refine wpAny_handleBy_cons (codeAny_handlers_test (Calls.Name_function_global c.ok.kind hg (Calls.loadGlobal_global (by rw[c.ok.glob];exact c.mod.glob.keeps c.bk) hm ?_) Z)) (by intro q;cases q)
 refine CT (s:={ s1 with heap:=o }) (T8 c.kIn exC) (T8 c.kIn exD) hbD he hc (i3 c.kIn up) ?_
 refine codeAny_handlers_suite_as ?_;obtain⟨T',a0',M,hT',fl'⟩:=flying c x5 r;refine lands_againW fl' λh₆ j u=>?_;obtain⟨I6,x6,_,_⟩:=landed I0 c x5 M hT' z j u;obtain⟨of,P,J,I7⟩:=YD I0 I6 x6;exact Yk (v:=.ref E) I7 hN hi hx rfl (λs7 I7=>b E C _ s7 I7 (hk of P J) _) hf
end
section
variable {A:Around}
def name_goes {n:Str}{Q:Unit->Shared->Prop}(I:Inv X pins σ H s)(Z:X.N.Nodup)(D:X.N[i]? =some n)(T:X.env.scope.names.lookup n=some .local)
  (h:∀s',Inv X pins (σ.set i none) H s'->Q () s'):wpAny M A (do bindName X.env n .none;unbindBehindTheSuite X.env n pos) Q E s:=by
 obtain⟨m,hn,hl⟩:=id I.loc;have f:i < σ.length:=by rw[I.len];exact(ck.mp D).1
 refine wpAny_nameGoes_keeps T hn (by rw[I.ok.kind];rfl) λh' v w t=>h _ ?_
 have old:∀b o,b≠X.env.locals->s.heap.get? b=some o->h'.get? b=some o:=λb o n q=>(t.2 b n).trans q;have nl:∀{b:Addr}{u:HO},H b=some u->b≠X.env.locals:=λq z=>by rw[z,I.free]at q;cases q
 have ab:∀{b:Addr}{k:Nat},b<k->k<=X.env.locals->b≠X.env.locals:=λl g=>aQ (aE l g);refine⟨I.ok,I.os,I.bare,⟨λb o e z C x=>?_,λb o e z C x=>?_,I.base.free,λb o e x=>?_,I.base.tups,I.base.frzs,I.base.tbls⟩,⟨_,w,λj y K a r e3=>?_⟩,λy c e=>?_,I.free,I.freeC,λp S=>?_,λb u q=>?_,by simpa using I.len⟩
 ·exact old b o (ab (aL e) I.ok.above) (I.base.keep b o e z C x)
 ·obtain⟨sl,a⟩:=I.base.slot b o e z C x
  exact⟨sl,old b _ (ab (aL e) I.ok.above) a⟩
 ·obtain⟨o',a⟩:=I.base.there b o e x
  exact⟨o',old b _ (ab (aL e) I.ok.above) a⟩
 ·by_cases B:j=i
  ·subst B
   rw[aC f]at r;cases r
  ·rw[az (Ne.symm B)]at r
   obtain⟨U,L,q⟩:=hl j y K a r e3;refine⟨U,L,?_⟩;rcases q with ⟨k,e⟩|⟨k,c,e,z⟩
   ·have:y≠n:=λe=>B (UN Z a (e ▸ D))
    exact .inl ⟨k,by simp[this,e]⟩
   ·exact .inr ⟨k,c,e,z.sameBut t (I.cne y c e)⟩
 ·obtain⟨J,z⟩:=I.cell y c e
  exact⟨J,z.sameBut t (I.cne y c e)⟩
 ·obtain⟨e,z,ne,P,d⟩:=I.pin p S
  exact⟨old _ _ ne e,z,ne,P,d⟩
 ·refine(I.hok b u q).stay (λc v Y z=>old c v ?_ z) (λ_ z=>z) λ_ _ z=>z
  rcases Y with e|e
  ·rw[e];exact nl q
  ·exact nl e
def CV {n y:Str}{E:Addr}{np Y ap p:Pos}{Q:Flow->Shared->Prop}{z:bS}(I:Inv X pins (σ.set i (some (.ref E))) H s)(d:X.N.Nodup)(b:X.N[i]? =some n)(t:X.N[j]? =some y)
  (h:X.env.scope.names.lookup n=some .local)(g:Loc X.env.scope y)(q:∀s',Inv X pins (((σ.set i (some (.ref E))).set j (some (.ref E))).set i none) H s'->Q .next s')
  (o:swapsWith (.Name n np) (some (.Name y Y)) ap.line X.env=pure false)(hf:X.fn y=true∨X.env.scope.names.lookup y=some .local)
  (c:(n==("__debug__":Str))=false:=by decide):
  wpAny (model X.prog X.w) A (execs [.Assign [.Name y Y] (.Name n np) ap] X.env) (λf s4=>wpAny (model X.prog X.w) X.A (do bindName X.env n .none;unbindBehindTheSuite X.env n p) (λ_ s5=>Q f s5) X.xe s4) z s:=by
 obtain⟨m,hn,hl⟩:=I.loc;have a:i < σ.length:=by have:=I.len;rw[length_set]at this;rw[this];exact(ck.mp b).1
 obtain⟨u,r,l⟩:=hl i n (.ref E) b (aC a) (.inl h);obtain rfl:u=Value.ref E:=r;have hm:m n=some (.ref E):=by
  rcases l with ⟨_,e⟩|⟨k|k,_⟩
  ·exact e
  ·rw[show X.env.kindOf n=some .local from h]at k;cases k
  ·rw[show X.env.kindOf n=some .local from h]at k;cases k
 refine wpAny_execs_cons (wpAny_Assign_Name (wpAny_Name (wpAny_loadName_local I.ok.kind h hn hm ?_) c) o);exact Yk (v:=.ref E) I d t g rfl (λs5 x=>wpAny_execs_nil (name_goes x d b h q)) hf
end
open PySem PySem.W PySem.Spec PySem.Calls PyProof.Rows Builtin Builtin.ObjectAttr Builtin.Getset_descriptor
section
variable {prog:Program}{A:Around}{K:Frag}{x:Addr}{name:Str}
def i6 {a g:Value}(X:K.In h)(b:findIn K (.ref D) name=some (some a))(hn:specialIn K a "__get__"=some (some g))(H:takesIn K a=some true):Looks M h (find (.ref x) (.ref D) name) (.bind g a):=
 (looks_findIn (M:=M) X b).andThen ((show Looks M h (getOf (some a)) (some g) from looks_specialIn X hn).andThen
  ((show Looks M h (dataDescriptor? (some a) (some g)) (some (g,a)) from (looks_takesIn (M:=M) X H).andThen .now).andThen (Looks.tag .now)))
def i7 {tp:Value}{R:Result->Shared->Prop}(X:K.In s.heap)(l:Looks (model prog w) s.heap (typeOf (.ref x)) (.ref D))(hm:mroIn K D (.type "object")=some true)(h:R (.ok (.ret (.ref D))) s):
  codeAny (model prog w) A (.call (.builtin "getset_descriptor.__get__") ⟨[.builtin "object.__class__",.ref x,tp],[]⟩) R s:=by
 obtain⟨h0,g,d0,t0,o0⟩:=s;have L:=looks_mroIn (M:=model prog w) X hm;have sl:=KF.slot_gs;refine codeAny_call_builtin sl.plain KF.entry_gs (sl.check _ _ _ _ _ _ _ _ KF.type_class (KF.args_gs _ _ _) ?_);unfold «getset_descriptor.__get__» descrGet;rw[dga_obj];refine cf (cg ?_);unfold descrGetter descrCheckInstance isInstance descrNameAndClass;simp only[KF.owner_class]
 repeat lk
 refine And.intro (Code.quiet_builtin _ (by decide +kernel)) (codeAny_builtin KF.entry_class ?_)
 unfold «object.__class__» shownTypeOf
 repeat lk
 exact h
def Be {rest:bL}{kw:List (Str×Value)}{Q:Unit->Shared->Prop}(X:K.In s.heap)(l:Looks M s.heap (typeOf (.ref x)) (.ref D))(hm:mroIn K D (.type "BaseException")=some true)
  (ok:argsOk "BaseException.__getattribute__" ⟨.ref x::rest,kw⟩)(h:Q () s):wpAny M A (checkBuiltinCall "BaseException.__getattribute__" ⟨.ref x::rest,kw⟩) Q E s:=by
 have cut:splitId "BaseException.__getattribute__"=some ("BaseException","__getattribute__"):=by first|rfl|decide +kernel
 have kinds:builtinKind "BaseException.__getattribute__"=some .slot∨builtinKind "BaseException.__getattribute__"=some .method:=by
  simp only[builtinKind,cut]
  first|exact .inl (by decide +kernel)|exact .inr (by decide +kernel)
 have L:=looks_mroIn (M:=M) X hm;have r:wpAny M A (match Manifest.signature? "BaseException.__getattribute__" with|some sig=>Bind.checkArgs "BaseException.__getattribute__" sig ⟨.ref x::rest,kw⟩|none=>pure ()) Q E s:=wpAny_of_eq ok h
 rcases kinds with kd|kd
 all_goals
  unfold checkBuiltinCall;rw[kd,cut];dsimp only;unfold isInstance;refine cf (cf (l.at (L.at ?_)));exact r
def Dv {Q:Option Value->Shared->Prop}(b:findIn K (.ref D) "__getattribute__"=some (some (.builtin "BaseException.__getattribute__")))(n:findIn K (.ref D) "__getattr__"=some none)
  (e:findIn K (.ref D) "__class__"=some (some (.builtin "object.__class__")))
  (hn:specialIn K (.builtin "object.__class__") "__get__"=some (some (.builtin "getset_descriptor.__get__")))(H:takesIn K (.builtin "object.__class__")=some true)(hm:mroIn K D (.type "object")=some true)(a:mroIn K D (.type "BaseException")=some true)
  (X:K.In s.heap)(L:Looks (model prog w) s.heap (typeOf (.ref x)) (.ref D))(h:Q (some (.ref D)) { s with toks:=s.toks+1 }):wpAny (model prog w) A (getAttr? (.ref x) "__class__") Q E s:=by
 obtain⟨c,g,d,t,os⟩:=s;have l:=looks_findIn (M:=model prog w) X b;have L2:=i6 (M:=model prog w) (x:=x) X e hn H;have f:=looks_findIn (M:=model prog w) X n;unfold getAttr?;unfold getAttrBy?;unfold getAttrBy;refine cf (wpAny_mkText (cf (wpAny_attempt (wpAny_holding (cf (L.at (cf (l.at ?_))))))));show wpAny _ _ (getAttrByItsOwn (.ref x) (.str "__class__" t) (.ref D) (.builtin "BaseException.__getattribute__") false false) _ _ _;unfold getAttrByItsOwn;refine cf ?_;show wpAny _ _ (typeLookup (.ref D) "__getattr__") _ _ _;refine f.at (cf (wpAny_attempt (wpAny_holding ?_)));show wpAny _ _ (bindSpecial (.builtin "BaseException.__getattribute__") (.ref x) >>= _) _ _ _;refine cf (wpAny_of_eq (F.excAttr_ValueError.ga.bind _) ?_);refine wpAny_call (codeAny_call_builtin F.excAttr_ValueError.ga.plain F.entry_bexc_ga (Be X L a (F.args_bexc_ga _ _) ?_));unfold «object.__getattribute__»;refine cf (wpAny_of_eq (show slotArgs "__getattribute__" 1 ⟨[.ref x]++[.str "__class__" t],[]⟩=pure (.ref x,[.str "__class__" t]) from rfl) ?_)
 refine cf (wpAny_of_eq (show attrName (.str "__class__" t)=pure ("__class__":Str) from rfl) (cf (L.at (cf (L2.at ?_)))))
 show wpAny _ _ (holding [Value.builtin "object.__class__"] (call (.builtin "getset_descriptor.__get__") [.builtin "object.__class__",.ref x,.ref D]) >>= ret) _ _ _;refine cf (wpAny_holding (wpAny_call (i7 (s:=⟨c,g,d,t+1,os⟩) X L hm ?_)));refine cg ?_;exact handed_on rfl (cg h)
end
def Xp (x D:Addr)(h:Heap):Prop:=∃o,h.get? x=some o/\o.cls=.ref D
def Xp.ty {x:Addr}(p:Xp x D h):Looks M h (typeOf (.ref x)) (.ref D):=by
 obtain⟨o,ho,H⟩:=p;rw[<- H];exact(Looks.ld ho).andThen .now
def i8 {K:Frag}{x:Addr}(d:(clsIn K D).isSome=true)(c:findIn K (.ref D) "__getattribute__"=some (some (.builtin "BaseException.__getattribute__")))(b:findIn K (.ref D) "__getattr__"=some none)(e:findIn K (.ref D) "__class__"=some (some (.builtin "object.__class__")))
  (hn:specialIn K (.builtin "object.__class__") "__get__"=some (some (.builtin "getset_descriptor.__get__")))(H:takesIn K (.builtin "object.__class__")=some true)(hm:mroIn K D (.type "object")=some true)(a:mroIn K D (.type "BaseException")=some true):
  KitX K (.ref x) (.ref D) (Xp x D) where
 ty:=λ_ _ _ p=>p.ty
 it:=λ_ _ X _=>by
  obtain⟨C,h⟩:=Option.isSome_iff_exists.mp d;unfold clsIn at h
  split at h
  ·rename_i g d' f s ho
   intro A' Q' E s' k q;unfold isType loadHead;exact cf (wpAny_loadPart (k _ _ (X D _ ho)) (cg q))
  ·cases h
 ne:=λ_ tp dd i n sl X t=>by
  obtain⟨C,h⟩:=Option.isSome_iff_exists.mp d;rw[Bool.eq_false_iff];intro q;cases Value.ref.inj (aH.mp q);unfold clsIn at h
  split at h
  ·rename_i ho
   cases (X _ _ ho).symm.trans t
  ·cases h
 ca:=λX p k=>Dv c b e hn H hm a X p.ty k
noncomputable def Wk (K:Frag)(C:Addr):Bool:=(PySem.W.clsIn K C).isSome&&(PySem.W.findIn K (.ref C) "__getattribute__" == some (some (.builtin "BaseException.__getattribute__")))&&(PySem.W.findIn K (.ref C) "__getattr__" == some none)&&(PySem.W.findIn K (.ref C) "__class__" == some (some (.builtin "object.__class__")))&&
 (PySem.W.specialIn K (.builtin "object.__class__") "__get__" == some (some (.builtin "getset_descriptor.__get__")))&&(PySem.W.takesIn K (.builtin "object.__class__")==some true)&&(PySem.W.mroIn K C (.type "object")==some true)&&(PySem.W.mroIn K C (.type "BaseException")==some true)
section
variable {A:Around}{c:Value}{b:Bool}{ea C:Addr}
def i9 {o:Obj}{u:HO}(I:Inv X pins σ H s)(e:H ea=some (.frz o u))(d:o.cls=.ref C)(k:Wk X.K C=true)(q:kitOne X.K (.ref C) c=some b)(h:∀t,Q (.bool b) { s with toks:=t }):
  wpAny (model X.prog X.w) A (call (.builtin "isinstance") [.ref ea,c]) Q E s:=by
 have p:Xp ea C s.heap:=⟨o,(show jv X.prog X.w H s.heap ea (.frz o u) from I.hok ea _ e).1,d⟩
 unfold Wk at k;simp only[ah,aH]at k;obtain⟨⟨⟨⟨⟨⟨⟨k1,k2⟩,a⟩,k3⟩,i⟩,k5⟩,g⟩,f⟩:=k;exact bA (i8 k1 k2 a k3 i k5 g f) I.kIn p q (λz=>nomatch z) h
def js (I:Inv X pins σ H s)(q:kitOne X.K (.type "NoneType") c=some b)(h:∀t,Q (.bool b) { s with toks:=t }):wpAny (model X.prog X.w) A (call (.builtin "isinstance") [.none,c]) Q E s:=
 Nc I (x:=.non) rfl .non q h
end
def ZV (P:Program)(w:World)(K:Frag)(mg:bZ)(base:Heap)(N:bR)(qual:Str)(scope:Scope)(f:Addr)(cd:Value)(cl:b8)(A:Around)(outer:b0)(s:Shared)(H:Hp)(E:XK):Cx where
 prog:=P
 w:=w
 K:=K
 mg:=mg
 base:=base
 A:=A.deeper (envX qual scope s.heap.objs.size f cd cl)
 N:=N
 s0:=s
 H0:=H
 env:=envX qual scope s.heap.objs.size f cd cl
 outer:=outer
 stack:=envX qual scope s.heap.objs.size f cd cl::outer
 ex:=[]
 calm:=true
 fn:=λ_=>false
 pn:=[]
 xe:=λe s'=>wpAny (model P w) (A.deeper (envX qual scope s.heap.objs.size f cd cl)) (leaving (envX qual scope s.heap.objs.size f cd cl) e) (λ_ S=>g7 P w outer H s E e S) (λa S=>g7 P w outer H s E a S) s'
section
variable {K:Frag}{f:Addr}{cd:Value}{cl:b8}{A:Around}{outer:b0}{E:XK}
def Bp {h:Hp}{a C:Addr}(I:Inv (ZV P w K mg base N qual scope f cd cl A outer s H E) pins σ h s')(x:gm h s'.heap s.heap a (.ref C))(p:E (.ref C) none h):
  (ZV P w K mg base N qual scope f cd cl A outer s H E).xe (.ref a) s':=by
 have bs:Un (qR outer) [] H h s.heap s'.heap:=I.base;have stk:∀b∈qR (envX qual scope s.heap.objs.size f cd cl::outer),h b=none:=I.stkFree;have l:s.heap.get? s.heap.objs.size=none:=Heap.get?_none_of_le (aq _);have g:(envX qual scope s.heap.objs.size f cd cl).frame=some s.heap.objs.size:=rfl;have mem:∀b,b∈qR (envX qual scope s.heap.objs.size f cd cl::outer)↔b=s.heap.objs.size∨b∈qR outer:=λb=>by
  unfold qR;rw[bc,g];exact mem_cons
 show wpAny (model P w) (A.deeper (envX qual scope s.heap.objs.size f cd cl)) (leaving (envX qual scope s.heap.objs.size f cd cl) (.ref a)) _ _ s';refine LL (base:=base) (L:=s.heap.objs.size) I.ok.frames rfl I.stack x (λb u e=>(I.hok b u e).obj) (λb o e=>bs.there b o e (by simp)) λh' k1 k2 X t=>?_
 have r:∀b u,h b=some u->b∉qR (envX qual scope s.heap.objs.size f cd cl::outer):=λb u e hm=>by rw[stk b hm]at e;cases e
 refine⟨a,C,h,rfl,I.os,I.bare,⟨λb o e n nb _=>?_,λb o e n M _=>?_,λb o e n d=>bs.free b o e n d,λb o e d=>?_,bs.tups,bs.frzs,bs.tbls⟩,λb u e=>?_,X,t,p⟩
 ·have i:b≠s.heap.objs.size:=λz=>by rw[z,l]at e;cases e
  exact k1 b o (bs.keep b o e n nb (by simp)) (λhm=>(mem b).mp hm |>.elim i nb) (.inl ⟨o,e⟩)
 ·obtain⟨sl,q⟩:=bs.slot b o e n M (by simp)
  obtain⟨S,Q⟩:=k2 b _ q ((mem b).mpr (.inr M));exact⟨S,Q⟩
 ·obtain⟨o',q⟩:=bs.there b o e d
  by_cases hm:b∈qR (envX qual scope s.heap.objs.size f cd cl::outer)
  ·obtain⟨sl,z⟩:=k2 b o' q hm;exact⟨_,z⟩
  ·exact⟨o',k1 b o' q hm (.inl ⟨o,e⟩)⟩
 ·refine(I.hok b u e).stay (λc v j q=>?_) (λ_ q=>q) λ_ _ q=>q
  rcases j with z|z
  ·rw[z]at q ⊢;exact k1 b v q (r b u e) (.inr ⟨u,e⟩)
  ·exact k1 c v q (r c _ z) (.inr ⟨_,z⟩)
def jV:gK (ZV P w K mg base N qual scope f cd cl A outer s H E) s.heap (Zp K E) where
 th:=λpins σ h s' I b o e=>(show Un (qR outer) [] H h s.heap s'.heap from I.base).there b o e (by simp)
 out:=λpins σ h s' d C x I l c a=>Bp I l (a C c)
structure UO (N:bR)(sc:Scope):Prop where
 kind:sc.kind=.function
 co:sc.isCoroutine=false
 gen:sc.isGenerator=false
 nocell:∀y∈sc.names,y.2≠.cell
structure GU (base:Heap)(N:bR)(scope:Scope)(cl:b8)(vs:List V):Prop where
 len:vs.length=N.length
 inj:∀x y c,cl.lookup x=some c->cl.lookup y=some c->x=y
 has:∀x,scope.names.lookup x=some .free->∃c,cl.lookup x=some c
 cell:∀x c,cl.lookup x=some c->∃v,base.IsCell c v
 val:∀(i:Nat)(x:Str)(v:V),N[i]? =some x->vs[i]? =some v->∃c u,scope.names.lookup x=some .free/\cl.lookup x=some c/\base.IsCell c (some u)/\RelV v u
def ke {h1:Heap}{t:Tok}(S:UO N scope)(hd:A.handled=none)(d:YO P w K mg base A outer s H)(C:GU base N scope cl vs)(l:∃m,h1.Ns s.heap.objs.size m)(q:∀b o,s.heap.get? b=some o->h1.get? b=some o):
  Inv (ZV P w K mg base N qual scope f cd cl A outer s H E) [] (L2.start N vs) H { s with heap:=h1,toks:=t }:=by
 have n:∀b:Addr,b∉(ZV P w K mg base N qual scope f cd cl A outer s H E).ex:=λb z=>absurd (show b∈([]:bM) from z) (by simp)
 have bk:∀c v,base.IsCell c v->h1.IsCell c v/\H c=none:=λc v ⟨o,ho,hd⟩=>⟨⟨o,q _ _ (d.bs _ _ ho).1,hd⟩,(d.bs _ _ ho).2⟩;obtain⟨m,hm⟩:=l;refine⟨⟨d.mod,S.kind,rfl,rfl,aq _,C.inj,λy g=>?_,λy c z _=>(nomatch z),λ_=>hd,Around.frames_deeper d.frames,.inr ⟨rfl,rfl⟩,λb z=>absurd z (n b),d.bs,d.bsz,λb _ _=>n b,λb z=>absurd z (n b),d.funs,d.frf⟩,
  rfl,d.bare,Un.kept q,⟨m,hm,λi y v h1 h2 D=>?_⟩,λy c h=>?_,d.hok.fresh (aq _),λy c h=>?_,λp x=>absurd (show p∈([]:bN) from x) (by simp),d.hok.kept q,?_⟩
 ·have g:scope.names.lookup y=some .cell∨scope.names.lookup y=some .free:=g
  rcases g with g|g
  ·exact absurd rfl (S.nocell _ (PySem.mem_of_lookup g))
  ·exact C.has y g
 ·have j:i<vs.length:=by
   unfold L2.start at h2
   by_cases j:i<vs.length
   ·exact j
   ·rw[ar (by simpa using j)]at h2
    rw[bw]at h2
    split at h2<;>cases h2
  have B:vs[i]? =some v:=by
   unfold L2.start at h2;rw[ag (by simpa using j),ax]at h2
   cases e:vs[i]? with
   |none=>rw[e]at h2;cases h2|some a=>rw[e]at h2;cases h2;rfl
  obtain⟨c,u,k,e,z,r⟩:=C.val i y v h1 B;exact⟨u,r,.inr ⟨.inr k,c,e,(bk _ _ z).1⟩⟩
 ·obtain⟨v,z⟩:=C.cell y c h
  exact⟨v,(bk _ _ z).1⟩
 ·obtain⟨v,z⟩:=C.cell y c h
  exact(bk _ _ z).2
 ·unfold L2.start
  show _=N.length;rw[av,ak,bB,C.len];omega
def Lw (o:Obj)(q:Str):Prop:=∃vs t,o.data=.fields vs/\vs[1]? =some (.str q t)
def kr {k:Nat}{name:Str}{params:Arguments}{body:Expr}{pm ctv:Value}{i:Obj}{u uc:HO}{m:Ev}(S:UO N scope)(C:GU base N scope cl vs)(p:Lw i qual)
  (g:∀(A:Around)(outer:b0)(s:Shared)(H:Hp)(E:XK),jO k (A.deeper (envX qual scope s.heap.objs.size a (.ref c) cl))->gK (ZV P w K mg base N qual scope a (.ref c) cl A outer s H E) s.heap (Zp K E)->
   SE (ZV P w K mg base N qual scope a (.ref c) cl A outer s H E) (Zp K E) body m):
  yG P w K mg base (g7 P w) (k+1) a (kla_fn name qual params body scope cl pm (.ref c) ctv) [] (λus H Q E=>us=[]/\H a=some (.frz (kla_obj name qual params body scope cl pm c ctv) u)/\H c=some (.frz i uc)/\
   ∃φ A ws,zQ K φ A H/\zI K φ H ws vs/\(m (ws.map some) A).post (PB K φ H Q) (EB K φ H (Zp K E))):=by
 refine⟨λus H Q E h=>by rw[h.1];rfl,λA outer s H args us D Q E n l hb r h=>?_⟩
 obtain⟨rfl,h1,h2,φ,A1,ws,Sm,B,Z⟩:=h;cases r;have ho:s.heap.get? a=some (kla_obj name qual params body scope cl pm c ctv):=(show jv P w H s.heap a (.frz _ u) from l.hok a _ h1).1
 have hc:s.heap.get? c=some i:=(show jv P w H s.heap c (.frz i uc) from l.hok c _ h2).1
 have lim:s.heap.NoLimit:=l.mod.nolimit.keeps λb o e=>(l.bs b o e).1;obtain⟨L,M,z,hd2⟩:=p;refine PySem.W.kla_callFunE n.depth ho rfl S.co S.gen rfl ⟨c,i,L,M,rfl,hc,z,hd2⟩ (hb _ _ _ _ ?_);refine wpAny_newFunctionEnv S.nocell (λy X=>absurd (show y∈([]:List (Str×Value)) from X) (by simp)) (λd t j=>⟨lim.fresh _ j,?_⟩) S.kind
 show codeAny _ _ (.expr body (envX qual scope s.heap.objs.size a (.ref c) cl)) _ _;have f:∀b o,s.heap.get? b=some o->d.get? b=some o:=λb o e=>j.extBut b o (aQ (aL e)) (af _ e);have I:∀T,Inv (ZV P w K mg base N qual scope a (.ref c) cl A outer s H E) [] (L2.start N vs) H { s with heap:=d,toks:=T }:=λT=>ke S n.hd l C ⟨_,t⟩ f
 refine PySem.W.kla_codeExpr (wpAny_mono (g A outer s H E (n.deeper _) jV [] _ (L2.start N vs) H Q (I _) ⟨φ,A1,_,Sm,RE.start (N:=N) B,?_⟩) (λv s' Y=>?_) λ_ _ y=>y)
 ·have:N.length-ws.length=0:=by rw[B.length,C.len];omega
  rw[this,List.replicate_zero,a7];exact Z
 ·obtain⟨x,H',J,U,q⟩:=Y
  exact⟨x,H',J.os,J.bare,J.base,J.hok,U,q⟩
end
inductive zeI (K:Frag)(a:Addr)(ob:Obj)(u:HO)(c:Addr)(oc:Obj)(uc:HO)(vs:List V)(g:Fn)(us:List V)(H:Hp)(Q:VK)(E:XK):Prop
 |mk (e:us=[]) (h1:H a=some (.frz ob u)) (h2:H c=some (.frz oc uc)) (φ:bM) (A:Hx) (ws:List W) (S:zQ K φ A H) (r:zI K φ H ws vs) (q:(g ws A).post (PB K φ H Q) (EB K φ H (Zp K E)))
def Q2 (P:Program)(w:World)(K:Frag)(mg:bZ)(base:Heap)(j:Nat)(p:Obj->Addr->Obj->List V->Prop)(g:Fn):Prop:=
 ∀a ob u c o uc vs,p ob c o vs->(∃fd,ob.data=.func fd)/\∃fd,yG P w K mg base (g7 P w) j a fd [] (zeI K a ob u c o uc vs g)/\∀s,BindsTo s fd ⟨[],[]⟩ []
open Classical in
noncomputable def XU (i:Nat)(PG:Nat->Obj->Addr->Obj->List V->Prop)(lam:Nat->Fn):Ev:=λρ A=>match ρ[i]? with
 |some (some (.clo k ws P))=>if P=PG k then lam k ws A else .bad|_=>.bad
def WD (i j l:Nat)(cs:bR)(PG:Nat->Obj->Addr->Obj->List V->Prop)(lam:Nat->Fn):Ex:=λρ A=>match XU i PG lam ρ A with
 |.ok _ A1=>.ok (.nx ρ) A1|.exc x A1=>if cs.contains x then .ok (.nx (((ρ.set l (some (.xc x))).set j (some (.xc x))).set l none)) A1 else .bad|.bad=>.bad
section
variable {K:Frag}
def RE.unset (r:RE K φ H ρ σ):RE K φ H (ρ.set i none) (σ.set i none):=
 ⟨by simp[r.len],λj u e=>by
  by_cases h:i=j
  ·subst h
   have a:i < ρ.length:=by
    have:=(ck.mp e).1
    simpa using this
   rw[aC a]at e;cases e
  ·rw[az h]at e
   obtain⟨x,h1,h2⟩:=r.get j u e;exact⟨x,by rw[az h];exact h1,h2⟩⟩
end
def IK (K:Frag)(φ:bM)(H:Hp)(ρ:En)(j l:Nat)(D:Ends)(x:Str)(A':Hx):Prop:=∀a h b,Le K φ H a h->zQ K a A' h->RE K a h (((ρ.set l (some (.xc x))).set j (some (.xc x))).set l none) b->D.nx b h
inductive zgO (K:Frag)(φ:bM)(H:Hp)(ρ:En)(j l:Nat)(D0:Ends)(ea C:Addr)(H':Hp):Prop
 |mk (xn:Str) (φ':bM) (A':Hx) (le:Le K φ H φ' H') (S:zQ K φ' A' H') (rv:RV K φ' H' (.xc xn) (.ref ea)) (n:IK K φ H ρ j l D0 xn A')
inductive zgm (K:Frag)(φ:bM)(H:Hp)(ρ:En)(j l:Nat)(D0:Ends)(cs:bR)(Cv:Value)(d:cb)(H1:Hp):Prop
 |mk (xn:Str) (Ca:Addr) (e:Cv=.ref Ca) (hC:kg K xn (.ref Ca)) (hc:cs.contains xn=true) (φ1:bM) (A1:Hx) (le:Le K φ H φ1 H1) (S:zQ K φ1 A1 H1) (n:IK K φ H ρ j l D0 xn A1)
def Hc (K:Frag)(f:Str->Option Bool)(cv:V):List V->Hp->VK->Prop:=λxs H Q=>∃x,xs=[x,cv]/\((x=.non/\Q (.bl false) H)∨∃a o u C nm b,x=.ref a/\H a=some (.frz o u)/\o.cls=.ref C/\kg K nm (.ref C)/\f nm=some b/\Q (.bl b) H)
structure Ws (K:Frag)(f:Str->Option Bool)(c:Value):Prop where
 non:kitOne K (.type "NoneType") c=some false
 exc:∀nm C b,f nm=some b->kg K nm (.ref C)->Wk K C=true/\kitOne K (.ref C) c=some b
def jh (f:Str->Option Bool)(m:Ev):Ev:=λρ A=>(m ρ A).bind λw A1=>match w with
 |.non=>.ok (.bl false) A1|.xc nm=>(match f nm with
  |some b=>.ok (.bl b) A1|none=>.bad)
 |_=>.bad
section
variable {m:Ev}{f:Str->Option Bool}
def NY {cv:V}{c:Value}(g:Ws X.K f c)(rc:∀u,RelV cv u->u=c):yn X (.builtin "isinstance") (Hc X.K f cv):=by
 intro pins s σ H xs us Q I r h;obtain⟨x,rfl,h⟩:=h;obtain⟨u,l,rfl,e,d⟩:=vals2 r;cases rc _ d;rcases h with ⟨rfl,q⟩|⟨a,o,U,C,nm,b,rfl,h1,h2,j,i,q⟩
 ·cases (show u=Value.none from e)
  exact js I g.non λt=>⟨.bl false,H,I.tok t,rfl,q⟩
 ·cases (show u=Value.ref a from e)
  obtain⟨k1,k2⟩:=g.exc nm C b i j;exact i9 I h1 h2 k1 k2 λt=>⟨.bl b,H,I.tok t,rfl,q⟩
def jh.read {cv:V}{t:TE}(h2:∀σ H Q,Q cv H->t σ H Q):∀σ H Q,tM X.K xr (jh f m) σ H Q->Vf (Hc X.K f cv) (XA (tM X.K xr m) (XA t Sy)) σ H Q:=by
 rintro σ H Q ⟨φ,A,ρ,S,re,h⟩
 refine tM.go S re (qe.mp h) λw A1 c H1 v h1 l s q=>?_;refine h2 σ H1 _ ?_;cases w with
 |non=>
  obtain rfl:=q;exact⟨.non,rfl,.inl ⟨rfl,h1 c H1 _ l s rfl⟩⟩
 |xc nm=>
  dsimp only at h1;cases e:f nm with
  |none=>rw[e]at h1;exact h1.elim|some b=>
   rw[e]at h1;obtain⟨a,o,u,C,rfl,d,Z,z⟩:=q;exact⟨.ref a,rfl,.inr ⟨a,o,u,C,nm,b,rfl,d,Z,z,e,h1 c H1 _ l s rfl⟩⟩
 |fn _=>exact h1.elim|bl _=>exact h1.elim|int _=>exact h1.elim|str _=>exact h1.elim|tup _=>exact h1.elim|ref _=>exact h1.elim|clo _ _ _=>exact h1.elim
end
def EI {a b:Int}{c cv:Value}(l:bL)(h:TriplesOk l)(e:codeAmong pos (l++[rawInt a,rawInt b,c])=some cv):codeAmong pos l=some cv∨cv=c:=by
 fun_induction TriplesOk l with
 |case1=>
  right
  simp only[bf,codeAmong,rawInt]at e
  split at e
  ·exact(aF e).symm
  ·cases e
 |case2 A t B u x rest i=>
  simp only[List.cons_append,codeAmong]at e ⊢
  split at e
  ·rename_i H;rw[aj H];exact .inl e
  ·rename_i H;rw[ao H];exact i h e
 |case3 l h1 h2=>exact h.elim
def BMain (mg:bZ)(base:Heap):Prop:=∃bm o,mg "__builtins__"=some (.ref bm)/\bm≠builtinsNs/\bm≠mainGlobals/\base.get? bm=some o/\o.cls=.type "module" /\ o.dict=some builtinsNs/\o.data=.plain
noncomputable def XQ (q:Str)(params:Arguments)(body:Expr)(scope:Scope)(C:b8):Obj->Addr->Obj->List V->Prop:=λob c o _=>(∃pm ctv,ob=kla_obj "<lambda>" q params body scope C pm c ctv)/\Lw o q
noncomputable def YF (n:Nat)(q:Str)(P:Addr)(k:Nat)(p:Obj->Addr->Obj->List V->Prop):Ev:=λ_ A=>match A[n]? with
 |some (.tab Q P')=>if Q=q/\P'=P then .ok (.clo k [] p) A else .bad|_=>.bad
section
variable {k:Nat}{q:Str}{P:Addr}{params:Arguments}{body:Expr}{clos:b8}
def kv (hB:BMain X.mg X.base)(y:X.env.code=.ref c)(C:CodeHd X.base c P)(hcl:closureFor scope X.env=pure clos)(hq:X.env.qual ++ "<lambda>"=q)(hdef:defaultsOf params X.env=([],[]):=by rfl):
  SE X xr (.Lambda params body scope pos) (YF n q P k (XQ q params body scope clos)):=by
 intro pins s σ H Q I ⟨φ,A,ρ,S,re,h⟩;unfold YF at h;cases Z:A[n]? with
 |none=>rw[Z]at h;exact h.elim|some o=>
  rw[Z]at h;cases o with
  |tab L P'=>
   dsimp only at h
   by_cases hc:L=q/\P'=P
   ·rw[aj hc]at h
    obtain⟨rfl,rfl⟩:=hc;obtain⟨a,ha,eaP,ps,t,Y⟩:=S.ob n _ Z;subst eaP;have hP:s.heap.get? a=some (tabObj ps):=(show jv X.prog X.w H s.heap a (.tbl ps) from I.hok a _ t)
    have hg:s.heap.Ns mainGlobals X.mg:=I.mod.glob.keeps I.bk;have hgP:mainGlobals≠a:=λz=>by
     obtain⟨o,es,ep,e,hd,_⟩:=hg;rw[z,hP]at e;cases e;cases hd
    have r:s.heap.BuiltinsAt X.mg a:=by
     obtain⟨bm,o,b1,b2,b3,b4,b5⟩:=hB;refine⟨bm,o,b1,b2,b3,λz=>?_,I.bk _ _ b4,b5⟩
     have:=(I.bs _ _ b4).2
     rw[z,t]at this;cases this
    refine PySem.W.kla_eval hdef ?_;rw[hq];have M:∀b,s.heap.objs.size<=b->H b=none:=λb r=>I.hok.fresh r;cases hf:codeAmong pos ps.toList with
    |none=>
     refine PySem.W.kla_makeFunction (mg:=X.mg) hcl I.ok.glob hg y (C.keeps I.bk) hP Y.1 hf hgP r λf ctv h' tk hx x U hrec htb=>?_;obtain⟨c2,g,vc,tc,ec,hoc,D,hd2⟩:=hrec;cases ec;generalize j:kla_obj "<lambda>" L params body scope clos ((X.mg "__name__").getD .none) f ctv=ob;have hPc:a<s.heap.objs.size:=aL hP;have nPc:a≠f:=aQ (aE hPc x);have nPf:a≠h'.objs.size:=aQ (lt_trans (aE hPc x) U);have T:f≠h'.objs.size:=aQ U;have hsf:s.heap.objs.size<=h'.objs.size:=a4 x (bz U);have E:H f=none:=M f x;have l:H h'.objs.size=none:=M _ hsf;have H1f:upd H f (.frz g (.own 0)) h'.objs.size=none:=by rw[qz (Ne.symm T)];exact l
     generalize B:ps++#[rawInt pos.line,rawInt pos.col,.ref f]=p at htb;have S1:=S.lay (u:=.frz g (.own 0)) E;have S2:=S1.lay (u:=.frz ob (.own 0)) H1f;have fz:∀b o u,upd (upd H f (.frz g (.own 0))) h'.objs.size (.frz ob (.own 0)) b=some (.frz o u)->upd (upd (upd H f (.frz g (.own 0))) h'.objs.size (.frz ob (.own 0))) a (.tbl p) b=some (.frz o u):=λb o u e=>by
      rw[qz];exact e;intro z;rw[z,qz nPf,qz nPc,t]at e;cases e
     have fz0:∀b o u,H b=some (.frz o u)->upd (upd H f (.frz g (.own 0))) h'.objs.size (.frz ob (.own 0)) b=some (.frz o u):=λb o u e=>by
      rw[qz (kT e l),qz (kT e E)];exact e
     have tg':WH (upd (upd (upd H f (.frz g (.own 0))) h'.objs.size (.frz ob (.own 0))) a (.tbl p)) L p:=by
      rw[<- B];refine⟨by rw[Array.toList_append];exact TriplesOk_snoc _ _ _ _ Y.1,λpos' cv e=>?_⟩
      rw[Array.toList_append]at e;rcases EI _ Y.1 e with e|e
      ·obtain⟨c0,oc0,u0,vs0,t0,g1,g2,g3⟩:=Y.2 pos' cv e
       exact⟨c0,oc0,u0,vs0,t0,g1,by rw[B];exact fz _ _ _ (fz0 _ _ _ g2),g3⟩
      ·exact⟨f,g,.own 0,vc,tc,e,by rw[B];exact fz _ _ _ (by rw[qz T,j5]),D,hd2⟩
     obtain⟨l3,S3⟩:=S2.write (o:=.tab L a) (o':=.tab L a) Z rfl rfl ha (u:=.tbl p) ⟨rfl,p,j5,tg'⟩;have l03:Le X.K φ H φ _:=((Le.new E).trans (Le.new H1f)).trans l3;have set3:A.set n (.tab L a)=A:=by
      apply ext_getElem?
      intro i
      by_cases hi:n=i
      ·subst hi
       rw[aC (ck.mp Z).1,Z]
      ·rw[az hi]
     rw[set3]at S3;have eP:upd (upd (upd H f (.frz g (.own 0))) h'.objs.size (.frz ob (.own 0))) a (.tbl p) a=some (.tbl p):=j5;have ec:upd (upd (upd H f (.frz g (.own 0))) h'.objs.size (.frz ob (.own 0))) a (.tbl p) f=some (.frz g (.own 0)):=by rw[qz (Ne.symm nPc),qz T,j5]
     have ef:upd (upd (upd H f (.frz g (.own 0))) h'.objs.size (.frz ob (.own 0))) a (.tbl p) h'.objs.size=some (.frz ob (.own 0)):=by rw[qz (Ne.symm nPf),j5]
     have J:∀b,b≠a->b≠f->b≠h'.objs.size->upd (upd (upd H f (.frz g (.own 0))) h'.objs.size (.frz ob (.own 0))) a (.tbl p) b=H b:=λb n1 n2 n3=>by rw[qz n1,qz n3,qz n2]
     generalize upd (upd (upd H f (.frz g (.own 0))) h'.objs.size (.frz ob (.own 0))) a (.tbl p)=H3 at S3 l03 eP ec ef J;have kp:∀b o,b≠a->s.heap.get? b=some o->(h'.push ob).get? b=some o:=λb o n e=>af _ (hx b o n e);have old:∀b o,s.heap.get? b=some o->b≠f/\b≠h'.objs.size:=λb o e=>⟨aQ (aE (aL e) x),aQ (aE (aL e) hsf)⟩;have N:∀b u,H b=some u->b≠f/\b≠h'.objs.size:=λb u e=>⟨kT e E,kT e l⟩;have gP:(h'.push ob).get? a=some (tabObj p):=af _ htb;have I3:Inv X pins σ H3 { s with heap:=h'.push ob,toks:=tk }:=by
      refine I.un ⟨λb o e z r _=>?_,λb o e z r _=>?_,λb o e z _=>?_,λb o e _=>?_,λb xs e=>?_,λb o u e=>?_,λb qs e=>?_⟩ λb u e=>?_
      ·exact kp b o (λw=>by rw[w,t]at z;cases z) e
      ·exact⟨o.slots,kp b o (λw=>by rw[w,t]at z;cases z) e⟩
      ·rw[J b (λw=>by rw[w,t]at z;cases z) (old b o e).1 (old b o e).2];exact z
      ·by_cases r:b=a
       ·rw[r];exact⟨_,gP⟩
       ·exact⟨o,kp b o r e⟩
      ·rw[J b (YE e t (by intro w;cases w)) (N b _ e).1 (N b _ e).2];exact e
      ·rw[J b (YE e t (by intro w;cases w)) (N b _ e).1 (N b _ e).2];exact e
      ·by_cases r:b=a
       ·subst r
        rw[t]at e;cases e;exact⟨_,by rw[eP,<- B]⟩
       ·exact⟨#[],by rw[J b r (N b _ e).1 (N b _ e).2,e];simp⟩
      ·by_cases h1:b=a
       ·subst h1
        rw[eP]at e;cases e;exact gP
       ·by_cases h2:b=f
        ·subst h2
         rw[ec]at e;cases e;exact⟨af _ hoc,⟨_,af _ hoc⟩⟩
        ·by_cases h3:b=h'.objs.size
         ·subst h3
          rw[ef]at e;cases e;exact⟨ay _ (by rw[<- j];rfl),⟨_,ay _ (by rw[<- j];rfl)⟩⟩
         ·rw[J b h1 h2 h3]at e
          refine(I.hok b u e).stay (λd v hd z=>kp d v ?_ z) (λd z=>?_) λd xs z=>?_
          ·rcases hd with w|w
           ·rw[w];exact h1
           ·exact YE w t (by intro w;cases w)
          ·rw[J d (YE z t (by intro w;cases w)) (N d _ z).1 (N d _ z).2];exact z
          ·rw[J d (YE z t (by intro w;cases w)) (N d _ z).1 (N d _ z).2];exact z
     exact⟨.ref h'.objs.size,H3,I3,rfl,h φ H3 _ l03 S3 ⟨h'.objs.size,ob,.own 0,f,g,.own 0,[],rfl,ef,ec,⟨⟨_,_,j.symm⟩,vc,tc,D,hd2⟩,rfl⟩⟩
    |some cv=>
     obtain⟨f,g,u0,vc,tc,rfl,hHc,D,hd2⟩:=Y.2 pos cv hf;refine PySem.W.kla_makeFunctionHit (mg:=X.mg) hcl I.ok.glob hg y (C.keeps I.bk) hP Y.1 hf r λctv h' tk hx hsz=>?_;generalize j:({ cls:=.type "function",data:=.func (kla_fn "<lambda>" L params body scope clos ((X.mg "__name__").getD .none) (.ref f) ctv) }:Obj)=ob;have l:H h'.objs.size=none:=M _ hsz;have I3:Inv X pins σ (upd H h'.objs.size (.frz ob (.own 0))) { s with heap:=h'.push ob,toks:=tk }:=
      I.laid (λb o e=>af _ (hx b o e)) hsz ⟨ay _ (by rw[<- j];rfl),⟨_,ay _ (by rw[<- j];rfl)⟩⟩
     refine⟨.ref h'.objs.size,_,I3,rfl,h φ _ _ (Le.new l) (S.lay l) ⟨h'.objs.size,ob,.own 0,f,g,u0,[],rfl,j5,?_,⟨⟨_,_,j.symm⟩,vc,tc,D,hd2⟩,rfl⟩⟩;rw[qz (kT hHc l)];exact hHc
   ·rw[ao hc]at h;exact h.elim
  |_=>exact h.elim
end
structure Lm where
 N:bR
 idx:bP
 params:Arguments
 body:Expr
 scope:Scope
 m:Ev
noncomputable def JM:List Nat->En->Option (List W)
 |[],_=>some []|j::J,ρ=>match ρ[j]?,JM J ρ with
  |some (some w),some ws=>some (w::ws)|_,_=>none
noncomputable def Qr:List Nat->St->Option (List V)
 |[],_=>some []|j::J,σ=>match σ[j]?,Qr J σ with
  |some (some w),some ws=>some (w::ws)|_,_=>none
theorem Ny {K:Frag}(r:RE K φ H ρ σ):∀{J:bP}{ws:List W},JM J ρ=some ws->∃vs,Qr J σ=some vs/\zI K φ H ws vs
 |[],ws,e=>by cases e;exact⟨[],rfl,.nil⟩|j::J,ws,e=>by
  unfold JM at e;cases E:ρ[j]? with
  |none=>rw[E]at e;cases e|some o=>cases o with
   |none=>rw[E]at e;cases e|some w=>
    rw[E]at e;cases a:JM J ρ with
    |none=>rw[a]at e;cases e|some b=>
     rw[a]at e;cases e;obtain⟨v,h1,h2⟩:=r.get j w E;obtain⟨vs,c,h⟩:=Ny r a;exact⟨v::vs,by unfold Qr;rw[h1,c],.cons h2 h⟩
theorem NN:∀{J:bP}{vs:List V},Qr J σ=some vs->vs.length=J.length/\∀(i:Nat)(v:V),vs[i]? =some v->∃j,J[i]? =some j/\σ[j]? =some (some v)
 |[],vs,e=>by cases e;exact⟨rfl,λi v h=>by simp at h⟩|j::J,vs,e=>by
  unfold Qr at e;cases E:σ[j]? with
  |none=>rw[E]at e;cases e|some o=>cases o with
   |none=>rw[E]at e;cases e|some w=>
    rw[E]at e;cases r:Qr J σ with
    |none=>rw[r]at e;cases e|some c=>
     rw[r]at e;cases e;obtain⟨h1,h2⟩:=NN r;refine⟨by simp[h1],λi v h=>?_⟩
     cases i with
     |zero=>simp at h;subst h;exact⟨j,by simp,E⟩|succ i=>simp at h;obtain⟨d,a,b⟩:=h2 i v h;exact⟨d,by simpa using a,b⟩
noncomputable def wR (ls:List Lm)(k:Nat):Fn:=λws A=>match ls[k]? with
 |some t=>t.m (ws.map some) A|none=>.bad
def Jd (env:Env)(q:Str)(ls:List Lm)(k:Nat):Obj->Addr->Obj->List V->Prop:=λob c o vs=>∃t,ls[k]? =some t/\XQ q t.params t.body t.scope (kX env t.scope.names []) ob c o vs
def WN (env:Env)(q:Str)(ls:List Lm)(σ:St)(k:Nat):Obj->Addr->Obj->List V->Prop:=λob c o vs=>∃t,ls[k]? =some t/\XQ q t.params t.body t.scope (kX env t.scope.names []) ob c o vs/\Qr t.idx σ=some vs
structure YI (P:Program)(w:World)(K:Frag)(mg:bZ)(j:Nat)(q:Str)(t:Lm):Prop where
 sc:UO t.N t.scope
 bind:∀(cl:b8)(pm cdv ctv:Value),bindArgs (kla_fn "<lambda>" q t.params t.body t.scope cl pm cdv ctv) ⟨[],[]⟩=pure []
 body:∀(base:Heap)(cl:b8)(a c:Addr)(A:Around)(outer:b0)(s:Shared)(H:Hp)(E:XK),jO j (A.deeper (envX q t.scope s.heap.objs.size a (.ref c) cl))->gK (ZV P w K mg base t.N q t.scope a (.ref c) cl A outer s H E) s.heap (Zp K E)->
  SE (ZV P w K mg base t.N q t.scope a (.ref c) cl A outer s H E) (Zp K E) t.body t.m
section
variable {K:Frag}{q:Str}{ls:List Lm}
def k4 (hl:∀t∈ls,YI P w K mg j q t)(f:∀t∈ls,∀vs,Qr t.idx σ=some vs->GU base t.N t.scope (kX env t.scope.names []) vs)(k:Nat):Q2 P w K mg base (j+1) (WN env q ls σ k) (wR ls k):=by
 rintro a ob u c o uc vs ⟨t,d,⟨⟨pm,ctv,rfl⟩,b⟩,v⟩
 have mt:t∈ls:=bg d;have L:=hl t mt;refine⟨⟨_,rfl⟩,_,((kr (name := "<lambda>") (params:=t.params) (body:=t.body) (pm:=pm) (ctv:=ctv) (a:=a) (c:=c) (u:=u) (uc:=uc) (m:=t.m) L.sc (f t mt vs v) b λA outer s H E e x=>L.body base _ a c A outer s H E e x)).imp λus H Q E h=>?_,λs=>.of_eq (L.bind _ _ _ _)⟩;obtain⟨h1,h2,g,φ,A,ws,S,r,h⟩:=h;refine⟨h1,h2,g,φ,A,ws,S,r,?_⟩;unfold wR at h;rw[d]at h;exact h
end
noncomputable abbrev gM:=Nat->Obj->Addr->Obj->List V->Prop
open Classical in
noncomputable def Qu (PG:gM)(r:Nat->List W->Hx->R W):Fn:=λus A=>match us with
 |[.clo k ws P]=>if P=PG k then r k ws A else .bad|_=>.bad
open Classical in
structure WA (X:Cx)(t:Lm):Prop where
 len:t.idx.length=t.N.length
 nm:∀(i:Nat)(x:Str)(j:Nat),t.N[i]? =some x->t.idx[i]? =some j->X.N[j]? =some x/\t.scope.names.lookup x=some .free
 free:∀y∈t.scope.names,y.2=.free->X.env.kindOf y.1=some .cell∨X.env.kindOf y.1=some .free
section
def GW (I:Inv X pins σ H s){t:Lm}(L:WA X t)(h:(kX X.env t.scope.names []).lookup x=some c):X.env.cells.lookup x=some c:=by
 rcases Jn _ _ (PySem.mem_of_lookup h) with z|⟨z,e⟩
 ·cases z
 ·obtain⟨C,a⟩:=I.ok.has x (L.free _ z rfl)
  rw[a]at e ⊢;exact congrArg some e.symm
def AE (I:Inv X pins σ H s)(d:∀x c v,X.env.cells.lookup x=some c->s.heap.IsCell c v->base.IsCell c v){t:Lm}(L:WA X t)(g:Qr t.idx σ=some vs):GU base t.N t.scope (kX X.env t.scope.names []) vs:=by
 obtain⟨v1,v2⟩:=NN g;refine⟨v1.trans L.len,λx y c h1 h2=>I.ok.inj x y c (GW I L h1) (GW I L h2),λx h=>?_,λx c h=>?_,λi x v h1 h2=>?_⟩
 ·exact Option.isSome_iff_exists.mp (GC _ _ (.inl (PySem.mem_of_lookup h)))
 ·have e:=GW I L h
  obtain⟨v,z⟩:=I.cell x c e;exact⟨v,d x c v e z⟩
 ·obtain⟨j,o,n⟩:=v2 i v h2
  obtain⟨l,E⟩:=L.nm i x j h1 o;have fr:=L.free _ (PySem.mem_of_lookup E) rfl;obtain⟨m,hn,hl⟩:=I.loc;obtain⟨u,r,lk⟩:=hl j x v l n (.inr fr);obtain⟨c,b⟩:=Option.isSome_iff_exists.mp (GC (env:=X.env) t.scope.names [] (.inl (PySem.mem_of_lookup E)));have f:=GW I L b;rcases lk with ⟨z,_⟩|⟨_,C,a,cell⟩
  ·exfalso
   rcases fr with k|k<;>(rw[k]at z;cases z)
  ·rw[f]at a
   cases a;exact⟨c,u,E,b,d x c _ f cell,r⟩
def k6 (I:Inv X pins σ H s)(h:∀x,X.fn x=true)(e:X.env.cells.lookup x=some c):c∉qR X.stack:=λhm=>by
 rcases cm.mp (I.stkSub c hm) with z|z
 ·exact I.cne x c e z
 ·obtain⟨_,o,ho,_⟩:=I.ok.funs.mem z
  exact absurd (aE (aL ho) (I.ok.cab x c (h x) e)) (aV _)
noncomputable def ZL (base h:Heap)(cells:b8):Heap:=hideAll h ((List.range h.objs.size).filter λb=>(base.get? b).isNone&&!(cells.any λp=>cells.lookup p.1==some b))
def Mb {o:Obj}(e:(ZL base h cells).get? b=some o):h.get? b=some o/\((∃o',base.get? b=some o')∨∃x,cells.lookup x=some b):=by
 have E:=of_hideAll _ e;refine⟨E,?_⟩
 by_cases hm:b∈(List.range h.objs.size).filter λb=>(base.get? b).isNone&&!(cells.any λp=>cells.lookup p.1==some b)
 ·unfold ZL at e
  rw[hideAll_none _ hm]at e;cases e
 ·rw[mem_filter]at hm
  have c:b∈List.range h.objs.size:=cj.mpr (aL E);cases g:base.get? b with
  |some o'=>exact .inl ⟨o',rfl⟩|none=>
   right
   by_cases H:(cells.any λp=>cells.lookup p.1==some b)=true
   ·obtain⟨p,_,a⟩:=List.any_eq_true.mp H
    exact⟨p.1,aH.mp a⟩
   ·exact absurd ⟨c,by rw[g];simpa using H⟩ hm
def Cy (k:∀b o,base.get? b=some o->h.get? b=some o){o:Obj}(e:base.get? b=some o):(ZL base h cells).get? b=some o:=
 bF _ (k b o e) λhm=>by
  rw[mem_filter,e]at hm;simp at hm
def CU {o:Obj}(l:cells.lookup x=some c)(e:h.get? c=some o):(ZL base h cells).get? c=some o:=
 bF _ e λhm=>by
  rw[mem_filter,ah,not_eq_true']at hm
  have:=hm.2.2
  rw[List.any_eq_false]at this;exact this _ (PySem.mem_of_lookup l) (by simpa using l)
end
inductive spT (K:Frag)(n:Nat)(fs:gM->Fn)(vs:List V)(H:Hp)(Q:VK)(E:XK):Prop
 |mk (len:vs.length=n) (φ:bM) (A:Hx) (ws:List W) (S:zQ K φ A H) (r:zI K φ H ws vs) (q:∀PF,(fs PF ws A).post (PB K φ H Q) (EB K φ H (XE K E)))
def spT.len {K:Frag}{fs:gM->Fn}{Q:VK}{E:XK}(h:spT K n fs vs H Q E):vs.length=n:=by cases h;assumption
section
variable {K:Frag}
def k7 {f:Addr}{a:Value}{o:cb}(hn:nsIn K mainGlobals x=some (some (.ref f)))(lk:K.lookup f=some ⟨a,o,.func fd,osl⟩)(h:tabIn K x=some (c,Pt)):fd.code=.ref c:=by
 unfold tabIn at h;rw[hn]at h;dsimp only at h;rw[lk]at h;dsimp only at h
 split at h
 ·rename_i c2 H
  split at h
  ·split at h
   ·cases h;exact H
   ·cases h
  ·cases h
 ·cases h
def lb {q:Str}{st:Stmt}{f:Addr}{k:Nat}{ls:List Lm}{m:gM->Ex}(F:kR K x x st f fd)(hn:nsIn K mainGlobals x=some (some (.ref f)))(t:tabIn K x=some (c,Pt))(S:qC N ps (zZ st))
  (a:∀(A:Around)(outer:b0)(s:Shared)(H:Hp)(E:XK),jO k (A.deeper (envOfC x (zZ st) s.heap.objs.size f (.ref c)))->
   JY (wj wc P w K mg base N x (zZ st) f (.ref c) A outer s H E).nox yJ (yW st) (m (Jd (envOfC x (zZ st) s.heap.objs.size f (.ref c)) q ls))):
  yG P w K mg base wc (k+1) f fd ps (spT K ps.length λp=>qt N.length (m p)):=by
 obtain⟨B,z,kV,doc,pm,an,C,ct,o,rfl,lk,d⟩:=F.ex;have v:C=.ref c:=k7 hn lk t;subst v;refine Sf lk d S (λvs H Q E h=>h.len) λA outer s H vs Q E i ⟨hl,φ,A1,ws,j,r,h⟩=>⟨_,yM.nox (a A outer s H E i),?_⟩;refine⟨φ,A1,ws.map some++List.replicate (N.length-ws.length) none,j,RE.start r,?_⟩;have h':=qe.mp (h (Jd (envOfC x (zZ st) s.heap.objs.size f (.ref c)) q ls));show R.post _ (FB K φ H _) _;cases e:m (Jd (envOfC x (zZ st) s.heap.objs.size f (.ref c)) q ls) (ws.map some++List.replicate (N.length-ws.length) none) A1 with
 |ok fl A2=>
  rw[e]at h';cases fl with
  |rt w=>exact h'|nx ρ=>exactλb u g l n _=>h' b u .non l n rfl|bk ρ=>exact h'.elim|ct ρ=>exact h'.elim
 |exc y A2=>rw[e]at h';exact h'.elim|bad=>rw[e]at h';exact h'.elim
end
noncomputable def Xq (K:Frag)(x:Str)(p:Addr):Bool:=match tabIn K x with
 |some (c,P)=>P==p&&codeHdIn K c p|none=>false
def GG {K:Frag}(h:Xq K x Pt=true):∃c,tabIn K x=some (c,Pt)/\codeHdIn K c Pt=true:=by
 unfold Xq at h
 split at h
 ·rename_i c P e
  rw[ah,aH]at h;obtain⟨rfl,h2⟩:=h;exact⟨c,e,h2⟩
 ·cases h
def yj.m {K:Frag}{k:Nat}(F:yj P w K mg base k x n f):zJ P w K mg base k x n λws A=>(f ws A).nox:=by
 obtain⟨g,fd,ps,F,hm,c,d⟩:=F;have up:∀vs H Q E,Zo K n (λws A=>(f ws A).nox) vs H Q E->WO K n f vs H Q (λ_ _ _=>False):=λvs H Q E ⟨hl,φ,A,ws,S,r,h⟩=>⟨hl,φ,A,ws,S,r,by
  cases a:f ws A with
  |ok u A1=>(try dsimp only at h);rw[a]at h;exact h|exc y A1=>(try dsimp only at h);rw[a]at h;exact h.elim|bad=>(try dsimp only at h);rw[a]at h;exact h.elim⟩
 refine⟨g,fd,ps,⟨λvs H Q E h=>F.len vs H Q _ (up vs H Q E h),λA outer s H args us vs Q E b he t v h=>?_⟩,hm,c,d⟩;refine codeAny_mono (F.run A outer s H args us vs Q _ b he t v (up vs H Q E h)) λr s' h'=>?_;cases r with
 |error e=>
  unfold CR at h';obtain⟨_,_,_,_,_,_,_,_,_,_,z⟩:=h';exact z.elim
 |ok fl=>cases fl<;>exact h'
theorem yj.mono {K:Frag}{k:Nat}(F:yj P w K mg base j x n f)(h:j<=k):yj P w K mg base k x n f:=by cases F with|mk d fd ps F a b c=>exact⟨d,fd,ps,F.mono h,a,b,c⟩
noncomputable abbrev Vg:bL:=[.type "ValueError",.type "Exception",.type "BaseException",.type "object"]
noncomputable abbrev X8:String := "ValueError.__new__"
section
variable {K:Frag}{cs:bR}{top nm:Str}
noncomputable def clsAt (K:Frag)(x:Str):Addr:=match nsIn K mainGlobals x with
 |some (some (.ref C))=>C|_=>0
def isAt (K:Frag)(x:Str):Bool:=nsIn K mainGlobals x==some (some (.ref (clsAt K x)))
def jw (cs:bR)(x:Str):Str->Option Bool:=λnm=>if cs.contains nm then some (nm==x) else none
def Rb (cs:bR):Str->Option Bool:=λnm=>if cs.contains nm then some true else none
def QY (K:Frag)(cs:bR)(x:Str):Bool:=isAt K x&&kitOne K (.type "NoneType") (.ref (clsAt K x))==some false&&cs.all λnm=>kitOne K (.ref (clsAt K nm)) (.ref (clsAt K x))==some (nm==x)
def Xy (K:Frag)(top nm:Str):Bool:=isAt K nm&&Wk K (clsAt K nm)&&Mi.Zg K (clsAt K nm) Vg X8&&JN K (clsAt K nm) (clsAt K top)&&kitOne K (.ref (clsAt K nm)) (.type "ValueError")==some true
def TR (K:Frag)(top:Str):Bool:=isAt K top&&Mi.Zg K (clsAt K top) Vg X8&&kitOne K (.type "NoneType") (.type "ValueError")==some false
def U4 (h:isAt K x=true):kg K x (.ref (clsAt K x)):=aH.mp h
def UJ {C:Addr}(h:kg K x (.ref C)):C=clsAt K x:=by
 unfold clsAt;unfold kg at h;rw[h]
structure UM (K:Frag)(top nm:Str):Prop where
 at_:kg K nm (.ref (clsAt K nm))
 kit:Wk K (clsAt K nm)=true
 exc:Mi.Zg K (clsAt K nm) Vg X8=true
 up:JN K (clsAt K nm) (clsAt K top)=true
 val:kitOne K (.ref (clsAt K nm)) (.type "ValueError")=some true
def lg (h:Xy K top nm=true):UM K top nm:=by
 unfold Xy at h;simp only[ah,aH]at h;obtain⟨⟨⟨⟨h1,h2⟩,b⟩,a⟩,H⟩:=h;exact⟨U4 h1,h2,b,a,H⟩
structure wY (K:Frag)(cs:bR)(top:Str):Prop where
 exc:∀nm,cs.contains nm=true->UM K top nm
 top_at:kg K top (.ref (clsAt K top))
 top_exc:Mi.Zg K (clsAt K top) Vg X8=true
 non:kitOne K (.type "NoneType") (.type "ValueError")=some false
def lh (h:cs.all (Xy K top ·)=true)(t:TR K top=true):wY K cs top:=by
 unfold TR at t;simp only[ah,aH]at t;obtain⟨⟨t1,T⟩,t3⟩:=t;exact⟨λnm e=>lg (cn.mp h nm (List.contains_iff_mem.mp e)),U4 t1,T,t3⟩
def wY.isx (c:wY K cs top)(h:QY K cs x=true):Ws K (jw cs x) (.ref (clsAt K x)):=by
 unfold QY at h;simp only[ah,aH]at h;obtain⟨⟨h1,h2⟩,a⟩:=h;refine⟨h2,λnm C b e H=>?_⟩;unfold jw at e
 by_cases hm:cs.contains nm=true
 ·rw[aj hm]at e
  cases e;cases UJ H;exact⟨(c.exc nm hm).kit,aH.mp (cn.mp a nm (List.contains_iff_mem.mp hm))⟩
 ·rw[ao hm]at e;cases e
def kA (h:QY K cs x=true):kg K x (.ref (clsAt K x)):=by
 unfold QY at h;simp only[ah,aH]at h;exact U4 h.1.1
def wY.isv (c:wY K cs top):Ws K (Rb cs) (.type "ValueError"):=by
 refine⟨c.non,λnm C b e h=>?_⟩;unfold Rb at e
 by_cases hm:cs.contains nm=true
 ·rw[aj hm]at e
  cases e;cases UJ h;exact⟨(c.exc nm hm).kit,(c.exc nm hm).val⟩
 ·rw[ao hm]at e;cases e
def wY.under (c:wY K cs top):∀nm,cs.contains nm=true->∀C,kg K nm (.ref C)->∃b n,Mi.Zg K C b n=true/\JN K C (clsAt K top)=true:=λnm hm C h=>by
 cases UJ h;exact⟨_,_,(c.exc nm hm).exc,(c.exc nm hm).up⟩
end
noncomputable def XF (M:bR)(sc:Scope)(t:Lm):Bool:=t.idx.length==t.N.length&&((List.range t.N.length).all λi=>match t.N[i]?,t.idx[i]? with
 |some x,some j=>M[j]?==some x&&t.scope.names.lookup x==some .free|_,_=>false)&&t.scope.names.all λy=>!(y.2==.free) || (sc.names.lookup y.1==some .cell || sc.names.lookup y.1==some .free)
def U1 {t:Lm}(h:XF X.N X.env.scope t=true):WA X t:=by
 unfold XF at h;rw[ah,ah]at h;obtain⟨⟨h1,h2⟩,b⟩:=h;refine⟨aH.mp h1,λi x j E c=>?_,λy H e=>?_⟩
 ·have a:i<t.N.length:=(ck.mp E).1
  have q:=cn.mp h2 i (cj.mpr a);rw[E,c]at q;dsimp only at q;rw[ah]at q;exact⟨aH.mp q.1,aH.mp q.2⟩
 ·have q:=cn.mp b y H
  rw[e]at q;rw[bj,bj]at q;rcases q with q|q|q
  ·cases q
  ·exact .inl (aH.mp q)
  ·exact .inr (aH.mp q)
def all_nil {p:α->Prop}:∀t∈([]:List α),p t:=λ_ h=>nomatch h
def all_cons {p:α->Prop}{a:α}{l:List α}(h:p a)(r:∀t∈l,p t):∀t∈a::l,p t:=λt H=>by
 rcases cm.mp H with e|e
 ·rw[e];exact h
 ·exact r t e
def lj {q:Str}{ls:List Lm}{k:Nat}{t:Lm}(H:ls[k]? =some t):Jd env q ls k=XQ q t.params t.body t.scope (kX env t.scope.names []):=by
 funext ob c o vs
 refine propext ⟨λ⟨t',e,h⟩=>?_,λh=>⟨t,H,h⟩⟩;rw[H]at e;cases e;exact h
section
variable {k:Nat}{q:Str}{ls:List Lm}{t:Lm}
def ll (d:ls[k]? =some t)(L:XF X.N X.env.scope t=true)(hB:BMain X.mg X.base)(a:X.env.code=.ref c)(C:CodeHd X.base c Pt)(g:X.env.qual ++ "<lambda>"=q)(f:defaultsOf t.params X.env=([],[])):
  SE X xr (.Lambda t.params t.body t.scope pos) (YF n q Pt k (Jd X.env q ls k)):=by
 intro pins s σ H Q I h;rw[lj d]at h;exact kv hB a C (OW λy b e=>I.ok.has _ ((U1 L).free y b e)) g f pins s σ H Q I h
end
noncomputable def JB:Stmt:=.Pass ⟨0,0,0,0⟩
noncomputable def Qk:Expr:=.Constant .none 0 ⟨0,0,0,0⟩
def lp (s:Stmt)(i:Nat):Stmt:=match s with
 |.For _ _ b _ _=>b.getD i JB|.If _ b _ _=>b.getD i JB|.While _ b _ _=>b.getD i JB|_=>JB
def lq (s:Stmt):Expr:=match s with
 |.Assign _ v _=>v|.Expr v _=>v|.Return (some v) _=>v|_=>Qk
def Sz (e:Expr)(i:Nat):Expr:=match e with
 |.Call _ a _ _=>a.getD i Qk|.List E _=>E.getD i Qk|.Tuple E _ _=>E.getD i Qk|.BinOp a _ b _=>if i=0 then a else b|_=>Qk
noncomputable def lu (e:Expr):Arguments:=match e with
 |.Lambda a _ _ _=>a|_=>{ posonlyargs:=[],args:=[],vararg:=none,kwonlyargs:=[],kw_defaults:=[],kwarg:=none,defaults:=[] }
def lx (e:Expr):Expr:=match e with
 |.Lambda _ b _ _=>b|_=>Qk
noncomputable def lA (e:Expr):Scope:=match e with
 |.Lambda _ _ s _=>s|_=>{ kind:=.function,names:=[],isGenerator:=false,isCoroutine:=false }
def So (e:Expr)(N:bR)(idx:bP)(m:Ev):Lm:=⟨N,idx,lu e,lx e,lA e,m⟩
def lB {K:Frag}{st:Stmt}{f:Addr}{k:Nat}(F:kR K x x st f fd)(hm:mg x=some (.ref f))
  (b:∀(kV doc pm:Value)(an:cb)(c ct:Value)(us:bL),us.length=ps.length->bindArgs (fnOf x x (Qc st) (yW st) (zZ st) .none kV doc pm an c ct) ⟨us,[]⟩=pure (ps.zip us)):zJ P w K mg base k x ps.length (λ_ _=>.bad):=
 ⟨f,fd,ps,⟨λvs H Q E h=>h.1,λA outer s H args us vs Q E _ _ _ _ h=>by obtain⟨_,_,_,_,_,_,z⟩:=h;exact z.elim⟩,hm,F.kp,F.binds b⟩
def lC {K:Frag}(t a b:Ty):kitAny K (.type t.nm) [.type a.nm,.type b.nm]=some (wa t a || wa t b):=by
 unfold kitAny;rw[Xi];cases wa t a with
 |true=>rfl|false=>
  dsimp only;unfold kitAny;rw[Xi];cases wa t b<;>rfl
section
variable {a b:Expr}{m ma mb:Ev}
def JR.kitx {x:V}{t:Ty}(I:Inv X pins σ H s)(r:RelV x u)(h:JR X.K H x t):∃b:Heap->Prop,PySem.W.KitX X.K u (.type t.nm) b/\b s.heap/\u≠.builtin "__main__.__loader__#opaque":=by
 rcases h with h|⟨a,xs,rfl,h,rfl⟩
 ·generalize hT:Value.type t.nm=T at h
  cases h with
  |non=>cases (show u=Value.none from r);exact⟨_,kitx_none,True.intro,λz=>nomatch z⟩
  |bl y=>cases (show u=Value.bool y from r);exact⟨_,kitx_bool,True.intro,λz=>nomatch z⟩
  |int i=>obtain⟨t,q⟩:=(show ∃t,u=Value.int i t from r);cases q;exact⟨_,kitx_int,True.intro,λz=>nomatch z⟩
  |str y=>obtain⟨t,q⟩:=(show ∃t,u=Value.str y t from r);cases q;exact⟨_,kitx_str,True.intro,λz=>nomatch z⟩
  |flt y=>obtain⟨t,q⟩:=(show ∃t,u=Value.float y t from r);cases q;exact⟨_,kitx_float,True.intro,λz=>nomatch z⟩
  |@lst a xs ea=>
   cases (show u=Value.ref a from r)
   obtain⟨_,_,n,_,h1⟩:=(show jv X.prog X.w H s.heap a (.lst xs) from I.hok a _ ea)
   exact⟨_,kitx_list,⟨_,h1,rfl⟩,λz=>nomatch z⟩
  |@frz a ob xs ea=>
   cases (show u=Value.ref a from r)
   obtain⟨_,_,_,n,_,h1⟩:=(show jv X.prog X.w H s.heap a (.frz ob (.lst xs)) from I.hok a _ ea)
   exact⟨_,kitx_list,⟨_,h1,rfl⟩,λz=>nomatch z⟩
  |@tup a xs ea=>
   cases (show u=Value.ref a from r)
   obtain⟨_,_,_,p⟩:=(show jv X.prog X.w H s.heap a (.tup xs) from I.hok a _ ea)
   obtain⟨o,h1,h2,_⟩:=p;exact⟨_,kitx_tuple,⟨o,h1,h2.1⟩,λz=>nomatch z⟩
  |@dK a kvs ea=>
   cases (show u=Value.ref a from r)
   obtain⟨_,_,_,_,o,_,_,h1,h2,_⟩:=(show jv X.prog X.w H s.heap a (.dK kvs) from I.hok a _ ea)
   exact⟨_,kitx_dict,⟨o,h1,h2.1⟩,λz=>nomatch z⟩
  |@dT a kvs ea=>
   cases (show u=Value.ref a from r)
   obtain⟨_,_,_,_,o,_,_,h1,h2,_⟩:=(show jv X.prog X.w H s.heap a (.dT kvs) from I.hok a _ ea)
   exact⟨_,kitx_dict,⟨o,h1,h2.1⟩,λz=>nomatch z⟩
  |ins=>cases hT
 ·cases (show u=Value.ref a from r)
  obtain⟨c,_,⟨o,h1,h2,_⟩,_⟩:=I.tuple h;exact⟨_,kitx_tuple,⟨o,h1,h2⟩,λz=>nomatch z⟩
def lD (K:Frag)(a b:Ty):List V->Hp->VK->Prop:=λxs H Q=>∃x t l,xs=[x,.ref l]/\qH K H l [.ty (Ty.nm a),.ty (Ty.nm b)]/\JR K H x t/\Q (.bl (wa t a || wa t b)) H
def lE {a b:Ty}:yn X (.builtin "isinstance") (lD X.K a b):=by
 intro pins s σ H xs us Q I r h;obtain⟨x,t,l,rfl,y,w,q⟩:=h;obtain⟨u,e,rfl,f,c⟩:=vals2 r;cases (show e=Value.ref l from c)
 obtain⟨p,v,⟨o,h1,h2,k,A⟩,_⟩:=I.tuple y;obtain⟨d,U,rfl,i,g⟩:=vals2 v;cases (show d=Value.type a.nm from i)
 cases (show U=Value.type b.nm from g)
 obtain⟨D,Z,z,ne⟩:=w.kitx I f;obtain⟨n,C,j,B⟩:=o;cases (show n=_ from h2)
 cases (show j=_ from A)
 exact PySem.W.kia_tup Z I.kIn z h1 (lC t a b) ne λT=>⟨.bl (wa t a || wa t b),H,I.tok T,rfl,q⟩
def IM (t T:Ty)(m:Ev):Ev:=λρ A=>(m ρ A).bind λw A1=>match kM w A1 with
 |some t'=>.ok (.bl (wa t' t || wa t' T)) A1
 |none=>.bad
noncomputable def Qy (m:Ev)(tw:Tg):Ex:=λρ A=>(m ρ A).bind λw A1=>match tw w ρ with
 |some a=>.ok (.nx a) A1|none=>.bad
noncomputable def YU (i j:Nat)(ma M:Ev):Ex:=λρ A=>(ma ρ A).bind λx A1=>(M ρ A1).bind λy A2=>.ok (.nx ((ρ.set i (some x)).set j (some y))) A2
end
open Classical in
def Z9:W->W->Hx->R W:=λx y A=>match x,y with
 |.ref n,.ref k=>match A[n]?,A[k]? with
  |some (.lst ws),some (.lst us)=>if ws.length+us.length<=qj then .ok .non (A.set n (.lst (ws++us))) else .bad|_,_=>.bad
 |_,_=>.bad
def BC:∀x y A,jg (Z9 x y A):=λx y A=>by
 unfold Z9
 split
 ·split
  ·exact ZI yc ju
  ·exact ju
 ·exact ju
section
variable {prog:Program}{A:Around}
noncomputable abbrev Zi (led:Bool):Obj:={ cls:=.type "set",dict:=none,data:=.set #[] 0 (.fresh 0 0 led) }
noncomputable abbrev Qv (ns:bK)(k:Nat):bK:=firstMet (λi=>ns.getD i 0) k
def DR {led:Bool}{t:Addr}(r:A.handled=none)(p:s.heap.IsTuple t its.toArray)(j:IntsAre its ns)(u:its.length+1<scanBound)
  (h:∀(h':Heap)(d:Nat),h'.SetOf (intKind prog w) s.heap.objs.size (λk=>(Qv ns its.length).any (·==k)) (Qv ns its.length).length->
   (∀b o,b<s.heap.objs.size->s.heap.get? b=some o->h'.get? b=some o)->Q .none { s with heap:=h',toks:=d }):
  codeAny (model prog w) A (.call (.builtin "set.__init__") ⟨[.ref s.heap.objs.size,.ref t],[]⟩) (wants Q E) { s with heap:=s.heap.push (Zi led) }:=by
 have gS:(s.heap.push (Zi led)).get? s.heap.objs.size=some (Zi led):=ay _ rfl;refine codeAny_call_builtin F.called_set.init.plain F.entry_set_init (check_set_init_1 ⟨_,gS,rfl⟩ ?_);obtain⟨ob,h1,h2,n,H⟩:=p;obtain⟨D,C,g,f⟩:=ob;dsimp only at h2 H;cases h2;cases H;have g1:=af (Zi led) h1;have n1:=F.sub_tuple_set;have N:=F.sub_tuple_frozenset;have n3:(Value.type "tuple" == Value.type "dict")=false:=by decide
 have T1:(s.heap.push (Zi led)).IsTuple t its.toArray:=⟨_,g1,rfl,n,rfl⟩;unfold Builtin.«set.__init__» noKeywords Builtin.Frozenset.updateFrom;generalize q:pyIter=PI
 wp_walk
 subst q;refine wpAny_pyIter_tuple T1 (cf (wpAny_runValue ?_));have lt:t<s.heap.objs.size:=aL h1;have sz:(s.heap.push (Zi led)).objs.size=s.heap.objs.size+1:=bq ..;have ne:t≠(s.heap.push (Zi led)).objs.size:=by rw[sz];exact aQ (bh lt)
 have W:=(Walks.tuple (prog:=prog) (w:=w) (A:=A.in1.in1) (by simp[r]) (s.heap.push (Zi led)).objs.size t ne its.toArray).toS
 have c:its.toArray.size=its.length:=aw;rw[c]at W;have off:s.heap.objs.size∉[(s.heap.push (Zi led)).objs.size,t]:=by
  rw[sz];intro hm;rcases cm.mp hm with z|hm
  ·exact aQ (bx _) z
  ·exact ne_of_gt lt (cw.mp hm)
 refine codeAny_set_update_loopS W s.heap.objs.size off (λi=>ns.getD i 0) (λi v e=>IntsAre.int_at j i v (by simpa using e)) u its.length 0 _ rfl (zero_le _) ⟨⟨_,ay _ rfl,rfl,rfl⟩,T1.push _⟩ ?_ ?_
 ·exact SetOf_congr ((setObjOf_fresh (knd:=intKind prog w) led).setOf (af _ gS) (by unfold scanBound;omega)) (λ_=>rfl) rfl
 ·intro s' M S
  obtain⟨h',g',d',T,a⟩:=s';have B:g'=s.gens:=M.gens;have y:d'=s.drawn:=M.drawn;have x:a=s.os:=M.os;subst B y x;refine cg ?_;show wpAny _ _ (ret Value.none) _ _ _;refine cg (h h' T S λb o l e=>M.heap b o (λhm=>?_) (af _ (af _ e)));rcases cm.mp hm with z|hm
  ·exact aQ l z
  ·exact aQ (bh l) ((cw.mp hm).trans sz)
def D6 {t:Addr}(n:A.handled=none)(l:s.heap.IsTuple t its.toArray)(j:IntsAre its ns)(p:its.length+1<scanBound)
  (h:∀(h':Heap)(a:Nat),h'.SetOf (intKind prog w) s.heap.objs.size (λk=>(Qv ns its.length).any (·==k)) (Qv ns its.length).length->
   (∀b o,b<s.heap.objs.size->s.heap.get? b=some o->h'.get? b=some o)->Q (.ref s.heap.objs.size) { s with heap:=h',toks:=a }):
  wpAny (model prog w) A (call (.type "set") [.ref t]) Q E s:=by
 obtain⟨c,q,g⟩:=F.called_set.mro;have a1:=F.called_set.made;have a2:=F.called_set.sub;have C:=F.called_set.notType;have z:=F.called_set.canCreate;have y:=F.typeCall_set_1 (.ref t);refine wpAny_call (codeAny_of_tree ?_);show wpAny _ _ (callAny (.type "set") _) _ _ _;refine cg ⟨Code.quiet_builtin _ (by decide +kernel),codeAny_builtin F.entry_type_call ?_⟩
 rw[Around.under_plain (weight_type_call_type "set" [.ref t] []) rfl]
 repeat (any_goals (first|assumption|wp_step))
 refine codeAny_mono (code_set_new_1 (.ref t) (E:=E) (Q₁:=λu s1=>∃led,u=.ref s.heap.objs.size/\s1={ s with heap:=s.heap.push (Zi led) }) λled=>⟨led,rfl,rfl⟩) λr s1 d=>?_
 cases r with
 |error e=>exact d|ok fl=>
  cases fl with
  |ret u=>
   obtain⟨led,rfl,rfl⟩:=d;have T:Shared.TypeIs { s with heap:=s.heap.push (Zi led) } (.ref s.heap.objs.size) "set":=⟨_,ay _ rfl,rfl⟩
   have x:=F.called_set.init.lookup;have B:=F.called_set.init.bind (.ref s.heap.objs.size)
   repeat (any_goals (first|assumption|wp_step))
   refine codeAny_mono (DR (E:=E) (Q:=λv s2=>v=.none/\∃h' a,s2={ s with heap:=h',toks:=a }/\h'.SetOf (intKind prog w) s.heap.objs.size (λk=>(Qv ns its.length).any (·==k)) (Qv ns its.length).length/\
    ∀b o,b<s.heap.objs.size->s.heap.get? b=some o->h'.get? b=some o) (by simp[n]) l j p λh' a S K=>⟨rfl,h',a,rfl,S,K⟩) λi s2 H=>?_
   cases i with
   |error e=>exact H|ok f=>
    cases f with
    |ret v=>
     obtain⟨rfl,h',a,rfl,S,K⟩:=H
     repeat (any_goals (first|assumption|wp_step))
     exact h _ _ S K
    |_=>exact H.elim
  |_=>exact d.elim
end
def intsAre_of:∀{ns:bK}{i:bL},Vals (ns.map V.int) i->IntsAre i ns:=by
 intro ns
 induction ns with
 |nil=>intro i h;cases h;exact .nil|cons n ns I=>
  intro i h;cases h with
  |cons r t=>obtain⟨T,rfl⟩:=r;exact .cons n T (I t)
section
variable {m:Ev}
abbrev I9 (ns:bK):HO:=.set (λk=>(Qv ns ns.length).any (·==k)) (Qv ns ns.length).length
def lF (K:Frag):List V->Hp->VK->Prop:=λxs H Q=>∃p ns,xs=[.ref p]/\qH K H p (ns.map V.int)/\ns.length<=100/\∀l,H l=none->Q (.ref l) (upd H l (I9 ns))
def B5 (d:X.calm=true):yn X (.type "set") (lF X.K):=by
 intro pins s σ H xs us Q I r h;obtain⟨p,ns,rfl,c,z,q⟩:=h;obtain⟨u,rfl,a⟩:=vals1 r;cases a;obtain⟨i,v,P,_⟩:=I.tuple c;have hlen:i.length=ns.length:=by have:=v.length;rw[ak]at this;omega
 refine D6 (I.ok.hd d) P (intsAre_of v) (by unfold scanBound;omega) λh' t S kp=>?_
 rw[hlen]at S;exact⟨.ref s.heap.objs.size,_,I.laid (t':=t) (o:=I9 ns) (λb o e=>kp b o (aL e) e) (aq _) S,rfl,q _ (I.hok.fresh (aq _))⟩
def B8:yn X (.builtin "len") (λxs H Q=>∃p S n,xs=[.ref p]/\H p=some (.set S n)/\n<=100/\Q (.int n) H):=by
 intro pins s σ H xs us Q I r h;obtain⟨p,S,n,rfl,b,z,q⟩:=h;obtain⟨u,rfl,a⟩:=vals1 r;cases a;obtain⟨o,e,E,t,ho,ex,hd,_,_,_,hf,hn⟩:=(show jv X.prog X.w H s.heap p (.set S n) from I.hok p _ b)
 subst hn;exact call_len_set ho ex hd hf (by omega) ⟨.int e.size,H,I.tok _,⟨_,rfl⟩,q⟩
def MU:W->Hx->R W:=λw A=>match w with
 |.tup ws=>match intsOf ws with
  |some ns=>if ns.length<=100 then .ok (.int (Qv ns ns.length).length) A else .bad|none=>.bad
 |_=>.bad
def M7 (m:Ev):Ev:=λρ A=>(m ρ A).bind λw A1=>MU w A1
end
def IV (s:Stmt):Expr:=match s with
 |.If t _ _ _=>t|_=>Qk
section
def WK:=Zr X4 λi j=>.int (i * 2 ^ j.toNat)
end
def VB:fillsNumberSlot (.type "tuple") "mul"=pure false:=
 PySem.fillsNumberSlot_seq (id := "tuple.__mul__") (r:=some (.builtin "tuple.__rmul__")) F.slot_tuple_mul.lookup (by decide +kernel) F.slot_tuple_rmul.lookup (by decide +kernel)
def V9:seqRepeat? (.type "tuple")=pure (some (.builtin "tuple.__mul__")):=by
 unfold seqRepeat?;rw[PySem.seqSlot_of (T := "tuple") (name := "__mul__") (id := "tuple.__mul__") F.slot_tuple_mul.lookup (by decide +kernel),PySem.seqSlot_of (T := "tuple") (name := "__rmul__") (id := "tuple.__rmul__") F.slot_tuple_rmul.lookup (by decide +kernel)]
 rfl
def Uh (a:Int)(t:Tok)(l:Addr)(o:cb)(items:Array Value)(n:Nat)(sl:Array (bQ)):
  Meets (Builtin.«int.__rmul__» ⟨[.int a t,.ref l],[]⟩) (λ_ R s=>s.heap.get? l=some ⟨.type "tuple",o,.seq items n,sl⟩/\R (.ok (.ret Value.notImplemented)) s):=
 .of_wp λprog w A R s h=>by
  obtain⟨H,g,d,T,os⟩:=s;obtain⟨hl,h⟩:=h
  wp_walk
  exact⟨_,rfl,h⟩
def B9 (k:Int)(t:Tok)(l:Addr)(o:cb)(items:Array Value)(n:Nat)(sl:Array (bQ))(h2:2<=k)(c:k<1000)(i:0<items.size)(z:items.size<1000):
  Meets (Builtin.«tuple.__mul__» ⟨[.ref l,.int k t],[]⟩) (λ_ R s=>s.heap.get? l=some ⟨.type "tuple",o,.seq items n,sl⟩/\R (.ok (.ret (.ref s.heap.objs.size))) { s with heap:=s.heap.push { cls:=.type "tuple",data:=.seq ((List.replicate k.toNat items).foldl (·++·) #[]) } }):=
 .of_wp λprog w A R s h=>by
  obtain⟨p,g,d,T,os⟩:=s;obtain⟨hl,h⟩:=h;have q:items.isEmpty=false:=by
   cases he:items.isEmpty with
   |false=>rfl|true=>rw[Array.isEmpty_iff_size_eq_zero]at he;omega
  have j:(k==1)=false:=by rw[beq_eq_false_iff_ne];omega
  have b:(decide (k < -2 ^ 63) || decide (k ≥ 2 ^ 63))=false:=by
   rw[Bool.or_eq_false_iff,decide_eq_false_iff_not,decide_eq_false_iff_not];omega
  have f:decide (k<=0)=false:=by rw[decide_eq_false_iff_not];omega
  have hm:(items.size:Int) * k<=1000 * 1000:=Int.mul_le_mul (by omega) (by omega) (by omega) (by omega)
  have a:¬(items.size:Int) * k > (2 ^ 63-1)/8:=by omega
  have E:Builtin.Tuple.tupleTooMany ((items.size:Int) * k)=false:=by
   unfold Builtin.Tuple.tupleTooMany
   have:sizeLine=16777216:=sizeLine_eq
   rw[decide_eq_false_iff_not];omega
  wp_walk
  rw[b];rw[ao (by decide)]
  dsimp only
  wp_walk
  rw[ao a,E,ao (by decide)]
  have H:(List.foldl (λx1 x2=>x1++x2) #[] (List.replicate k.toNat items)).size<=sizeLine:=by
   have hf:=foldl_rep items.toList k.toNat [];rw[bf]at hf;have e:items.toList.toArray=items:=by simp
   rw[e]at hf;rw[hf,aw,len_rep]
   have:sizeLine=16777216:=sizeLine_eq
   have:k.toNat * items.toList.length<=1000 * 1000:=mul_le_mul (by omega) (by rw[bt];omega)
   omega
  refine cf (m:=Builtin.Tuple.tupleExact _) (wpAny_newObj_type ?_ H);exact cg ⟨_,rfl,h⟩
section
variable {K:Frag}{b:Expr}
def T6 (K:Frag):R2:=λx y H Q=>∃l k xs,x=.ref l/\y=.int k/\qH K H l xs/\2<=k/\k<1000/\0<xs.length/\xs.length<1000/\
 ∀p,H p=none->Q (.ref p) (upd H p (.tup (List.replicate k.toNat xs).flatten))
def lG:qU X (binaryOp .Mult) (T6 X.K):=by
 intro pins s σ H x y v u Q I d a h;obtain⟨l,k,xs,rfl,rfl,e,h1,h2,j,g,q⟩:=h;cases d;obtain⟨t,rfl⟩:=a;obtain⟨i,r,p,_⟩:=I.tuple e;obtain⟨⟨cls,dd,data,sl⟩,ho,c,n,hd⟩:=id p;simp only at c hd;subst c hd;have w:List.foldl (λx1 x2=>x1++x2) #[] (List.replicate k.toNat i.toArray)=(List.replicate k.toNat i).flatten.toArray:=by
  have:=foldl_rep i k.toNat []
  rw[bf]at this;exact this
 have hlen:=r.length;refine wpAny_binaryOp_repeat_ref (T := "tuple") (U := "int") (by decide) ⟨_,ho,rfl⟩ (λs'=>typeIs_int s' k t) VB F.fills_int_mul F.slot_int_rmul V9 F.slot_int_index.lookup
  (call_meets F.slot_int_rmul (typeIs_int s k t) F.entry_int_rmul (F.args_int_rmul_2 _ _) (Uh k t l dd i.toArray n sl)
   ⟨ho,rfl,⟨_,ho,rfl⟩,call_meets F.slot_tuple_mul ⟨_,ho,rfl⟩ F.entry_tuple_mul (F.args_tuple_mul_2 _ _) (B9 k t l dd i.toArray n sl h1 h2 (by rw[aw];omega) (by rw[aw];omega)) ⟨ho,?_⟩⟩)
 rw[w];refine⟨.ref s.heap.objs.size,_,I.laid (t':=s.toks) (o:=.tup (List.replicate k.toNat xs).flatten) (λb ob q=>af _ q) (aq _) ?_,rfl,q _ (I.hok.fresh (aq _))⟩;refine⟨?_,_,r.rep k.toNat,ZG.new _ _⟩;rw[len_rep];have f:sizeLine=16777216:=sizeLine_eq
 have:k.toNat * xs.length<=1000 * 1000:=mul_le_mul (by omega) (by omega)
 omega
noncomputable def T3:W->W->Hx->R W:=λx y A=>match x,y with
 |.tup xs,.int k=>if decide (2<=k)&&(decide (k<1000)&&(decide (0<xs.length)&&decide (xs.length<1000))) then .ok (.tup (List.replicate k.toNat xs).flatten) A else .bad|_,_=>.bad
def lH:yt K (T6 K) T3:=λφ A H x y u v Q S b q p=>by
 cases u with
 |tup xs=>cases v with
  |int j=>
   obtain⟨a1,a,rfl,t1,r⟩:=b;obtain rfl:=q;unfold T3 at p;dsimp only at p
   by_cases h:(decide (2<=j)&&(decide (j<1000)&&(decide (0<xs.length)&&decide (xs.length<1000))))=true
   ·rw[aj h]at p
    simp only[ah,ai]at h;refine⟨a1,j,a,rfl,rfl,t1,h.1,h.2.1,by rw[<- r.length];exact h.2.2.1,by rw[<- r.length];exact h.2.2.2,λl hl=>?_⟩
    obtain⟨c1,c2,c⟩:=Qi S hl (r.rep j.toNat);exact p _ _ _ c1 c2 c
   ·rw[ao h]at p;exact p.elim
  |_=>exact p.elim
 |_=>cases v<;>exact p.elim
end
section
open PySem.SeqAt
open PySem.AutoSeq1 (wpAny_loadPart')
open PySem.MeetsSeq PySem.MeetsSeq2 PySem.MeetsSeq3
end
open PySem
open PySem PySem.Spec PyProof.Rows
namespace F
end F
section
theorem O8:∀{ns:bK}{i:bL},IntsAre i ns->Vals (ns.map V.int) i
 |_,_,.nil=>.nil|_,_,.cons n t h=>.cons ⟨t,rfl⟩ (O8 h)
end
section
variable {K:Frag}
theorem zI.app:∀{ws us:List W}{xs ys:List V},zI K φ H ws xs->zI K φ H us ys->zI K φ H (ws++us) (xs++ys)
 |[],_,_,_,h,h2=>by cases h;exact h2|w::ws,_,_,_,⟨v,r,e,h,t⟩,h2=>by subst e;exact⟨v,_,rfl,h,zI.app t h2⟩
variable {prog:Program}{A:Around}
def H9 {t sl:Addr}{l v:Value}{lo i:bV}(H:IsTup s.heap t items)(d:s.heap.IsSliceOf sl l v .none)(p:IsPart l lo)(pu:IsPart v i)
  (hw:HT.qB items.size 0 lo=0/\HT.qB items.size items.size i=items.size)(h:Q (.ref t) s):wpAny (model prog w) A (getItem (.ref t) (.ref sl)) Q E s:=by
 obtain⟨os,a,b,e⟩:=id d;have c:s.TypeIs (.ref sl) "slice":=⟨os,a,b⟩;unfold getItem
 try with_reducible refine wpAny_holding ?_
 first|refine cf (cg ?_)|skip
 refine cf (wpAny_sequenceKey H.typeIs (by decide) ?_)
 refine cf (wpAny_callSpecial?_slot (name:=Str.ofString "__getitem__") H.typeIs PyProof.Rows.slot_tuple_getitem
  (wpAny_call_entry PyProof.Rows.slot_tuple_getitem H.typeIs PyProof.Rows.entry_tuple_getitem ?_ (PyProof.Rows.args_tuple_getitem _ _)))
 show wpAny _ _ (Builtin.Tuple.tupleItemsOf (.ref t) >>= _) _ _ s;refine cf (PyProof.Rows.tupleItemsOf_ H ?_);refine cf (wpAny_typeOf c ?_);rw[aj (by decide)]
 refine cf (HT.RT d p pu ?_);show wpAny _ _ (if (((HT.qB items.size 0 lo:Nat):Int)==0&&(1:Int)==1&&(HT.qB items.size items.size i-HT.qB items.size 0 lo)==items.size)=true then _ else _) _ _ s;rw[aj (by rw[hw.1,hw.2];simp)]
 unfold Builtin.Tuple.tupleIsExact;refine cf (cf (wpAny_typeOf H.typeIs (cg ?_)));rw[aj (by decide)]
 refine cf (wpAny_rule ?_)
 first
  |exact cg ⟨_,rfl,cg h⟩
  |exact cf (cg (cg ⟨_,rfl,cg h⟩))
end
section
variable {a:Expr}{m:Ev}{lo hi:Option Expr}{K:Frag}
def IP (K:Frag):V->Option Int->Option Int->Hp->VK->Prop:=λx lo h H Q=>∃a xs,x=.ref a/\qH K H a xs/\
 ((HT.qB xs.length 0 lo=0/\HT.qB xs.length xs.length h=xs.length)->Q (.ref a) H)/\
 (¬(HT.qB xs.length 0 lo=0/\HT.qB xs.length xs.length h=xs.length)->∀p,H p=none->Q (.ref p) (upd H p (.tup (Zl xs lo h))))
def lI:W4 X (IP X.K):=by
 intro pins s σ H x v l u lo e sl Q I b d p pu h;obtain⟨a,xs,rfl,c,f,q⟩:=h
 by_cases hw:HT.qB xs.length 0 lo=0/\HT.qB xs.length xs.length e=xs.length
 ·cases b
  obtain⟨i,r,t,z⟩:=I.tuple c;have hlen:i.toArray.size=xs.length:=by rw[aw];exact r.length.symm
  exact⟨"tuple",_,PyProof.Rows.slot_tuple_getitem.lookup,t.typeIs,H9 t d p pu (by rw[hlen];exact hw) ⟨.ref a,H,I,rfl,f hw⟩⟩
 ·exact eB pins s σ H _ v l u lo e sl Q I b d p pu ⟨a,xs,rfl,c,hw,q hw⟩
abbrev Po:=En->Hx->R (bV)
noncomputable def JV:Po:=λ_ A=>.ok none A
noncomputable def Zk (m:Ev):Po:=λρ A=>(m ρ A).bind λw A1=>match w with
 |.int i=>.ok (some i) A1|_=>.bad
noncomputable def ZP (ws:List W)(lo h:bV):List W:=(ws.drop (HT.qB ws.length 0 lo)).take (HT.qB ws.length ws.length h-HT.qB ws.length 0 lo)
inductive MP (K:Frag)(xr:XR)(p:Po)(σ:St)(H:Hp)(Q:Option Int->Hp->Prop):Prop
 |mk (φ:bM) (A:Hx) (ρ:En) (S:zQ K φ A H) (re:RE K φ H ρ σ) (h:(p ρ A).post (λo A1=>∀φ1 H1,Le K φ H φ1 H1->zQ K φ1 A1 H1->Q o H1) (EB K φ H xr))
noncomputable def tP (K:Frag)(x:XR)(p:Po):TO:=λσ H Q=>MP K x p σ H Q
def SP (X:Cx)(x:XR)(e:Option Expr)(p:Po):Prop:=PO X e (tP X.K x p)
def PO.imp {e:Option Expr}{t t':TO}(h:PO X e t)(i:∀σ H Q,t' σ H Q->t σ H Q):PO X e t':=λpins s σ H Q I hw=>h pins s σ H Q I (i σ H Q hw)
def Lx (b:SE X xr e m):SP X xr (some e) (Zk m):=PO.imp (el b) λσ H Q ⟨φ,A,ρ,S,re,h⟩=>by
 refine tM.go S re (qe.mp h) λw A1 a H1 v h1 l s q=>?_;cases w with
 |int i=>obtain rfl:=q;exact⟨i,rfl,h1 a H1 l s⟩|_=>exact h1.elim
end
def AK (xs:Array Value):((List.range xs.size).filterMap λ(k:Nat)=>xs[(((xs.size:Int)-1)+(k:Int) * (-1)).toNat]?).toArray=xs.toList.reverse.toArray:=by
 congr 1
 have e:∀k,k<xs.size->xs[(((xs.size:Int)-1)+(k:Int) * (-1)).toNat]? =some (xs.toList.reverse.getD k .none):=λk h=>by
  have h1:(((xs.size:Int)-1)+(k:Int) * (-1)).toNat=xs.size-1-k:=by omega
  rw[h1,aa,List.getElem?_reverse (by simpa using h),Array.getElem?_toList,bt,Array.getElem?_eq_getElem (by omega)]
  rfl
 have E:((List.range xs.size).filterMap λ(k:Nat)=>xs[(((xs.size:Int)-1)+(k:Int) * (-1)).toNat]?)=(List.range xs.size).map λk=>xs.toList.reverse.getD k .none:=by
  have a:∀l:bP,(∀k∈l,k<xs.size)->(l.filterMap λ(k:Nat)=>xs[(((xs.size:Int)-1)+(k:Int) * (-1)).toNat]?)=l.map λk=>xs.toList.reverse.getD k .none:=by
   intro l
   induction l with
   |nil=>intro _;rfl|cons k l I=>
    intro h;rw[bc,e k (h k (aB ..)),aS,I λj H=>h j (au _ H)]
  exact a _ λk h=>cj.mp h
 rw[E]
 apply bD
 ·simp
 ·intro i h1 h2
  rw[List.getElem_map,List.getElem_range,aa,ae h2]
  rfl
section
variable {K:Frag}
def D2 (h:Vals xs us):Vals xs.reverse us.reverse:=by
 induction h with
 |nil=>exact .nil|cons r t i=>rw[reverse_cons,reverse_cons];exact i.append (.cons r .nil)
theorem zI.rev:∀{ws:List W}{vs:List V},zI K φ H ws vs->zI K φ H ws.reverse vs.reverse
 |[],_,h=>by cases h;rfl|w::ws,_,⟨v,r,e,h,t⟩=>by
  subst e;rw[reverse_cons,reverse_cons];exact zI.app (zI.rev t) ⟨v,[],rfl,h,rfl⟩
end
noncomputable def XH (_ j:Int):Bool:=decide (0<j)&&decide (j<1152921504606846976)
def Iy (i j:Int):Prop:=0<j/\j<1152921504606846976
def lJ (i j:Int)(h:XH i j=true):Iy i j:=by
 unfold XH at h;rw[ah]at h;exact⟨of_decide_eq_true h.1,of_decide_eq_true h.2⟩
def lK:qU X (binaryOp .FloorDiv) (rI Iy λi j=>.int (i/j)):=Y2 λi j _ _ _ _ _ h q=>by
 have h1:(0:Int)<j:=h.1;have h2:j<1152921504606846976:=h.2;refine floordiv_int (by omega) (by rw[Int.fdiv_eq_ediv_of_nonneg i (by omega)];exact q) (.inl (PyProof.noPylong_of_log2 ?_))
 have h0:j.natAbs≠0:=by omega
 have:j.natAbs.log2<60:=(Nat.log2_lt h0).mpr (by omega)
 omega
def kE:=Zr XH λi j=>.int (i/j)
def S6 (e:Expr):Expr:=match e with
 |.Compare l _ _ _=>l|_=>Qk
def CG (t:Tok)(l:Addr)(o:cb)(items:Array Value)(n:Nat)(sl:Array (bQ)):
  Meets (Builtin.«tuple.__mul__» ⟨[.ref l,.int 1 t],[]⟩) (λ_ R s=>s.heap.get? l=some ⟨.type "tuple",o,.seq items n,sl⟩/\R (.ok (.ret (.ref l))) s):=
 .of_wp λprog w A R s h=>by
  obtain⟨H,g,d,T,os⟩:=s;obtain⟨hl,h⟩:=h;have E:((1:Int)==1)=true:=rfl;have e:(decide ((1:Int) < -2 ^ 63) || decide ((1:Int) ≥ 2 ^ 63))=false:=by decide
  wp_walk
  exact⟨_,rfl,h⟩
section
variable {K:Frag}
def TY (K:Frag):R2:=λx y H Q=>(∃l xs,x=.ref l/\y=.int 1/\qH K H l xs/\Q (.ref l) H)∨T6 K x y H Q
def lL:qU X (binaryOp .Mult) (TY X.K):=by
 intro pins s σ H x y v u Q I b a h;rcases h with ⟨l,xs,rfl,rfl,d,q⟩|h
 ·cases b
  obtain⟨t,rfl⟩:=a;obtain⟨i,r,p,_⟩:=I.tuple d;obtain⟨⟨cls,dd,data,sl⟩,ho,c,n,hd⟩:=id p;simp only at c hd;subst c hd;refine wpAny_binaryOp_repeat_ref (T := "tuple") (U := "int") (by decide) ⟨_,ho,rfl⟩ (λs'=>typeIs_int s' 1 t) VB F.fills_int_mul F.slot_int_rmul V9 F.slot_int_index.lookup
   (call_meets F.slot_int_rmul (typeIs_int s 1 t) F.entry_int_rmul (F.args_int_rmul_2 _ _) (Uh 1 t l dd i.toArray n sl)
    ⟨ho,rfl,⟨_,ho,rfl⟩,call_meets F.slot_tuple_mul ⟨_,ho,rfl⟩ F.entry_tuple_mul (F.args_tuple_mul_2 _ _) (CG t l dd i.toArray n sl) ⟨ho,?_⟩⟩)
  exact⟨.ref l,H,I,rfl,q⟩
 ·exact lG pins s σ H x y v u Q I b a h
noncomputable def Sh:W->W->Hx->R W:=λx y A=>match x,y with
 |.tup xs,.int k=>if decide (1<=k)&&(decide (k<1000)&&(decide (0<xs.length)&&decide (xs.length<1000))) then .ok (.tup (List.replicate k.toNat xs).flatten) A else .bad|_,_=>.bad
def lM:yt K (TY K) Sh:=λφ A H x y u v Q S q b p=>by
 cases u with
 |tup xs=>cases v with
  |int j=>
   unfold Sh at p;dsimp only at p
   by_cases h:(decide (1<=j)&&(decide (j<1000)&&(decide (0<xs.length)&&decide (xs.length<1000))))=true
   ·rw[aj h]at p
    simp only[ah,ai]at h
    by_cases h1:j=1
    ·subst h1
     obtain⟨a1,a,rfl,t1,r⟩:=id q;obtain rfl:=b;refine .inl ⟨a1,a,rfl,rfl,t1,?_⟩;have e:(List.replicate (1:Int).toNat xs).flatten=xs:=by simp
     rw[e]at p;exact p _ _ _ Le.refl S q
    ·refine .inr (lH φ A H x y (.tup xs) (.int j) Q S q b ?_)
     unfold T3;dsimp only;rw[aj (by simp only[ah,ai];exact⟨by omega,h.2⟩)]
     exact p
   ·rw[ao h]at p;exact p.elim
  |_=>exact p.elim
 |_=>cases v<;>exact p.elim
end
end Mi
namespace PySem.SeqAt
open PySem
end PySem.SeqAt
namespace Mi
open PySem PySem.Spec PyProof.Rows L2
def Bf (t:Tok)(l:Addr)(o:cb)(items:Array Value)(n:Nat)(sl:Array (bQ))(i:0<items.size):
  Meets (Builtin.«tuple.__mul__» ⟨[.ref l,.int 0 t],[]⟩) (λ_ R s=>s.heap.get? l=some ⟨.type "tuple",o,.seq items n,sl⟩/\R (.ok (.ret (.ref s.heap.objs.size))) { s with heap:=s.heap.push { cls:=.type "tuple",data:=.seq #[] } }):=
 .of_wp λprog w A R s h=>by
  obtain⟨H,g,d,T,os⟩:=s;obtain⟨hl,h⟩:=h;have b:items.isEmpty=false:=by
   cases he:items.isEmpty with
   |false=>rfl|true=>rw[Array.isEmpty_iff_size_eq_zero]at he;omega
  have a:((0:Int)==1)=false:=rfl;have E:(decide ((0:Int) < -2 ^ 63) || decide ((0:Int) ≥ 2 ^ 63))=false:=by decide
  have e:decide ((0:Int)<=0)=true:=by decide
  wp_walk
  exact⟨_,rfl,h⟩
section
variable {K:Frag}{b:Expr}
def Iv (K:Frag):R2:=λx y H Q=>(∃l xs,x=.ref l/\y=.int 0/\qH K H l xs/\0<xs.length/\∀p,H p=none->Q (.ref p) (upd H p (.tup [])))∨TY K x y H Q
def lN:qU X (binaryOp .Mult) (Iv X.K):=by
 intro pins s σ H x y v u Q I c a h;rcases h with ⟨l,xs,rfl,rfl,e,f,q⟩|h
 ·cases c
  obtain⟨t,rfl⟩:=a;obtain⟨i,r,p,_⟩:=I.tuple e;obtain⟨⟨cls,dd,data,sl⟩,ho,d,n,hd⟩:=id p;simp only at d hd;subst d hd;have hlen:=r.length;refine wpAny_binaryOp_repeat_ref (T := "tuple") (U := "int") (by decide) ⟨_,ho,rfl⟩ (λs'=>typeIs_int s' 0 t) VB F.fills_int_mul F.slot_int_rmul V9 F.slot_int_index.lookup
   (call_meets F.slot_int_rmul (typeIs_int s 0 t) F.entry_int_rmul (F.args_int_rmul_2 _ _) (Uh 0 t l dd i.toArray n sl)
    ⟨ho,rfl,⟨_,ho,rfl⟩,call_meets F.slot_tuple_mul ⟨_,ho,rfl⟩ F.entry_tuple_mul (F.args_tuple_mul_2 _ _) (Bf t l dd i.toArray n sl (by rw[aw];omega)) ⟨ho,?_⟩⟩)
  refine⟨.ref s.heap.objs.size,_,I.laid (t':=s.toks) (o:=.tup []) (λb ob q=>af _ q) (aq _) ?_,rfl,q _ (I.hok.fresh (aq _))⟩;refine⟨zero_le _,[],?_,ZG.new _ _⟩;exact r.rep 0
 ·exact lL pins s σ H x y v u Q I c a h
noncomputable def Qn:W->W->Hx->R W:=λx y A=>match x,y with
 |.tup xs,.int k=>if decide (0<=k)&&(decide (k<1000)&&(decide (0<xs.length)&&decide (xs.length<1000))) then .ok (.tup (List.replicate k.toNat xs).flatten) A else .bad|_,_=>.bad
def lO:∀x y A,jg (Qn x y A):=λx y A=>by
 unfold Qn
 split
 ·exact ZI yc ju
 ·exact ju
def Ar:yt K (Iv K) Qn:=λφ A H x y u v Q S b q p=>by
 cases u with
 |tup xs=>cases v with
  |int j=>
   unfold Qn at p;dsimp only at p
   by_cases h:(decide (0<=j)&&(decide (j<1000)&&(decide (0<xs.length)&&decide (xs.length<1000))))=true
   ·rw[aj h]at p
    simp only[ah,ai]at h
    by_cases h1:j=0
    ·subst h1
     obtain⟨a1,a,rfl,t1,r⟩:=id b;obtain rfl:=q;refine .inl ⟨a1,a,rfl,rfl,t1,by rw[<- r.length];exact h.2.2.1,λl hl=>?_⟩
     obtain⟨c1,c2,c⟩:=Qi S hl (r.rep 0);exact p _ _ _ c1 c2 c
    ·refine .inr (lM φ A H x y (.tup xs) (.int j) Q S b q ?_)
     unfold Sh;dsimp only;rw[aj (by simp only[ah,ai];exact⟨by omega,h.2⟩)]
     exact p
   ·rw[ao h]at p;exact p.elim
  |_=>exact p.elim
 |_=>cases v<;>exact p.elim
variable {m:Ev}
noncomputable def IX (m:Ev):Ev:=λρ A=>(m ρ A).bind λw A1=>match w with
 |.ref n=>match A1[n]? with
  |some (.lst ws)=>.ok (.bl (!ws.isEmpty)) A1|_=>.bad
 |_=>.bad
end
open PySem.W (KasT kas_rev kas_asc kas_desc kas_tail3 kas_descPart kas_count kas_place kas_bin kas_sort)
noncomputable def TW (n:Nat)(c:Nat->Nat->Bool):KasT α->(α->Prop)->Prop
 |.ret a,Q=>Q a|.ask i j k,Q=>i<n/\j<n/\TW n c (k (c i j)) Q
theorem TW.bind {β:Type}{c:Nat->Nat->Bool}{f:α->KasT β}{Q:β->Prop}:∀(t:KasT α),TW n c t (λa=>TW n c (f a) Q)->TW n c (t.bind f) Q
 |.ret _,h=>h|.ask i j k,h=>⟨h.1,h.2.1,TW.bind (k (c i j)) h.2.2⟩
theorem TW.wp {c:Nat->Nat->Bool}{cmp:Nat->Nat->(Bool->Shared->Prop)->Shared->Prop}{G:α->Shared->Prop}(H:∀i j C,i<n->j<n->C (c i j) s->cmp i j C s):
  ∀(t:KasT α),TW n c t (λa=>G a s)->t.kasWp cmp G s
 |.ret _,h=>h|.ask i j k,h=>H i j _ h.1 h.2.1 (TW.wp H (k (c i j)) h.2.2)
section
variable {O:KeyOrd}{key:Nat->O.α}
noncomputable def gk (key:Nat->O.α)(p:Array Nat)(i:Nat):O.α:=key (p.getD i 0)
noncomputable abbrev kc (key:Nat->O.α)(i j:Nat):Bool:=O.blt (key i) (key j)
def wF (key:Nat->O.α)(p:Array Nat)(m:Nat):Prop:=∀i j,i<=j->j<m->O.kle (gk key p i) (gk key p j)
def gr (key:Nat->O.α)(p:Array Nat)(m:Nat):Prop:=∀i j,i<=j->j<m->O.kle (gk key p j) (gk key p i)
structure yx (n:Nat)(p:Array Nat):Prop where
 pm:p.Perm (List.range n).toArray
theorem yx.size {p:Array Nat}(h:yx n p):p.size=n:=by rw[h.pm.size_eq];simp
def yx.lt {p:Array Nat}(h:yx n p)(hn:0<n)(i:Nat):p.getD i 0<n:=by
 by_cases hi:i<p.size
 ·have e:p.getD i 0=p[i]:=by simp[Array.getD,hi]
  have m:p[i]∈p.toList:=Array.mem_toList_iff.mpr (Array.getElem_mem hi)
  have:=(Array.perm_iff_toList_perm.mp h.pm).mem_iff.mp m
  rw[e];simpa using this
 ·have e:p.getD i 0=0:=by simp[Array.getD,hi]
  rw[e];exact hn
def yx.rev {p:Array Nat}(h:yx n p)(i j:Nat):yx n (kas_rev p i j):=⟨(mirror_perm _ _ _ _).trans h.pm⟩
def yx.bub {p:Array Nat}(h:yx n p)(i j:Nat):yx n (bubble p i j):=⟨(bubble_perm _ _ _).trans h.pm⟩
def KL {p q:Array Nat}(h:p[i]? =q[j]?):gk key p i=gk key q j:=by
 unfold gk;rw[Array.getD_eq_getD_getElem?,Array.getD_eq_getD_getElem?,h]
def Ts {p:Array Nat}(h:j<=p.size)(k:Nat):gk key (kas_rev p i j) k=if i<=k/\k<j then gk key p (i+j-1-k) else gk key p k:=by
 have e:=getElem?_mirror_all (xs:=p) (i:=i) h k
 by_cases c:i<=k/\k<j
 ·rw[aj c]at e
  rw[aj c];exact KL e
 ·rw[ao c]at e
  rw[ao c];exact KL e
def Uq {p:Array Nat}(H:j<=p.size)(h:∀k,i<=k->k<j->gk key p k=gk key p (j-1))(k:Nat):gk key (kas_rev p i j) k=gk key p k:=by
 rw[Ts H]
 by_cases c:i<=k/\k<j
 ·rw[aj c,h k c.1 c.2]
  exact h _ (by omega) (by omega)
 ·rw[ao c]
def Lk {p:Array Nat}{a d:Nat}(h:a<p.size)(hd:d<=a)(k:Nat):gk key (bubble p a d) k=if k=a-d then gk key p a else if a-d<k/\k<=a then gk key p (k-1) else gk key p k:=by
 have e:=getElem?_bubble h d hd k
 by_cases c:k=a-d
 ·rw[aj c]at e
  rw[aj c];exact KL e
 ·rw[ao c]at e
  rw[ao c]
  by_cases c2:a-d<k/\k<=a
  ·rw[aj c2]at e
   rw[aj c2];exact KL e
  ·rw[ao c2]at e
   rw[ao c2];exact KL e
def wF.one {p:Array Nat}:wF key p 1:=λi j h1 h2=>by
 obtain rfl:i=0:=by omega
 obtain rfl:j=0:=by omega
 exact KeyOrd.kle_refl _
def wF.more {p:Array Nat}{m:Nat}(h:wF key p m)(hm:1<=m)(hl:O.kle (gk key p (m-1)) (gk key p m)):wF key p (m+1):=λi j h1 h2=>by
 rcases lt_or_ge j m with c|c
 ·exact h i j h1 c
 ·obtain rfl:j=m:=by omega
  rcases lt_or_ge i j with c2|c2
  ·exact KeyOrd.kle_trans (h i (j-1) (by omega) (by omega)) hl
  ·obtain rfl:i=j:=by omega
   exact KeyOrd.kle_refl _
def gr.more {p:Array Nat}{m:Nat}(h:gr key p m)(hm:1<=m)(hl:O.kle (gk key p m) (gk key p (m-1))):gr key p (m+1):=λi j h1 h2=>by
 rcases lt_or_ge j m with c|c
 ·exact h i j h1 c
 ·obtain rfl:j=m:=by omega
  rcases lt_or_ge i j with c2|c2
  ·exact KeyOrd.kle_trans hl (h i (j-1) (by omega) (by omega))
  ·obtain rfl:i=j:=by omega
   exact KeyOrd.kle_refl _
def gr.same {p q:Array Nat}{m:Nat}(h:gr key p m)(e:∀k,gk key q k=gk key p k):gr key q m:=λi j h1 h2=>by
 rw[e,e];exact h i j h1 h2
theorem Se {p:Array Nat}(P:yx n p)(hn:0<n):∀(f a:Nat){Q:Nat->Prop},1<=a->wF key p a->(∀m,a<=m->m<=a+f->wF key p m->m=a+f∨O.klt (gk key p m) (gk key p (m-1))->Q m)->TW n (kc key) (kas_asc p f a) Q
 |0,a,Q,_,H,h=>h a (aq _) (aq _) H (.inl rfl)|f+1,a,Q,h1,H,h=>by
  refine⟨P.lt hn _,P.lt hn _,?_⟩;cases e:kc key (p.getD a 0) (p.getD (a-1) 0) with
  |true=>exact h a (aq _) (by omega) H (.inr e)|false=>exact Se P hn f (a+1) (by omega) (H.more h1 e) λm d c b ho=>h m (by omega) (by omega) b (by rcases ho with ho|ho;exact .inl (by omega);exact .inr ho)
theorem Xv (hn:0<n):∀(f:Nat)(p:Array Nat)(a q:Nat){Q:Array Nat×Nat×Nat->Prop},yx n p->q+1<=a->a+f<=n->gr key p a->(∀k,a-(q+1)<=k->k<a->gk key p k=gk key p (a-1))->
  (∀b m d,yx n b->a<=m->m<=a+f->gr key b m->d+1<=m->(∀k,m-(d+1)<=k->k<m->gk key b k=gk key b (m-1))->Q (b,m,d))->TW n (kc key) (kas_desc f p a q) Q
 |0,p,a,q,Q,P,h1,h2,H,he,h=>h p a q P (aq _) (aq _) H h1 he|f+1,p,a,q,Q,P,h1,h2,H,he,h=>by
  refine⟨P.lt hn _,P.lt hn _,?_⟩;have one:∀r:Array Nat,∀k,a+1-(0+1)<=k->k<a+1->gk key r k=gk key r (a+1-1):=λr k x y=>by
   obtain rfl:k=a:=by omega
   rfl
  have up:∀b m d,yx n b->a+1<=m->m<=a+1+f->gr key b m->d+1<=m->(∀k,m-(d+1)<=k->k<m->gk key b k=gk key b (m-1))->Q (b,m,d):=λb m d a1 a2 t s o A=>h b m d a1 (by omega) (by omega) s o A
  cases e:kc key (p.getD a 0) (p.getD (a-1) 0) with
  |true=>
   show TW n (kc key) (if q > 0 then _ else _) Q;have lt:O.kle (gk key p a) (gk key p (a-1)):=KeyOrd.kle_of_klt e
   by_cases g:q > 0
   ·rw[aj g]
    have E:=Uq (key:=key) (p:=p) (i:=a-(q+1)) (j:=a) (by rw[P.size];omega) he
    exact Xv hn f _ (a+1) 0 (P.rev _ _) (by omega) (by omega) ((H.more (by omega) lt).same E) (one _) up
   ·rw[ao g]
    exact Xv hn f _ (a+1) 0 P (by omega) (by omega) (H.more (by omega) lt) (one _) up
  |false=>
   refine⟨P.lt hn _,P.lt hn _,?_⟩;cases l:kc key (p.getD (a-1) 0) (p.getD a 0) with
   |true=>exact h p a q P (aq _) (by omega) H h1 he|false=>
    have eq:gk key p a=gk key p (a-1):=KeyOrd.kle_antisymm (show O.kle (gk key p a) (gk key p (a-1)) from l) (show O.kle (gk key p (a-1)) (gk key p a) from e)
    refine Xv hn f p (a+1) (q+1) P (by omega) (by omega) (H.more (by omega) (by rw[eq];exact KeyOrd.kle_refl _)) (λk x y=>?_) up
    show gk key p k=gk key p a;rcases lt_or_ge k a with c|c
    ·rw[eq];exact he k (by omega) c
    ·obtain rfl:k=a:=by omega
     rfl
def Lr {p:Array Nat}{a r:Nat}{Q:Nat×Array Nat->Prop}(hn:0<n)(P:yx n p)(h1:1<=a)(d:a<=r)(c:r<=n)(s:gr key p a)(h:∀m b,yx n b->1<=m->m<=r->wF key b m->Q (m,b)):TW n (kc key) (kas_tail3 a r p) Q:=by
 refine TW.bind _ (Se (P.rev _ _) hn _ _ h1 (λi j x y=>?_) λm x y H _=>h m _ (P.rev _ _) (by omega) (by omega) H)
 have z:a<=p.size:=by rw[P.size];omega
 rw[Ts z,Ts z,aj (by omega),aj (by omega)]
 exact s _ _ (by omega) (by omega)
def LD {p:Array Nat}{a r:Nat}{Q:Nat×Array Nat->Prop}(hn:0<n)(P:yx n p)(g:a+1<=r)(e:r<=n)(s:gr key p (a+1))(h:∀m b,yx n b->1<=m->m<=r->wF key b m->Q (m,b)):TW n (kc key) (kas_descPart a r p) Q:=by
 refine TW.bind _ (Xv hn _ _ _ _ P (by omega) (by omega) s (λk x y=>?_) λb m q d x y H f he=>?_)
 ·obtain rfl:k=a:=by omega
  rfl
 ·show TW n (kc key) (if q > 0 then kas_tail3 m r (kas_rev b (m-(q+1)) m) else kas_tail3 m r b) Q
  by_cases c:q > 0
  ·rw[aj c]
   exact Lr hn (d.rev _ _) (by omega) (by omega) e (H.same (Uq (by rw[d.size];omega) he)) h
  ·rw[ao c]
   exact Lr hn d (by omega) (by omega) e H h
def w_count {p:Array Nat}{r:Nat}{Q:Nat×Array Nat->Prop}(hn:0<n)(P:yx n p)(h1:1<=r)(f:r<=n)(h:∀m d,yx n d->1<=m->m<=r->wF key d m->Q (m,d)):TW n (kc key) (kas_count r p) Q:=by
 refine TW.bind _ (Se P hn _ _ (aq _) wF.one λm x y H ho=>?_)
 by_cases c:m=r
 ·rw[aj (by simp[c])]
  exact h m p P x (by omega) H
 ·rw[ao (by simp[c])]
  have lt:O.klt (gk key p m) (gk key p (m-1)):=ho.resolve_left (by omega)
  by_cases c2:m > 1
  ·rw[aj c2]
   refine⟨P.lt hn _,P.lt hn _,?_⟩;cases e:kc key (p.getD 0 0) (p.getD (m-1) 0) with
   |true=>exact h m p P x (by omega) H|false=>
    have all:∀k,0<=k->k<m->gk key p k=gk key p (m-1):=λk _ g=>
     KeyOrd.kle_antisymm (H k (m-1) (by omega) (by omega)) (KeyOrd.kle_trans (show O.kle (gk key p (m-1)) (gk key p 0) from e) (H 0 k (by omega) g))
    have sd:gr key p m:=λi j a b=>by
     rw[all i (by omega) (by omega),all j (by omega) b]
     exact KeyOrd.kle_refl _
    exact LD hn (P.rev _ _) (by omega) f ((sd.more x (KeyOrd.kle_of_klt lt)).same (Uq (by rw[P.size];omega) all)) h
  ·rw[ao c2]
   obtain rfl:m=1:=by omega
   have sd:gr key p 1:=λi j a b=>by
    obtain rfl:i=j:=by omega
    exact KeyOrd.kle_refl _
   exact LD hn P (by omega) f (sd.more x (KeyOrd.kle_of_klt lt)) h
theorem Tb {p:Array Nat}{k:Nat}(hn:0<n)(P:yx n p)(H:wF key p k):∀(f l r:Nat){Q:Nat->Prop},l<=r->r<=k->r-l<=f->(∀i,i<l->O.kle (gk key p i) (gk key p k))->(∀i,r<=i->i<k->O.klt (gk key p k) (gk key p i))->
  (∀m,m<=k->(∀i,i<m->O.kle (gk key p i) (gk key p k))->(∀i,m<=i->i<k->O.klt (gk key p k) (gk key p i))->Q m)->TW n (kc key) (kas_place p k f l r) Q
 |0,l,r,Q,h1,h2,g,lo,d,h=>h l (by omega) lo (λi a b=>d i (by omega) b)|f+1,l,r,Q,h1,h2,g,lo,d,h=>by
  show TW n (kc key) (if l ≥ r then _ else _) Q
  by_cases c:l ≥ r
  ·rw[aj c]
   exact h l (by omega) lo (λi a b=>d i (by omega) b)
  ·rw[ao c]
   refine⟨P.lt hn _,P.lt hn _,?_⟩;cases e:kc key (p.getD k 0) (p.getD ((l+r)/2) 0) with
   |true=>exact Tb hn P H f l ((l+r)/2) (by omega) (by omega) (by omega) lo (λi a b=>KeyOrd.klt_of_klt_of_kle e (H _ _ a b)) h|false=>exact Tb hn P H f ((l+r)/2+1) r (by omega) h2 (by omega) (λi a=>KeyOrd.kle_trans (H i ((l+r)/2) (by omega) (by omega)) e) d h
theorem Ii (hn:0<n):∀(f:Nat)(p:Array Nat)(k:Nat){Q:Array Nat->Prop},yx n p->k+f=n->wF key p k->(∀d,yx n d->wF key d n->Q d)->TW n (kc key) (kas_bin f p k) Q
 |0,p,k,Q,P,e,H,h=>h p P (by rw[<- e];exact H)|f+1,p,k,Q,P,e,H,h=>by
  refine TW.bind _ (Tb hn P H k 0 k (by omega) (by omega) (by omega) (λi a=>by omega) (λi a b=>by omega) λm hm lo l=>?_)
  refine Ii hn f _ (k+1) (P.bub _ _) (by omega) (λi j a b=>?_) h
  have z:k<p.size:=by rw[P.size];omega
  rw[Lk z (by omega),Lk z (by omega),show k-(k-m)=m by omega]
  by_cases ci:i=m
  ·rw[aj ci]
   by_cases c:j=m
   ·rw[aj c];exact KeyOrd.kle_refl _
   ·rw[ao c,aj (by omega)]
    exact KeyOrd.kle_of_klt (l _ (by omega) (by omega))
  ·rw[ao ci]
   by_cases c:j=m
   ·rw[aj c,ao (by omega)]
    exact lo i (by omega)
   ·rw[ao c]
    by_cases g:m<i/\i<=k
    ·rw[aj g,aj (by omega)]
     exact H _ _ (by omega) (by omega)
    ·rw[ao g]
     by_cases D:m<j/\j<=k
     ·rw[aj D]
      exact H _ _ (by omega) (by omega)
     ·rw[ao D]
      exact H _ _ a (by omega)
def lP {Q:Array Nat->Prop}(h2:2<=n)(h:∀p,yx n p->wF key p n->Q p):TW n (kc key) (kas_sort n) Q:=by
 refine TW.bind _ (w_count (by omega) ⟨Array.Perm.refl _⟩ (by omega) (aq _) λm p P h1 hm H=>?_)
 show TW n (kc key) (if m<n then _ else _) Q
 by_cases c:m<n
 ·rw[aj c]
  show TW n (kc key) (kas_bin (n-max m 1) p (max m 1)) Q;rw[show max m 1=m by omega]
  exact Ii (by omega) _ _ _ P (by omega) H h
 ·rw[ao c]
  obtain rfl:m=n:=by omega
  exact h p P H
end
open PySem.W (KasT kas_sort kas_ask kat_run kat_snds kat_kind kat_lt kat_cons kat_nil kat_yes kat_no kat_one KatLex KatGo KatTups)
noncomputable def ki  [DecidableEq α] (lt:α->α->Bool):List α->List α->Bool
 |[],[]=>false|[],_::_=>true|_::_,[]=>false|a::x,b::y=>if a=b then ki lt x y else lt a b
section
variable (O:KeyOrd)[DecidableEq O.α]
theorem Mf:∀x:List O.α,ki O.blt x x=false
 |[]=>rfl|a::x=>by unfold ki;rw[aj rfl];exact Mf x
theorem M4:∀x y z:List O.α,ki O.blt x y=true->ki O.blt y z=true->ki O.blt x z=true
 |[],[],_,h,_=>by cases h|[],_::_,[],_,h=>by cases h|[],_::_,_::_,_,_=>rfl|_::_,[],_,h,_=>by cases h|_::_,_::_,[],_,h=>by cases h|a::x,b::y,c::z,h1,h2=>by
  unfold ki at*
  by_cases d:a=b
  ·subst d
   rw[aj rfl]at h1
   by_cases E:a=c
   ·rw[aj E]at h2 ⊢
    exact M4 x y z h1 h2
   ·rw[ao E]at h2 ⊢
    exact h2
  ·rw[ao d]at h1
   by_cases E:b=c
   ·subst E
    rw[ao d];exact h1
   ·rw[ao E]at h2
    have H:=O.trans a b c h1 h2;rw[ao λe=>by rw[e,O.irrefl]at H;cases H]
    exact H
theorem M1:∀x y z:List O.α,ki O.blt x z=true->ki O.blt x y=true∨ki O.blt y z=true
 |[],[],_,h=>.inr h|[],_::_,_,_=>.inl rfl|_::_,_,[],h=>by cases h|_::_,[],_::_,_=>.inr rfl|a::x,b::y,c::z,h=>by
  unfold ki at*
  by_cases E:a=b
  ·subst E
   rw[aj rfl]
   by_cases e:a=c
   ·rw[aj e]at h ⊢
    exact M1 x y z h
   ·rw[ao e]at h ⊢
    exact .inr h
  ·rw[ao E]
   by_cases e:a=c
   ·subst e
    rw[ao (Ne.symm E)];cases l:O.blt a b with
    |true=>exact .inl rfl|false=>
     cases m:O.blt b a with
     |true=>exact .inr rfl|false=>exact absurd (O.total a b l m) E
   ·rw[ao e]at h
    by_cases d:b=c
    ·subst d
     exact .inl h
    ·rw[ao d]
     exact O.negTrans a b c h
theorem NH:∀x y:List O.α,ki O.blt x y=false->ki O.blt y x=false->x=y
 |[],[],_,_=>rfl|[],_::_,h,_=>by cases h|_::_,[],_,h=>by cases h|a::x,b::y,h1,h2=>by
  unfold ki at*
  by_cases e:a=b
  ·subst e
   rw[aj rfl]at h1 h2;rw[NH x y h1 h2]
  ·rw[ao e]at h1
   rw[ao (Ne.symm e)]at h2;exact absurd (O.total a b h1 h2) e
abbrev lQ:KeyOrd:=⟨List O.α,ki O.blt,Mf O,M4 O,M1 O,NH O⟩
end
noncomputable abbrev IO:KeyOrd:=⟨Int,λa b=>decide (a<b),λa=>by simp,λa b c h1 h2=>by simp only[ai]at*;omega,λa b c h=>by simp only[ai]at*;omega,λa b h1 h2=>by simp only[decide_eq_false_iff_not]at*;omega⟩
abbrev SR:List Int->List Int->Bool:=ki IO.blt
abbrev Ru:KeyOrd:=lQ IO
section
variable {O:KeyOrd}
noncomputable def YJ (x:O.α):List O.α->List O.α
 |[]=>[x]|y::l=>if O.blt y x then y::YJ x l else x::y::l
def ZN:List O.α->List O.α
 |[]=>[]|x::l=>YJ x (ZN l)
theorem UC (x:O.α):∀l,(YJ x l).Perm (x::l)
 |[]=>List.Perm.refl _|y::l=>by
  unfold YJ
  split
  ·exact((UC x l).cons y).trans (List.Perm.swap x y l)
  ·exact List.Perm.refl _
theorem Nf:∀l:List O.α,(ZN l).Perm l
 |[]=>List.Perm.refl _|x::l=>(UC x (ZN l)).trans ((Nf l).cons x)
theorem OG (x:O.α):∀{l:List O.α},l.Pairwise O.kle->(YJ x l).Pairwise O.kle
 |[],_=>List.pairwise_singleton _ _|y::l,h=>by
  unfold YJ;cases c:O.blt y x with
  |true=>
   rw[aj rfl];refine List.pairwise_cons.mpr ⟨λz H=>?_,OG x (List.pairwise_cons.mp h).2⟩;rcases cm.mp ((UC x l).mem_iff.mp H) with rfl|H
   ·exact KeyOrd.kle_of_klt c
   ·exact(List.pairwise_cons.mp h).1 z H
  |false=>
   rw[ao (by simp)]
   refine List.pairwise_cons.mpr ⟨λz H=>?_,h⟩;rcases cm.mp H with rfl|H
   ·exact c
   ·exact KeyOrd.kle_trans c ((List.pairwise_cons.mp h).1 z H)
theorem OK:∀l:List O.α,(ZN l).Pairwise O.kle
 |[]=>.nil|x::l=>OG x (OK l)
theorem Mr:∀{a b:List O.α},a.Perm b->a.Pairwise O.kle->b.Pairwise O.kle->a=b
 |[],b,p,_,_=>by rw[List.nil_perm.mp p]|x::a,[],p,_,_=>absurd p.length_eq (by simp)|x::a,y::b,p,H,h=>by
  have d:x∈y::b:=p.mem_iff.mp (aB ..);have c:y∈x::a:=p.mem_iff.mpr (aB ..);have e:x=y:=by
   rcases cm.mp d with e|e
   ·exact e
   ·rcases cm.mp c with E|E
    ·exact E.symm
    ·exact O.total _ _ ((List.pairwise_cons.mp h).1 x e) ((List.pairwise_cons.mp H).1 y E)
  subst e;rw[Mr (List.Perm.cons_inv p) (List.pairwise_cons.mp H).2 (List.pairwise_cons.mp h).2]
theorem CZ:∀{l:List O.α},l.length<2->l=ZN l
 |[],_=>rfl|[_],_=>rfl|_::_::_,h=>absurd h (by simp)
end
abbrev Yz:List (bK)->List (bK):=ZN (O:=Ru)
def Sl {d:α}(l:List α):((List.range l.length).map λi=>l.getD i d)=l:=by
 refine bD (by simp) λi a b=>?_
 simp at a;simp[a]
def lR (vs:bL):(vs.toArray.zip vs.toArray).map (·.2)=vs.toArray:=by
 apply Array.toList_inj.mp
 rw[Array.toList_map];simp only[Array.toList_zip,List.toList_toArray];exact List.map_snd_zip (aq _)
section
variable {prog:Program}{A:Around}
def lS {b:Bool}{x y:Int}{t u:Tok}{Q:Bool->Shared->Prop}(h:Q (decide (x<y)) s):wpAny (model prog w) A (oneLt' b (.int x t) (.int y u)) Q E s:=by
 cases b with
 |true=>exact oneLt_int h|false=>exact kat_one _ _ (wpAny_lt_int h)
theorem Ll {Q:Bool->Shared->Prop}{b:Bool}:∀{xs ys:bL}{as bs:bK}{i:Nat},IntsAre xs as->IntsAre ys bs->Q (SR as bs) s->KatLex prog w A b (decide (xs.length<ys.length)) Q (xs.zip ys) i s
 |_,_,_,_,_,.nil,.nil,h=>h|_,_,_,_,_,.nil,.cons _ _ _,h=>by
  refine kat_nil (s:=s) ?_;simpa[ki] using h
 |_,_,_,_,_,.cons _ _ _,.nil,h=>by
  refine kat_nil (s:=s) ?_;simpa[ki] using h
 |_,_,_,_,i,.cons (vs:=xs) a t d,.cons (vs:=ys) c u r,h=>by
  refine kat_cons (wpAny_eqBool_int ?_);unfold SR ki at h
  by_cases e:a=c
  ·subst e
   rw[aj rfl]at h;rw[bH];refine kat_yes ?_;show KatLex prog w A b (decide (xs.length+1<ys.length+1)) Q (xs.zip ys) (i+1) s;rw[show decide (xs.length+1<ys.length+1)=decide (xs.length<ys.length) by simp]
   exact Ll d r h
  ·rw[ao e]at h
   rw[show(a==c)=false by simp[e]]
   exact kat_no (lS h)
def JO (h:Heap)(v:Value)(k:bK):Prop:=∃(a:Addr) (o:Obj) (its:bL) (n:Nat),v=.ref a/\h.get? a=some o/\o.cls=.type "tuple" /\ o.data=.seq its.toArray n/\IntsAre its k
def JO.keep {v:Value}{k:bK}(t:JO h v k)(kp:∀b o,h.get? b=some o->h'.get? b=some o):JO h' v k:=by
 obtain⟨a,o,i,n,e,h1,h2,c,H⟩:=t;exact⟨a,o,i,n,e,kp _ _ h1,h2,c,H⟩
def lT {x y:Value}{k l:bK}{b:Bool}{Q:Bool->Shared->Prop}(f:JO s.heap x k)(e:JO s.heap y l)(h:Q (SR k l) s):wpAny (model prog w) A (keyLt' (tuples' b) x y) Q E s:=by
 obtain⟨a,o,I,n,rfl,h1,_,j,g⟩:=f;obtain⟨p,o',its',N,rfl,d,_,c,H⟩:=e;refine kat_lt h1 j d c ?_
 have:=Ll (prog:=prog) (w:=w) (A:=A) (b:=b) (i:=0) g H h
 simpa using this
inductive wz (h:Heap):List Value->List (bK)->Prop
 |nil:wz h [] []
 |cons {v:Value} {k:bK} {vs:bL} {ks:bJ} (t:JO h v k) (ne:k≠[]) (r:wz h vs ks):wz h (v::vs) (k::ks)
theorem wz.length:∀{vs:bL}{ks:bJ},wz h vs ks->vs.length=ks.length
 |_,_,.nil=>rfl|_,_,.cons _ _ r=>by simp[r.length]
theorem wz.keep (kp:∀b o,h.get? b=some o->h'.get? b=some o):∀{vs:bL}{ks:bJ},wz h vs ks->wz h' vs ks
 |_,_,.nil=>.nil|_,_,.cons t ne r=>.cons (t.keep kp) ne (r.keep kp)
theorem wz.at:∀{vs:bL}{ks:bJ}(i:Nat),wz h vs ks->i<ks.length->JO h (vs.getD i Value.none) (ks.getD i [])
 |_,_,_,.nil,H=>by simp at H|_,_,0,.cons t _ _,_=>t|_,_,i+1,.cons _ _ r,H=>r.at i (by simpa using H)
theorem wz.firsts:∀{vs:bL}{ks:bJ},wz h vs ks->∃fs:bL,KatTups h vs fs/\fs.length=vs.length/\∀v∈fs,∃i t,v=Value.int i t
 |_,_,.nil=>⟨[],trivial,rfl,λv H=>by cases H⟩|_,_,.cons (k:=k) ⟨a,o,its,n,e,h1,h2,c,b⟩ ne r=>by
  obtain⟨fs,t,l,hf⟩:=r.firsts;cases b with
  |nil=>exact absurd rfl ne|cons i T q=>
   refine⟨Value.int i T::fs,⟨⟨a,o,_,n,e,h1,h2,c,rfl⟩,t⟩,by simp[l],λv H=>?_⟩
   rcases cm.mp H with rfl|H
   ·exact⟨i,T,rfl⟩
   ·exact hf v H
section
variable {O:KeyOrd}{d0:O.α}
structure TU (prog:Program)(w:World)(A:Around)(κ:SortKind)(vs:bL)(ks:List O.α)(d0:O.α)(s:Shared):Prop where
 kind:2<=vs.length->∀{Q:SortKind->Shared->Prop}{E:bS},Q κ s->wpAny (model prog w) A (keyKind' vs.toArray) Q E s
 lt:∀i j,i<ks.length->j<ks.length->∀{Q:Bool->Shared->Prop}{E:bS},Q (O.blt (ks.getD i d0) (ks.getD j d0)) s->wpAny (model prog w) A (keyLt' κ (vs.getD i Value.none) (vs.getD j Value.none)) Q E s
def Cw {κ:SortKind}{vs:bL}{ks:List O.α}{P:PySem.Fin->Shared->Prop}(ho:s.heap.get? a=some (seqObj "list" vs.toArray n))(hl:vs.length=ks.length)(I:∀h':Heap,(∀b o,b≠a->s.heap.get? b=some o->h'.get? b=some o)->TU prog w A κ vs ks d0 { s with heap:=h' })(v:vs.length<64)
  (h:∀p:Array Nat,p.Perm (List.range ks.length).toArray->(p.toList.map λi=>ks.getD i d0)=ZN ks->P (.done (.ret .none)) { s with heap:=sortedHeap s.heap a vs (p.toList.map λi=>vs.getD i Value.none).toArray }):
  wpAny (model prog w) A (Builtin.«list.sort» ⟨[.ref a],[]⟩) P E s:=by
 have Z:a<s.heap.objs.size:=aL ho;obtain⟨x,f⟩:∃x,(s.heap.update a (Obj.mapSeq λ_=>(#[]:Array Value))).get? a=some (seqObj "list" #[] x):=⟨_,get?_update_seq ho λ_=>#[]⟩;have kp:∀b o,b≠a->s.heap.get? b=some o->(((s.heap.update a (Obj.mapSeq λ_=>(#[]:Array Value))).push (seqObj "tuple" vs.toArray 0)).push (seqObj "list" #[] 0)).get? b=some o:=λb o ne e=>
  af _ (af _ ((br _ _ (Ne.symm ne)).trans e))
 have T:=I _ kp;have H:=af (seqObj "list" #[] 0) (af (seqObj "tuple" vs.toArray 0) f);have d:vs.toArray.size=vs.length:=by simp
 rw[list_sort_plain];refine cf (listItems_at ho rfl ?_);refine cf (listUpdate_at ho rfl ?_ (by rw[d,sizeLine_eq];omega) (zero_le _))
 refine cf (seqEpoch_at f rfl ?_);refine cf (wpAny_newTuple ?_ (by show vs.length<=_;rw[sizeLine_eq];omega))
 refine cf (wpAny_newList ?_ (zero_le _));refine wpAny_holding ?_;show wpAny (model prog w) A _ P E { s with heap:=((s.heap.update a (Obj.mapSeq λ_=>(#[]:Array Value))).push (seqObj "tuple" vs.toArray 0)).push (seqObj "list" #[] 0) }
 dsimp only
 by_cases c:vs.toArray.size<2
 ·rw[aj c,aj c]
  refine cf (cg ?_);rw[StateT.run_pure];refine cf (cg ?_);dsimp only;have M:((vs.toArray.zip vs.toArray).map (·.2))=((List.range ks.length).toArray.toList.map λi=>vs.getD i Value.none).toArray:=by
   rw[<- hl,List.toList_toArray,Sl];exact lR vs
  refine cf (seqEpoch_at H rfl ?_);show wpAny _ _ (Builtin.List.listUpdate (.ref a) (λ_=>(vs.toArray.zip vs.toArray).map (·.2)) >>= _) _ _ _;rw[M];refine cf (listUpdate_at H rfl ?_ (zero_le _) (by rw[aw,ak];simp;rw[<- hl,sizeLine_eq];omega))
  simp only[bne_self_eq_false,false_eq_true,if_false];refine cg (h (List.range ks.length).toArray (Array.Perm.refl _) ?_);rw[List.toList_toArray,Sl];rw[d,hl]at c;exact CZ c
 ·rw[ao c,ao c]
  have h2:2<=vs.length:=by omega
  refine cf (T.kind h2 ?_);refine cf (wpAny_mono (kat_run (ks:=vs) (G:=λp s'=>s'={ s with heap:=((s.heap.update a (Obj.mapSeq λ_=>(#[]:Array Value))).push (seqObj "tuple" vs.toArray 0)).push (seqObj "list" #[] 0) }/\p.Perm (List.range ks.length).toArray/\(p.toList.map λi=>ks.getD i d0)=ZN ks)
   (Q:=λS s'=>∃p:Array Nat,p.size=vs.length/\arrOf S=p.map (PySem.W.kas_item (vs.toArray.zip vs.toArray))/\failedOf S=none/\s'={ s with heap:=((s.heap.update a (Obj.mapSeq λ_=>(#[]:Array Value))).push (seqObj "tuple" vs.toArray 0)).push (seqObj "list" #[] 0) }/\p.Perm (List.range ks.length).toArray/\(p.toList.map λi=>ks.getD i d0)=ZN ks)
   rfl h2 v (λp S s' a1 a2 Y X=>⟨p,a1,a2,Y,X⟩) ?_) ?_ λ_ _ e=>e)
  ·rw[hl]
   refine TW.wp (n:=ks.length) (c:=kc (O:=O) λi=>ks.getD i d0) (λi j C r l K=>?_) _ (lP (by omega) λp P B=>⟨rfl,P.pm,?_⟩)
   ·exact T.lt i j r l K
   ·refine Mr ?_ ?_ (OK ks)
    ·have h1:(p.toList.map λi=>ks.getD i d0).Perm ((List.range ks.length).map λi=>ks.getD i d0):=(Array.perm_iff_toList_perm.mp P.pm).map _
     rw[Sl]at h1;exact h1.trans (Nf ks).symm
    ·rw[List.pairwise_map,List.pairwise_iff_getElem]
     intro i j r l J;have z:p.size=ks.length:=P.size;have q:i<p.size:=by simpa using r
     have g:j<p.size:=by simpa using l
     have:=B i j (by omega) (by omega)
     unfold gk at this;have U:p.getD i 0=p.toList[i]:=by simp[Array.getD,q]
     have N:p.getD j 0=p.toList[j]:=by simp[Array.getD,g]
     rw[U,N]at this;exact this
  ·rintro⟨⟨⟩,S⟩ s' ⟨p,D,u,t,rfl,pm,L⟩
   dsimp only;rw[kat_snds rfl u];have y:(List.toArray (p.toList.map λi=>vs.getD i Value.none)).size=vs.length:=by rw[aw,ak,bt,D]
   refine cf (seqEpoch_at H rfl ?_);refine cf (listUpdate_at H rfl ?_ (zero_le _) (by rw[y,sizeLine_eq];omega))
   rw[t];simp only[bne_self_eq_false,false_eq_true,if_false];exact cg (h p pm L)
def AU {κ:SortKind}{l:Addr}{vs:bL}{ks:List O.α}(hl:s.heap.IsList l vs.toArray)(hlen:vs.length=ks.length)(T:∀(A':Around)(h':Heap)(t:Nat),A'.units<=A.units+8->(∀b o,s.heap.get? b=some o->h'.get? b=some o)->TU prog w A' κ vs ks d0 { s with heap:=h',toks:=t })(g:vs.length<64)
  (h:∀(h':Heap)(a:Addr)(p:Array Nat)(c:Nat),s.heap.objs.size<=a->p.Perm (List.range ks.length).toArray->(p.toList.map λi=>ks.getD i d0)=ZN ks->h'.get? a=some { cls:=.type "list",data:=.seq (p.toList.map λi=>vs.getD i Value.none).toArray c }->
   (∀b o,s.heap.get? b=some o->h'.get? b=some o)->Q (.ref a) { s with heap:=h' }):
  wpAny (model prog w) A (call (.builtin "sorted") [.ref l]) Q E s:=by
 refine Calls.call_function_entry kind_sorted plain_sorted entry_sorted (args_sorted1 _) ?_;unfold Builtin.«sorted»;refine cf (m:=checkCount "sorted" 1 1 _) (cg ?_);refine cf (collect_list hl ?_ (by rw[sizeLine_eq];omega))
 refine cf (wpAny_newList ?_ (by rw[sizeLine_eq];omega))
 have f:((s.heap.push (seqObj "list" #[] 0)).update s.heap.objs.size (Obj.mapSeq (·++vs.toArray))).objs.size=s.heap.objs.size+1:=by rw[Heap.size_update,size_push']
 show wpAny _ _ _ _ _ { s with heap:=((s.heap.push (seqObj "list" #[] 0)).update s.heap.objs.size (Obj.mapSeq (·++vs.toArray))).push (seqObj "list" vs.toArray 0) }
 have d:∀b o,s.heap.get? b=some o->((s.heap.push (seqObj "list" #[] 0)).update s.heap.objs.size (Obj.mapSeq (·++vs.toArray))).get? b=some o:=λb o e=>
  (br _ _ (ne_of_gt (aL e))).trans (af _ e)
 generalize (s.heap.push (seqObj "list" #[] 0)).update s.heap.objs.size (Obj.mapSeq (·++vs.toArray))=h1 at f d;have H:(h1.push (seqObj "list" vs.toArray 0)).get? h1.objs.size=some (seqObj "list" vs.toArray 0):=ay _ rfl;have K:∀b o,s.heap.get? b=some o->(h1.push (seqObj "list" vs.toArray 0)).get? b=some o:=λb o e=>af _ (d b o e);have nb:∀b o,s.heap.get? b=some o->b≠h1.objs.size:=λb o e z=>by
  subst z
  have:h1.objs.size<s.heap.objs.size:=aL e
  omega
 refine cf (wpAny_holding (wpAny_call_entry slot_list_sort ⟨_,H,rfl⟩ entry_list_sort (Cw (κ:=κ) (ks:=ks) (d0:=d0) H hlen (λh' kp=>T _ h' _ (by first|(show A.units+1<=A.units+8;omega)|(show A.units+1+1<=A.units+8;omega)) λb o e=>kp b o (nb b o e) (K b o e)) g λp pm j=>⟨_,rfl,?_⟩) (args_list_sort _)))
 refine cg ⟨_,rfl,?_⟩;have r:=get?_update_seq H (λ_=>(#[]:Array Value));have q:=af (seqObj "list" #[] 0) (af (seqObj "tuple" vs.toArray 0) r);obtain⟨c,n⟩:∃c,(sortedHeap (h1.push (seqObj "list" vs.toArray 0)) h1.objs.size vs (p.toList.map λi=>vs.getD i Value.none).toArray).get? h1.objs.size=some (seqObj "list" (p.toList.map λi=>vs.getD i Value.none).toArray c):=⟨_,get?_update_seq q (λ_=>(p.toList.map λi=>vs.getD i Value.none).toArray)⟩;refine h _ h1.objs.size p c (by omega) pm j n λb o e=>?_
 unfold sortedHeap;exact(br _ _ (Ne.symm (nb b o e))).trans (af _ (af _ ((br _ _ (Ne.symm (nb b o e))).trans (K b o e))))
end
def Br {vs:bL}{A:Around}(T:wz s.heap vs ks):TU (O:=Ru) prog w A (tuples' (Value.type "int" != Value.type "tuple")) vs ks [] s where
 kind:=λh2 Q E h=>by
  obtain⟨fs,t,fl,hf⟩:=T.firsts;exact kat_kind (T:=.type "int") t (by omega) (λv H=>by obtain⟨i,c,rfl⟩:=hf v H;exact PySem.W.Looks.of_pure rfl) rfl h
 lt:=λi j b a Q E h=>lT (T.at i b) (T.at j a) h
def DV {l:Addr}{vs:bL}(hl:s.heap.IsList l vs.toArray)(T:wz s.heap vs ks)(H:vs.length<64)
  (h:∀(h':Heap)(a:Addr)(p:Array Nat)(c:Nat),s.heap.objs.size<=a->p.Perm (List.range ks.length).toArray->(p.toList.map λi=>ks.getD i [])=Yz ks->h'.get? a=some { cls:=.type "list",data:=.seq (p.toList.map λi=>vs.getD i Value.none).toArray c }->
   (∀b o,s.heap.get? b=some o->h'.get? b=some o)->Q (.ref a) { s with heap:=h' }):
  wpAny (model prog w) A (call (.builtin "sorted") [.ref l]) Q E s:=
 AU (O:=Ru) (d0:=[]) hl T.length (λA h' t _ kp=>Br (s:={ s with heap:=h',toks:=t }) (T.keep kp)) H h
end
noncomputable def Je (k:bK):W:=.tup (k.map W.int)
def JC:List W->Option (bJ)
 |[]=>some []|.tup xs::ws=>match intsOf xs with
  |some k=>if k=[] then none else(JC ws).map (k::·)|none=>none
 |_::_=>none
theorem N8:∀{ws:List W}{ks:bJ},JC ws=some ks->ws=ks.map Je/\∀k∈ks,k≠[]
 |[],_,h=>by cases h;exact⟨rfl,λk a=>by cases a⟩|w::ws,ks,h=>by
  cases w with
  |tup xs=>
   unfold JC at h;cases E:intsOf xs with
   |none=>rw[E]at h;cases h|some k=>
    rw[E]at h;dsimp only at h
    by_cases c:k=[]
    ·rw[aj c]at h;cases h
    ·rw[ao c]at h
     cases e:JC ws with
     |none=>rw[e]at h;cases h|some ls=>
      rw[e]at h;cases h;obtain⟨a1,a2⟩:=N8 e;refine⟨by rw[aS,<- a1,GF E];rfl,λx H=>?_⟩
      rcases cm.mp H with rfl|H
      ·exact c
      ·exact a2 x H
  |_=>cases h
theorem Vals.sel (h:Vals ys us):∀(l:bP),(∀i∈l,i<ys.length)->Vals (l.map λi=>ys.getD i .non) (l.map λi=>us.getD i Value.none)
 |[],_=>.nil|i::l,hi=>by
  have hl:=h.length;have I:i<ys.length:=hi i (aB ..);obtain⟨u,E,e⟩:=h.get (i:=i) (x:=ys[i]) (ae I);refine .cons ?_ (Vals.sel h l λj H=>hi j (au _ H));show L2.RelV (ys.getD i V.non) (us.getD i Value.none);rw[aa,aa,E,ae I];exact e
theorem zI.sel {K:Frag}{f:List Int->W}:∀{ks:bJ}{ys:List V}(i:Nat),zI K φ H (ks.map f) ys->i<ks.length->RV K φ H (f (ks.getD i [])) (ys.getD i .non)
 |[],_,_,_,hi=>by simp at hi|k::ks,_,0,⟨v,r,e,h,t⟩,_=>by subst e;exact h|k::ks,_,i+1,⟨v,r,e,h,t⟩,hi=>by subst e;exact zI.sel i t (by simpa using hi)
theorem zI.sels {K:Frag}{f:List Int->W}(h:zI K φ H (ks.map f) ys):∀(l:bP),(∀i∈l,i<ks.length)->zI K φ H ((l.map λi=>ks.getD i []).map f) (l.map λi=>ys.getD i .non)
 |[],_=>rfl|i::l,hi=>⟨_,_,rfl,zI.sel i h (hi i (aB ..)),zI.sels h l λj a=>hi j (au _ a)⟩
section
variable {m:Ev}
theorem MD {σ:List (Option V)}(I:Inv X pins σ H s):∀{ks:bJ}{ys:List V}{i:bL},zI X.K φ H (ks.map Je) ys->(∀k∈ks,k≠[])->Vals ys i->wz s.heap i ks
 |[],_,_,e,_,b=>by
  have E:_=([]:List V):=e;subst E;rw[Vals.zero b];exact .nil
 |k::ks,_,_,⟨v,r,e,h,t⟩,ne,b=>by
  subst e;cases b with
  |cons c b=>
   obtain⟨a,vs,e,hT,d⟩:=h;subst e;have ev:=zI.ints.mp d;subst ev;obtain⟨i,g,⟨o,g1,g2,n,g3⟩,_⟩:=I.tuple hT;cases c;exact .cons ⟨a,o,i,n,rfl,g1,g2,g3,intsAre_of g⟩ (ne k (aB ..)) (MD I t (λk f=>ne k (au _ f)) b)
def DJ:yn X (.builtin "sorted") (λxs H Q=>∃(p:Addr) (ys:List V) (ks:bJ) (φ:bM),xs=[.ref p]/\je X.K H p ys/\zI X.K φ H (ks.map Je) ys/\(∀k∈ks,k≠[])/\ks.length<64/\
  ∀l zs,H l=none->zI X.K φ H ((Yz ks).map Je) zs->Q (.ref l) (upd H l (.lst zs))):=by
 intro pins s σ H xs us Q I r h;obtain⟨p,ys,ks,φ,rfl,j,d,ne,t,q⟩:=h;obtain⟨u,rfl,f⟩:=vals1 r;cases f;obtain⟨g,v,⟨o,k,z,x,B,w⟩,A⟩:=I.list j;have T:=MD I d ne v;have hl:=T.length;have y:ys.length=ks.length:=by rw[v.length];exact hl
 refine DV ⟨o,z,x,k,w⟩ T (by omega) λh' a p c e pm E n kp=>?_
 have lt:∀i∈p.toList,i<ks.length:=λi b=>by
  have:=(Array.perm_iff_toList_perm.mp pm).mem_iff.mp b
  simpa using this
 have P:p.toList.length=ks.length:=by rw[bt,pm.size_eq];simp
 have rz:=zI.sels d p.toList lt;rw[E]at rz;refine⟨.ref a,_,I.laid (t':=s.toks) (o:=.lst (p.toList.map λi=>ys.getD i .non)) kp e ⟨?_,_,c,Vals.sel v p.toList λi b=>by rw[y];exact lt i b,n⟩,rfl,q _ _ (I.hok.fresh e) rz⟩
 rw[ak,P,sizeLine_eq];omega
def Xu:W->Hx->R W:=λw A=>match w with
 |.ref n=>match A[n]? with
  |some (.lst ws)=>match JC ws with
   |some ks=>if ks.length<64 then .ok (.ref A.length) (A++[.lst ((Yz ks).map Je)]) else .bad|none=>.bad
  |_=>.bad
 |_=>.bad
def Xr (m:Ev):Ev:=λρ A=>(m ρ A).bind λw A1=>Xu w A1
variable {K:Frag}{a:Expr}
def lU (K:Frag):V->List V->Hp->VK->Prop:=λx vs H Q=>∃a xs y,x=.ref a/\vs=[y]/\je K H a xs/\wg y=true/\xs.all wg=true/\Q (.int (xs.countP λz=>gu z y)) H
def Bt:Y3 X "list.count" (lU X.K):=by
 intro pins s σ H x vs v us Q I b d h;obtain⟨a,xs,y,rfl,rfl,t,j,fx,q⟩:=h;cases b;obtain⟨u,rfl,e⟩:=d.one;obtain⟨i,r,⟨⟨cls,dd,data,sl⟩,n,ho,c,g,hd⟩,_⟩:=I.list t;simp only at c hd;subst c hd;refine call_meets F.slot_list_count ⟨_,ho,rfl⟩ F.entry_list_count (F.args_list_count_2 _ _) (SeqAt.list_countAt a i.toArray n dd sl u (kN y)) ⟨ho,λz f=>Js e j r fx z (by simpa using f),?_⟩
 refine⟨.int _,H,I.tok _,⟨_,rfl⟩,?_⟩;rw[<- Us r fx]at q;simpa using q
def QX:W->W->Hx->R W:=λx y A=>match x with
 |.ref n=>match A[n]? with
  |some (.lst ws)=>if yC y&&ws.all yC then .ok (.int (Q6 y ws 0)) A else .bad|_=>.bad
 |_=>.bad
def BD:∀x y A,jg (QX x y A):=λx y A=>by
 unfold QX
 split
 ·split
  ·exact ZI yc ju
  ·exact ju
 ·exact ju
end
open PySem.W (kas_kind)
section
open PySem.SeqAt
open PySem.AutoSeq1 (wpAny_loadPart')
open PySem.MeetsSeq PySem.MeetsSeq2 PySem.MeetsSeq3
end
def Ql (A:Hx):List W->Option (List (Nat×List W))
 |[]=>some []|.ref k::us=>match A[k]? with
  |some (.lst ws)=>if qO ws then(Ql A us).map ((k,ws)::·) else none|_=>none
 |_::_=>none
noncomputable def Zj (n m:Nat):O:=.lst ((List.range m).map λi=>W.ref (n+i))
def JH (f:Fn):Fn:=λus A=>if qO us then(match f us [] with
 |.ok (.ref n) A1=>(match A1[n]? with
  |some (.lst rs)=>(match Ql A1 rs with
   |some ps=>if (ps.map (·.1)).Nodup then .ok (.ref (A.length+ps.length)) (A++ps.map (λp=>O.lst p.2)++[Zj A.length ps.length]) else .bad|none=>.bad)
  |_=>.bad)
 |_=>.bad) else .bad
section
variable {K:Frag}{φ1:bM}{H1:Hp}
theorem N4:∀{us:List W}{ps:List (Nat×List W)},Ql A us=some ps->us=ps.map (λp=>W.ref p.1)/\∀p∈ps,A[p.1]? =some (.lst p.2)/\qO p.2=true
 |[],_,h=>by cases h;exact⟨rfl,λp H=>by cases H⟩|u::us,ps,h=>by
  cases u with
  |ref k=>
   unfold Ql at h;cases e:A[k]? with
   |none=>rw[e]at h;cases h|some o=>cases o with
    |lst ws=>
     rw[e]at h;dsimp only at h
     by_cases hn:qO ws=true
     ·rw[aj hn]at h
      cases E:Ql A us with
      |none=>rw[E]at h;cases h|some r=>
       rw[E]at h;cases h;obtain⟨a1,a2⟩:=N4 E;refine⟨by rw[a1];rfl,λp H=>?_⟩
       rcases cm.mp H with rfl|H
       ·exact⟨e,hn⟩
       ·exact a2 p H
     ·rw[ao hn]at h;cases h
    |_=>rw[e]at h;cases h
  |_=>cases h
theorem zQ.more (s:zQ K φ1 A1 H1):∀(ps:List (Nat×List W)){φ:bM}{A:Hx},(∀p∈ps,A1[p.1]? =some (.lst p.2)/\qO p.2=true)->(ps.map (·.1)).Nodup->zQ K φ A H1->
  (∀p∈ps,∀a,φ1[p.1]? =some a->∀(j:Nat)(q:O),φ[j]? =some a->A[j]? =some q->q.mut=false)->
  ∃as:bM,as.length=ps.length/\(∀i,i<ps.length->φ1[(ps.getD i (0,[])).1]? =as[i]?)/\zQ K (φ++as) (A++ps.map λp=>O.lst p.2) H1
 |[],φ,A,_,_,S,_=>⟨[],rfl,λi d=>absurd d (Nat.not_lt_zero _),by simpa using S⟩|p::ps,φ,A,c,nd,S,fr=>by
  obtain⟨h1,h2⟩:=c p (aB ..);obtain⟨a,f,r⟩:=s.ob _ _ h1;obtain⟨u,t,_⟩:=r.there rfl;rw[aS,List.nodup_cons]at nd;have w:=S.trackN t (λk q e E=>fr p (aB ..) a f k q e E) (o:=.lst p.2) (r.nrL h2);obtain⟨as,l,d,v⟩:=zQ.more s ps (λq H=>c q (au _ H)) nd.2 w (λq H b n j o e E=>by
   by_cases g:j < φ.length
   ·rw[ag g]at e
    rw[ag (by rw[<- S.len];exact g)]at E
    exact fr q (au _ H) b n j o e E
   ·have lt:=(ck.mp e).1
    rw[av,aW]at lt;obtain rfl:j=φ.length:=by omega
    rw[ar (aq _)]at e;simp at e;subst e
    have:=s.inj _ _ _ _ _ f n h1 (c q (au _ H)).1 rfl rfl
    exact absurd (cu.mpr ⟨q,H,this.symm⟩) nd.1)
  refine⟨a::as,by simp[l],λi h=>?_,by simpa using v⟩
  cases i with
  |zero=>exact f|succ i=>simpa using d i (by simpa using h)
def Le.news {as:bM}(l:Le K [] H φ1 H1)(h:∀a∈as,H a=none):Le K φ H (φ++as) H1 where
 ex:=λn a e=>by
  have:=(ck.mp e).1
  rw[ag this];exact e
 tp:=l.tp
 fr:=λa o e _=>l.fr a o e λn e=>by simp at e
 nw:=λn a e=>by
  by_cases hn:n < φ.length
  ·rw[ag hn]at e;exact .inl e
  ·rw[ar (by omega)]at e
   exact .inr (h a (bg e))
 st:=l.st
 fz:=l.fz
theorem M3 {m:Nat}:∀{ps:List (Nat×List W)}{as:bM}{vs:List V}{ψ:bM},as.length=ps.length->(∀i,i<ps.length->φ1[(ps.getD i (0,[])).1]? =as[i]?)->zI K φ1 H1 (ps.map λp=>W.ref p.1) vs->(∀i,i<as.length->ψ[m+i]? =as[i]?)->zI K ψ H1 ((List.range' m as.length).map λi=>W.ref i) vs
 |[],[],_,_,_,_,h,_=>h|[],_::_,_,_,l,_,_,_=>by cases l|_::_,[],_,_,l,_,_,_=>by cases l|p::ps,a::as,_,ψ,l,hi,⟨v,r,e,⟨b,c,E⟩,t⟩,H=>by
  subst e c;have h0:φ1[p.1]? =some a:=hi 0 (Nat.zero_lt_succ _);rw[h0]at E;cases E;refine⟨.ref a,r,rfl,⟨a,rfl,H 0 (Nat.zero_lt_succ _)⟩,?_⟩;exact M3 (m:=m+1) (by simpa using l) (λi h=>by simpa using hi (i+1) (by simpa using h)) t λi h=>by
   have:=H (i+1) (by simpa using h)
   rw[show m+(i+1)=m+1+i by omega]at this
   simpa using this
theorem zJ.JH {k:Nat}(F:zJ P w K mg base k x n f):zJ P w K mg base k x n (JH f):=by
 obtain⟨fa,fd,ps,F,a,b,c⟩:=F;refine⟨fa,fd,ps,F.imp λvs H Q E ⟨hl,φ,A,ws,S,r,q⟩=>?_,a,b,c⟩;unfold Mi.JH at q
 by_cases hn:qO ws=true
 ·rw[aj hn]at q
  refine⟨hl,[],[],ws,zQ.none,r.nrm (λ_ _ t=>t) (λ_ _ _ t=>t) hn,?_⟩;cases hf:f ws [] with
  |ok w A1=>
   rw[hf]at q;intro D H1 v X Z q1;cases w with
   |ref m=>
    dsimp only at q;cases hm:A1[m]? with
    |none=>rw[hm]at q;exact q.elim|some o=>cases o with
     |lst rs=>
      rw[hm]at q;dsimp only at q;cases hi:Ql A1 rs with
      |none=>rw[hi]at q;exact q.elim|some s=>
       rw[hi]at q;dsimp only at q
       by_cases nd:(s.map (·.1)).Nodup
       ·rw[aj nd]at q
        obtain⟨er,N⟩:=N4 hi;obtain⟨la,kk⟩:=X.apart (φ:=φ);have new:∀(j:Nat) b,D[j]? =some b->H b=none:=λj b e=>by
         rcases X.nw j b e with e|e
         ·simp at e
         ·exact e
        have old:∀b,H b=none->∀(j:Nat)(o:O),φ[j]? =some b->A[j]? =some o->o.mut=false:=λb h0 j o g B=>by
         cases hm:o.mut with
         |false=>rfl|true=>
          obtain⟨b',d,r⟩:=S.ob j o B;rw[g]at d;cases d;obtain⟨z,hz,_⟩:=r.there hm;rw[h0]at hz;cases hz
        obtain⟨as,u,L,S2⟩:=zQ.more Z s N nd (S.frame kk la) (λp I b eb j o g B=>old b (new _ b eb) j o g B);obtain⟨C,T,U,hv,rv⟩:=Z.ob m _ hm;obtain⟨a2,rfl,M⟩:=q1;rw[T]at M;cases M;rw[er]at rv;have J:∀b∈as,∃p∈s,D[p.1]? =some b:=λb l=>by
         obtain⟨i,h1,rfl⟩:=bb l;have h2:i<s.length:=by omega
         have:=L i h2
         rw[ae h1,aa,ae h2]at this;exact⟨s[i],aJ h2,this⟩
        have ho:OR K (φ++as++[C]) H1 C (Zj A.length s.length):=by
         refine⟨U,hv,?_⟩
         have:=M3 (K:=K) (H1:=H1) (m:=A.length) (ψ:=φ++as++[C]) u L rv λi h=>by
          rw[aN,ar (by rw[S.len];omega),S.len,ag (by omega)]
          congr 1
          omega
         rw[u]at this;rw[List.range'_eq_map_range,a3]at this;exact this
        have S3:=S2.trackN hv (λj o g B=>by
         by_cases hj:j < φ.length
         ·rw[ag hj]at g
          rw[ag (by rw[<- S.len];exact hj)]at B
          exact old _ (new _ _ T) j o g B
         ·rw[ar (by omega)]at g
          obtain⟨p,I,Y⟩:=J C (bg g);have hh:=Z.inj _ _ _ _ _ Y T (N p I).1 hm rfl rfl;have d:=(N p I).1;rw[hh,hm]at d;injection d with d
          injection d with d
          have nn:=(N p I).2;rw[<- d,er]at nn;cases s with
          |nil=>cases I|cons _ _=>cases nn) ho
        refine q (φ++as++[C]) H1 _ ?_ S3 ⟨C,rfl,?_⟩
        ·rw[aN]
         refine X.news λb l=>?_;rcases cx.mp l with l|l
         ·obtain⟨p,_,Y⟩:=J b l
          exact new _ b Y
         ·rw[cw.mp l];exact new _ _ T
        ·rw[<- u,<- S.len,<- av];simp
       ·rw[ao nd]at q;exact q.elim
     |_=>rw[hm]at q;exact q.elim
   |_=>exact q.elim
  |exc y A1=>rw[hf]at q;exact q.elim|bad=>rw[hf]at q;exact q.elim
 ·rw[ao hn]at q;exact q.elim
end
section
variable {m:Ev}{lo hi:Option Expr}{K:Frag}
def lV:W4 X (λx lo i H Q=>IP X.K x lo i H Q∨Ha X.K x lo i H Q):=by
 intro pins s σ H x v l u lo i sl Q I r a p pu h;rcases h with h|h
 ·exact lI pins s σ H x v l u lo i sl Q I r a p pu h
 ·exact eI pins s σ H x v l u lo i sl Q I r a p pu h
def Q3 (m:Ev)(p pu:Po):Ev:=λρ A=>(m ρ A).bind λw A1=>(p ρ A1).bind λl A2=>(pu ρ A2).bind λu a=>match w with
 |.tup ws=>.ok (.tup (ZP ws l u)) a|.ref n=>match a[n]? with
  |some (.lst ws)=>.ok (.ref a.length) (a++[.lst (ZP ws l u)])|_=>.bad
 |_=>.bad
def Il:=gY λi j=>.int (Builtin.bitAnd i j)
def IQ:=Zr (λ_ j=>decide (0<=j)) λi j=>.int (i/2 ^ j.toNat)
noncomputable def IJ (m:Ev):Ev:=λρ A=>(m ρ A).bind λw A1=>match w with
 |.int i=>.ok (.bl (i != 0)) A1|_=>.bad
end
def Nm (K:Frag)(x:Str):Prop:=∃f:Addr,nsIn K mainGlobals x=some (some (.ref f))
section
def Q1 (i:Nat)(x:Str)(f:Fn)(M:Ea):Ev:=λρ A=>match ρ[i]? with
 |some (some (.fn z))=>if z=x then zH f M ρ A else .bad|_=>.bad
end
def Jz (X:Cx):Prop:=∀pins σ H s,Inv X pins σ H s->∀(x:Str)(c:Addr),X.env.cells.lookup x=some c->c∉qR X.stack
def Tv (h:∀x,X.fn x=true):Jz X:=λpins σ H s I x c e=>k6 I h e
def BP {H:Hp}{s3:Shared}(S:gE X sc)(C:Jz X)(I:Inv X pins σ H s3):Jz (jT X N sc s3 H fp yr):=λp a h s' i x c e hm=>by
 rcases Yh I S (PySem.mem_of_lookup e) with ⟨_,z,_⟩|⟨_,z,_⟩
 ·exact C pins σ H s3 I x c z hm
 ·rcases cm.mp (I.stkSub c hm) with q|q
  ·exact absurd (I.lt) (Nat.not_lt.mpr (by rw[<- q];exact bz z))
  ·obtain⟨_,o,ho,_⟩:=I.ok.funs.mem q
   exact absurd (aL ho) (Nat.not_lt.mpr (a4 I.sz (bz z)))
def wN (n:Nat)(q:Str)(P:Addr)(idx:bP)(g:Fn):Ev:=λρ A=>match A[n]? with
 |some (.tab Q P')=>if Q=q/\P'=P then(match JM idx ρ with
  |some ws=>g ws A|none=>.bad) else .bad
 |_=>.bad
section
variable {t:Lm}{q:Str}
def N5 (I:Inv X pins σ H s)(C:Jz X)(hl:YI X.prog X.w X.K X.mg j q t)(x:WA X t):
  YO X.prog X.w X.K X.mg (ZL X.base s.heap X.env.cells) X.A X.stack s H/\∀k,Q2 X.prog X.w X.K X.mg (ZL X.base s.heap X.env.cells) (j+1) (WN X.env q [t] σ k) (wR [t] k):=by
 have kb:∀b o,X.base.get? b=some o->(ZL X.base s.heap X.env.cells).get? b=some o:=λb o e=>Cy I.bk e;have M:Mod X.K X.mg (ZL X.base s.heap X.env.cells):=by
  obtain⟨c,g,B⟩:=I.mod.blt;exact⟨I.mod.kin.keeps kb,I.mod.glob.keeps kb,⟨c,g.keeps kb,B⟩,I.mod.nolimit.keeps kb⟩
 have bs:∀b o,(ZL X.base s.heap X.env.cells).get? b=some o->s.heap.get? b=some o/\H b=none:=λb o e=>by
  obtain⟨f,E⟩:=Mb e;refine⟨f,?_⟩;rcases E with ⟨o',E⟩|⟨y,E⟩
  ·exact(I.bs b o' E).2
  ·exact I.freeC y b E
 refine⟨⟨I.ok.frames,M,bs,Nat.le_of_eq (hideAll_size _ _),frames_at I.stack λb a=>?_,I.stkFree,I.hok,I.bare⟩,
  λk=>k4 (all_cons hl all_nil) (λt' d vs h=>AE I (λy i v e ⟨o,ho,hd⟩=>⟨o,CU e ho,hd⟩) (all_cons (p:=WA X) x all_nil t' d) h) k⟩
 cases e:(ZL X.base s.heap X.env.cells).get? b with
 |none=>rfl|some o=>
  exfalso;rcases(Mb e).2 with ⟨o',E⟩|⟨y,E⟩
  ·have:=(I.stack.mem a).1
   rw[E]at this;cases this
  ·exact C pins σ H s I y b E a
end
def Hh (e:Expr):Expr:=match e with
 |.ListComp b _ _ _=>b|_=>Qk
section
variable {K:Frag}{st:Stmt}{f:Addr}{k:Nat}{m:Ex}
def Hl (F:kR K x x st f fd)(hn:nsIn K mainGlobals x=some (some (.ref f)))(t:tabIn K x=some (c,Pt))(S:qC N ps (zZ st))
  (h:∀(A:Around)(outer:b0)(s:Shared)(H:Hp)(E:XK),jO k (A.deeper (envOfC x (zZ st) s.heap.objs.size f (.ref c)))->JY (wj wc P w K mg base N x (zZ st) f (.ref c) A outer s H E).nox yJ (yW st) m):
  yG P w K mg base wc (k+1) f fd ps (Zo K ps.length (qt N.length m)):=
 (lb (q := "") (ls:=[]) (m:=λ_=>m) F hn t S h).imp λvs H Q E ⟨hl,φ,A,ws,S,r,q⟩=>⟨hl,φ,A,ws,S,r,λ_=>q⟩
end
def BK {K:Frag}{T:bZ}{k:Nat}{fa p:Addr}{sp:Sp}{S:Shared}{vs:bL}
  (KX:K.In S.heap)(A:S.heap.Ns mainGlobals mg)(c:S.heap.Ns builtinsNs T)(hbb:∀x:Str,x ≠ "__name__" -> T x=bootBuiltins x)(C:S.heap.NoLimit)(hg:S.gens=#[])
  (l:S.heap.get? a=some { cls:=.type "list",data:=.seq vs.toArray })(hi:IntsAre vs ns)(hl:ns.length<=sizeLine)(hr:jO k callerA)
  (t:S.heap.get? Pt=some (tabObj #[]))(hKP:K.lookup Pt=none)(hct:isCodeTable S.heap Pt)(i:S.heap.get? p=some (tabObj #[]))(hKU:K.lookup p=none)(hcu:isCodeTable S.heap p)(hbm:BMain mg S.heap)
  (F:∀base:Heap,K.In base->base.Ns mainGlobals mg->BMain mg base->yG P w K mg base wc k fa fd [x] sp)(y:∀(s:Shared)(u:Value),BindsTo s fd ⟨[u],[]⟩ [(x,u)])
  (X:∀H:Hp,H Pt=some (.tbl #[])->H p=some (.tbl #[])->Y0 K H a (ns.map V.int)->sp [.ref a] H (λv _=>v=.bl true) λ_ _ _=>False):
  codeAny (model P w) callerA (.call (.ref fa) ⟨[.ref a],[]⟩) (λr s'=>r=.ok (.ret (.bool true))/\OldK S.heap s'.heap/\s'.os=S.os/\AllBare s'.gens) S:=by
 have rv:=O8 hi;have L:=hi.length;have Q:a≠Pt:=λz=>by rw[z,t]at l;cases l
 have U:a≠p:=λz=>by rw[z,i]at l;cases l
 have core:∀H:Hp,H Pt=some (.tbl #[])->H p=some (.tbl #[])->Y0 K H a (ns.map V.int)->jy P w H S.heap->(∀b,H b≠none->b=a∨b=Pt∨b=p)->(∀u,H a=some u->K.lookup a=none/\∃o xs,u=.frz o (.lst xs))->
   codeAny (model P w) callerA (.call (.ref fa) ⟨[.ref a],[]⟩) (λr s'=>r=.ok (.ret (.bool true))/\OldK S.heap s'.heap/\s'.os=S.os/\AllBare s'.gens) S:=by
  intro H hO hU hS hok I hK;have base_of:∀{b:Addr}{o:Obj},S.heap.get? b=some o->H b=none->(ZT S.heap H).get? b=some o:=λe n=>cF e n;have M:∀{b:Addr}{o:Obj}{es:Array DictEntry}{E:Nat},S.heap.get? b=some o->o.data=.dict es E->H b=none:=λ {b o es E} e d=>by
   cases q:H b with
   |none=>rfl|some u=>
    rcases I b (by rw[q];simp) with z|z|z
    ·subst z
     rw[l]at e;cases e;have d':Data.seq vs.toArray _=Data.dict es E:=d;cases d'
    ·subst z
     rw[t]at e;cases e;cases d
    ·subst z
     rw[i]at e;cases e;cases d
  have N:∀{b:Addr}{m:bZ},S.heap.Ns b m->(ZT S.heap H).Ns b m:=λ {b m} ⟨o,es,E,e,d,r⟩=>⟨o,es,E,base_of e (M e d),d,r⟩;have D:K.In (ZT S.heap H):=λb o e=>base_of (KX b o e) (by
   cases q:H b with
   |none=>rfl|some u=>
    rcases I b (by rw[q];simp) with z|z|z
    ·subst z
     rw[(hK u q).1]at e;cases e
    ·subst z
     rw[hKP]at e;cases e
    ·subst z
     rw[hKU]at e;cases e)
  have hBb:BMain mg (ZT S.heap H):=by
   obtain⟨bm,o,b1,b2,b3,B,J,b6,b7⟩:=hbm;refine⟨bm,o,b1,b2,b3,base_of B ?_,J,b6,b7⟩;cases q:H bm with
   |none=>rfl|some u=>
    rcases I bm (by rw[q];simp) with z|z|z
    ·subst z
     rw[l]at B;cases B;exact absurd J (by intro q;injection q with q;exact absurd q (by decide))
    ·subst z
     rw[t]at B;cases B;cases J
    ·subst z
     rw[i]at B;cases B;cases J
  have hM:Mod K mg (ZT S.heap H):=⟨D,N A,⟨T,N c,hbb⟩,let ⟨mc,h1,h2⟩:=C;⟨mc,N h1,h2⟩⟩
  have e0:YO P w K mg (ZT S.heap H) callerA [] S H:=⟨rfl,hM,λb o e=>cG e,Nat.le_of_eq (Ai _ _),trivial,λb c=>absurd (show b∈([]:bM) from c) (by simp),hok,.of_eq hg⟩
  refine codeAny_mono ((F _ D (N A) hBb).run callerA [] S H ⟨[.ref a],[]⟩ [.ref a] [.ref a] _ _ hr e0 (y S (.ref a)) (.cons rfl .nil) (X H hO hU hS)) λr s' h=>?_;cases r with
  |error e=>exact False.elim h|ok fl=>
   cases fl with
   |next=>exact False.elim h|brk=>exact False.elim h|cont=>exact False.elim h|ret u=>
    obtain⟨v,H',os,bare,un,g,r',q⟩:=h;have q':v=.bl true:=q;subst q';obtain rfl:u=Value.bool true:=r';refine⟨rfl,⟨λb o e=>?_,λb o e=>un.there b o e (by simp)⟩,os,bare⟩
    cases q:H b with
    |none=>exact .inl (un.keep b o e q (by intro z;exact absurd (show b∈([]:bM) from z) (by simp)) (by simp))|some u=>
     rcases I b (by rw[q];simp) with z|z|z
     ·subst z
      obtain⟨ob,xs,rfl⟩:=(hK u q).2;have j:=un.frzs _ ob _ q;obtain⟨e1,_⟩:=hok _ _ q;obtain⟨e2,_⟩:=g _ _ j;rw[e]at e1;cases e1;exact .inl e2
     ·subst z
      rw[t]at e;cases e;obtain⟨more,j⟩:=un.tbls _ _ hO;exact .inr (.inl ⟨hct,rfl,#[],more,rfl,g _ _ j⟩)
     ·subst z
      rw[i]at e;cases e;obtain⟨more,j⟩:=un.tbls _ _ hU;exact .inr (.inl ⟨hcu,rfl,#[],more,rfl,g _ _ j⟩)
 have two:∀b,(b=Pt∨b=p)->S.heap.get? b=some (tabObj #[]):=λb h=>by
  rcases h with h|h<;>rw[h]
  ·exact t
  ·exact i
 have na:¬(a=Pt∨a=p):=λh=>h.elim Q U;cases Y:K.lookup a with
 |some o=>
  have e:=KX a o Y;rw[l]at e;cases e;refine core (λb=>if b=Pt∨b=p then some (.tbl #[]) else none) (aj (.inl rfl)) (aj (.inr rfl)) (.inr ⟨_,vs.toArray,_,Y,rfl,rfl,rfl,by rw[aw,L];exact hl,by simpa using rv⟩) (λb u z=>?_) (λb z=>?_) λu z=>?_
  ·by_cases c:b=Pt∨b=p
   ·have Z:=(aj c).symm.trans z
    cases Z;exact two b c
   ·have Z:=(ao c).symm.trans z
    cases Z
  ·by_cases c:b=Pt∨b=p
   ·exact .inr c
   ·exact absurd (ao c) z
  ·have Z:=(ao na).symm.trans z
   cases Z
 |none=>
  refine core (λb=>if b=Pt∨b=p then some (.tbl #[]) else if b=a then some (.frz { cls:=.type "list",data:=.seq vs.toArray } (.lst (ns.map V.int))) else none) (aj (.inl rfl)) (aj (.inr rfl))
   (.inl ⟨{ cls:=.type "list",data:=.seq vs.toArray },(ao na).trans (aj rfl)⟩) (λb u z=>?_) (λb z=>?_) λu z=>?_
  ·by_cases c:b=Pt∨b=p
   ·have Z:=(aj c).symm.trans z
    cases Z;exact two b c
   ·have Z:=(ao c).symm.trans z
    by_cases f:b=a
    ·have j:=(aj f).symm.trans Z
     cases j;subst f;exact⟨l,by rw[ak];exact hl,vs,_,rv,l⟩
    ·have j:=(ao f).symm.trans Z
     cases j
  ·by_cases c:b=Pt∨b=p
   ·exact .inr c
   ·by_cases f:b=a
    ·exact .inl f
    ·exact absurd ((ao c).trans (ao f)) z
  ·have Z:=((ao na).trans (aj rfl)).symm.trans z
   cases Z;exact⟨Y,_,_,rfl⟩
def Lz (q r:Str)(fs:Addr->Addr->Fn):Prop:=∀ns:bK,ns.length<=63->∀p P,∃A,fs p P [.ref 0] [.ro (ns.map W.int),.tab q p,.tab r P]=.ok (.bl true) A
def CH {K:Frag}{P:Addr}{q r:Str}(ne:Pt≠P)(f:H Pt=some (.tbl #[]))(U:H P=some (.tbl #[]))(S:Y0 K H a (ns.map V.int)):zQ K [a,Pt,P] [.ro (ns.map W.int),.tab q Pt,.tab r P] H:=by
 refine⟨rfl,λi j b o o' h1 h2 d c m1 m2=>?_,λn o h=>?_⟩
 ·match i,j,h1,h2,d,c with
  |0,_,_,_,d,_=>simp at d;subst d;cases m1|_,0,_,_,_,c=>simp at c;subst c;cases m2|1,1,_,_,_,_=>rfl|2,2,_,_,_,_=>rfl|1,2,h1,h2,_,_=>simp at h1 h2;exact absurd (h1.trans h2.symm) ne|2,1,h1,h2,_,_=>simp at h1 h2;exact absurd (h2.trans h1.symm) ne|i+3,_,_,_,d,_=>simp at d|_,j+3,_,_,_,c=>simp at c
 ·match n,h with
  |0,h=>simp at h;subst h;exact⟨a,rfl,ns.map V.int,S,zI.ints.mpr rfl⟩|1,h=>simp at h;subst h;exact⟨Pt,rfl,rfl,#[],f,trivial,λpos cv e=>nomatch e⟩
  |2,h=>simp at h;subst h;exact⟨P,rfl,rfl,#[],U,trivial,λpos cv e=>nomatch e⟩
  |n+3,h=>simp at h
def zeY {y:Str}{l:PySem.W.OpenLaw}{k:Nat}{q:Program}{loose:bR}{N:World->Heap->Prop}{d:DefRec}{Kp:Params->Frag}{Z X:Str}{fs:Addr->Addr->Fn}{P:Addr}(ok:Lz Z X fs)
  (hn:l.most=some 63)(C:d.params.defaults=[])(hr:jO k callerA)(ne:Pt≠P)(hY:∀(w:World)(h:Heap),N w h->(Kp w.params).In h)(hT:∀(w:World)(h:Heap),N w h->h.get? Pt=some (tabObj #[])/\h.get? P=some (tabObj #[]))
  (ht:∀p,Xq (Kp p) d.name Pt=true)(J:∀p,(Kp p).lookup Pt=none)(hu:∀p,Xq (Kp p) y P=true)(U:∀p,(Kp p).lookup P=none)
  (F:∀(w:World)(mg:bZ)(t:Addr)(h:Heap),(Kp w.params).In h->h.Ns mainGlobals mg->mg d.name=some (.ref t)->(∃c,tabIn (Kp w.params) d.name=some (c,Pt)/\codeHdIn (Kp w.params) c Pt=true)->(∃c,tabIn (Kp w.params) y=some (c,P)/\codeHdIn (Kp w.params) c P=true)->
   ∃fd:FuncData,(∀(s:Shared)(u:Value),BindsTo s fd ⟨[u],[]⟩ [(x,u)])/\∀base:Heap,(Kp w.params).In base->base.Ns mainGlobals mg->BMain mg base->yG l.prog w (Kp w.params) mg base wc k t fd [x] (Zo (Kp w.params) 1 (fs Pt P))):
  PySem.W.WalkO q loose XP N l.row.toRowW d [] (λf vs=>PySem.call f vs):=by
 refine Att.Cr (n:=63) hn C λw Q S mg mb t o pm cd doc a vs ns G Y ho hd hcd' B j hints hlen hg=>?_;have K:=hY w _ Y;obtain⟨fd,hb,hF⟩:=F w mg t _ K G.T.g B (GG (ht w.params)) (GG (hu w.params));obtain⟨c,_,D⟩:=GG (ht w.params);obtain⟨c2,_,i⟩:=GG (hu w.params);obtain⟨hP,hU⟩:=hT w _ Y;have hc:isCodeTable S.heap Pt:=((codeHd_of_K K D).tab hP).isCodeTable;have E:isCodeTable S.heap P:=((codeHd_of_K K i).tab hU).isCodeTable;have I:BMain mg S.heap:=by
  obtain⟨bm,ob,b1,b2,M,b4,b5,L⟩:=G.T.bmain;refine⟨bm,ob,b1,b2,λz=>?_,M,b4,b5,L⟩;obtain⟨o,es,ep,e,hd,_⟩:=G.T.g;rw[z,e]at M;cases M;rw[hd]at L;cases L
 refine BK K G.T.g G.T.b G.T.builtins G.T.nolimit hg j hints (a4 hlen (by decide)) hr hP (J w.params) hc hU (U w.params) E I hF hb λH h1 h2 h3=>?_
 refine⟨rfl,[a,Pt,P],[.ro (ns.map W.int),.tab Z Pt,.tab X P],[.ref 0],CH ne h1 h2 h3,.one ⟨a,rfl,rfl⟩,?_⟩;obtain⟨A,e⟩:=ok ns hlen Pt P;rw[e];exactλφ' H' v _ _ r=>r
def lW (xs:Array Value):slicePick xs none none (some (-1))=xs.toList.reverse.toArray:=by
 unfold slicePick;have E:sliceBounds none none (some (-1)) xs.size=((xs.size:Int)-1,-1,-1):=rfl;rw[E];have e:sliceRange ((xs.size:Int)-1) (-1) (-1)=(List.range xs.size).map λ(k:Nat)=>(((xs.size:Int)-1)+(k:Int) * (-1)).toNat:=by
  unfold sliceRange;dsimp only;rw[ao (by decide)]
  by_cases h:xs.size=0
  ·rw[h,ao (by decide)];rfl
  ·rw[aj (by omega)]
   have:(((xs.size:Int)-1 - -1 - -1-1)/(- -1)).toNat=xs.size:=by
    rw[Int.neg_neg,ediv_one];omega
   rw[this];refine aX λk _=>?_;rw[Int.mul_comm]
 rw[e,List.filterMap_map];exact AK xs
section
variable {st:Expr}{m ms:Ev}{te:TE}{ts:TO}{p2:Pos}{K:Frag}
def lX (K:Frag):V->Hp->VK->Prop:=λx H Q=>∃a xs,x=.ref a/\je K H a xs/\∀p,H p=none->Q (.ref p) (upd H p (.lst xs.reverse))
def lY (he:PE X e te)(p:PO X (some st) ts):PE X (.Subscript e (.Slice none none (some st) p2) pos) (λσ H Q=>te σ H λx H1=>ts σ H1 λo D=>o=some (-1)/\lX X.K x D Q):=by
 intro pins s σ H Q I h;refine Subscript_ (zY (he pins s σ H _ I h) λv s1 ⟨x,H1,B,g,l⟩=>?_);refine wpAny_Slice ?_;rw[evalPart_none];refine cg (cg ?_);refine zY (p pins s1 σ H1 _ B l) λvs s3 ⟨o,C,y,po,j⟩=>?_;obtain⟨rfl,a,xs,rfl,n,q⟩:=j;cases g;cases po with
 |int i t=>
  have d:Inv X pins σ C { s3 with heap:=s3.heap.push { cls:=.type "slice",data:=.fields #[.none,.none,.int (-1) t] } }:=y.kept (t':=s3.toks) λb ob q=>af _ q
  obtain⟨c,r,f,z⟩:=d.list n;have hlen:=r.length;have u:wpAny (model X.prog X.w) X.A (getItem (.ref a) (.ref s3.heap.objs.size)) (EP X pins σ Q) X.xe { s3 with heap:=s3.heap.push { cls:=.type "slice",data:=.fields #[.none,.none,.int (-1) t] } }:=by
   refine wpAny_getItem_list_slice f.isList (Heap.IsSliceOf.new ..) .none .none (.int (-1) t) (by simp) ?_ (by rw[aw]<;>omega)
   rw[lW];refine⟨.ref _,_,d.laid (t':=s3.toks) (o:=.lst xs.reverse) (λb ob q=>af _ q) (aq _) ?_,rfl,q _ (d.hok.fresh (aq _))⟩;exact⟨by rw[List.length_reverse];exact z,c.reverse,0,D2 r,ay _ rfl⟩
  show wpAny (model X.prog X.w) X.A (subscriptTail e (.Slice none none (some st) p2) (.ref a) (.ref s3.heap.objs.size)) (EP X pins σ Q) X.xe _;exact tail_any (ops:=[.ref a,.ref s3.heap.objs.size]) f.isList.typeIs slot_list_getitem.lookup u (by with_unfolding_all rfl)
def XD (m ms:Ev):Ev:=λρ A=>(m ρ A).bind λw A1=>(Zk ms ρ A1).bind λo A2=>match w with
 |.ref n=>match A2[n]? with
  |some (.lst ws)=>if o=some (-1) then .ok (.ref A2.length) (A2++[.lst ws.reverse]) else .bad|_=>.bad
 |_=>.bad
end
@[irreducible] noncomputable def Vp (X:Cx)(x:XR)(e:bU)(ms:List Ev):Prop:=Mi.SJ X x e ms
def Li:@Vp=@Mi.SJ:=by
 funext X xr es ms
 unfold Vp
 rfl
section
def ka:@zC=@Mi.SE/\@wZ=@Mi.SA/\@yy=@Mi.ST/\@gX=@Mi.SW/\@kj=@Mi.SS/\@kI=@Mi.JY/\@kL=@Mi.SI/\@wD=@Mi.SG/\@ZU=@Mi.SF/\@w8=@Mi.SQ/\@gL=@Mi.WV/\@gw=@Mi.SM/\@Vp=@Mi.SJ:=⟨Xo,TV,TK,TC,To,UY,Tu,Tw,TJ,Tn,U0,TQ,Li⟩
def KD {g:Heap}{k:Nat}(o:gK X g xr)(F:yj X.prog X.w X.K X.mg X.base k x n f)(r:jO k X.A)(t:wZ X xr (e::es) mr)(hl:ZR mr n:=by repeat' (first|exact zO|refine zD ?_))(j:Gl X x:=by rfl)
  (c:(x==("__debug__":Str))=false:=by decide)(he:starEach (e::es) X.env=(false,eval e X.env)::starEach es X.env:=by rfl)(l:(backTo pos (starEach es X.env)).any (·.1)=false:=by rfl):
  zC X xr (.Call (.Name x p) (e::es) [] pos) (zH f mr):=by
 try simp only[ka]at*
 obtain⟨J,fd,ps,F,hm,i,s⟩:=F;refine PE.imp (Ms F r j hm i s .nil o.passes t c he l) λσ H Q ⟨φ,A,ρ,S,re,h⟩=>?_;have h':=qe.mp h;refine⟨φ,A,ρ,S,re,?_⟩;cases E:mr ρ A with
 |ok ws A1=>
  rw[E]at h';intro b H1 vs L B q;have v:vs.length=n:=by rw[<- q.length];exact hl ρ A ws A1 E
  rw[a7];refine⟨v,b,A1,ws,B,q,qJ h' (λ_ _ z=>z.mono L) λy A2 z a D d u I C=>?_⟩;exact⟨y,I,rfl,C,z a D (L.trans d) u⟩
 |exc y A1=>rw[E]at h';exact h'|bad=>rw[E]at h';exact h'
def MY {m:Ev}(h:yy X.nox yJ e m):yy X xr e λρ A=>(m ρ A).nox:=by
 try simp only[ka]at*
 refine PT.imp (PT.nox h) λσ H Q ⟨φ,A,ρ,S,re,q⟩=>⟨φ,A,ρ,S,re,?_⟩;cases E:m ρ A with
 |ok w A1=>(try dsimp only at q);rw[E]at q;exact q|exc y A1=>(try dsimp only at q);rw[E]at q;exact q.elim|bad=>(try dsimp only at q);rw[E]at q;exact q.elim
def NJ {m1:Ex}{s:cc}(h:kI X.nox yJ s m1):kI X xr s λρ A=>(m1 ρ A).nox:=by
 try simp only[ka]at*
 refine yM.imp (yM.nox h) λD σ H ⟨φ,A,ρ,S,re,q⟩=>⟨φ,A,ρ,S,re,?_⟩;cases e:m1 ρ A with
 |ok w A1=>(try dsimp only at q);rw[e]at q;exact q|exc y A1=>(try dsimp only at q);rw[e]at q;exact q.elim|bad=>(try dsimp only at q);rw[e]at q;exact q.elim
def Uu {g:Heap}{top:Str}{np:Pos}(o:gK X g xr)(c:UM X.K top x)(d:wZ X xr (e::es) mr)(hl:ZR mr n:=by repeat' (first|exact zO|refine zD ?_))(hn:n<=sizeLine:=by decide)(a:Gl X x:=by rfl)(h:X.calm=true:=by rfl)
  (b:(x==("__debug__":Str))=false:=by decide)(he:starEach (e::es) X.env=(false,eval e X.env)::starEach es X.env:=by rfl)(H:(backTo cpos (starEach es X.env)).any (·.1)=false:=by rfl):
  kj X xr (.Raise (some (.Call (.Name x np) (e::es) [] cpos)) none pos) (Wj x mr):=by
 try simp only[ka]at*
 exact i0 o c.at_ c.exc PySem.F.excBase_ValueError d hl hn a h b he H
def WG {K:Frag}{st:Stmt}{f:Addr}{k:Nat}{m:Ex}(F:kR K x x st f fd)(hm:mg x=some (.ref f))(S:qC N ps (zZ st))
  (j:∀(kV doc pm:Value)(an:cb)(c ct:Value)(us:bL),us.length=ps.length->bindArgs (fnOf x x (Qc st) (yW st) (zZ st) .none kV doc pm an c ct) ⟨us,[]⟩=pure (ps.zip us))
  (a:∀(c:Value)(A:Around)(outer:b0)(s:Shared)(H:Hp)(E:XK),jO k (A.deeper (envOfC x (zZ st) s.heap.objs.size f c))->
   gK (wj (g7 P w) P w K mg base N x (zZ st) f c A outer s H E) s.heap (Zp K E)->kI (wj (g7 P w) P w K mg base N x (zZ st) f c A outer s H E) (Zp K E) (yW st) m):
  yj P w K mg base (k+1) x ps.length (kK N.length m):=by
 try simp only[ka]at*
 refine⟨f,fd,ps,?_,hm,F.kp,F.binds j⟩;obtain⟨u,t,kV,doc,pm,an,c,ct,o,rfl,lk,d⟩:=F.ex;refine Sf lk d S (λvs H Q E h=>h.len) λA outer s H vs Q E i ⟨hl,φ,A1,ws,n,r,h⟩=>⟨_,a c A outer s H E i iX,?_⟩;refine⟨φ,A1,ws.map some++List.replicate (N.length-ws.length) none,n,RE.start r,?_⟩;have h':=qe.mp h;show R.post _ (FB K φ H _) _;cases e:m (ws.map some++List.replicate (N.length-ws.length) none) A1 with
 |ok fl A2=>
  rw[e]at h';cases fl with
  |rt w=>exact h'|nx ρ=>exactλb q g l p _=>h' b q .non l p rfl|bk ρ=>exact h'.elim|ct ρ=>exact h'.elim
 |exc y A2=>rw[e]at h';exact h'|bad=>rw[e]at h';exact h'.elim
def lZ {L:Addr}{l:Nat}{n:Str}{y:Str}{Z:Str}{cs:bR}{PG:Nat->Obj->Addr->Obj->List V->Prop}{lam:Nat->Fn}{U:bL}{newD:String}{np:Pos}{cp:Pos}{ep:Pos}{dp:Pos}{yp:Pos}{J:Pos}{ap:Pos}{hp:Pos}(hL:∀k,Q2 X.prog X.w X.K X.mg X.base kk (PG k) (lam k))(hr:jO kk X.A)(hst:X.stack=X.env::X.outer)(hFr:X.env.frame=some L)(hD:kg X.K Z (.ref D))(exD:Mi.Zg X.K D U newD=true)(hbD:U.contains (.type "BaseException")=true)
  (hcs:∀c,cs.contains c=true->∀C,kg X.K c (.ref C)->∃B f,Mi.Zg X.K C B f=true/\JN X.K C D=true)
  (hN:X.N.Nodup)(hi:X.N[i]? =some x)(hx:X.env.scope.names.lookup x=some .local)(hl:X.N[l]? =some n)(hn:X.env.scope.names.lookup n=some .local)(hj:X.N[j]? =some y)(hy:X.env.scope.names.lookup y=some .local)
  (hg:Gl X Z)(hs1:swapsWith (.Call (.Name x np) [] [] cp) none ep.line X.env=pure false:=by rfl)(hs2:swapsWith (.Name n J) (some (.Name y yp)) ap.line X.env=pure false:=by rfl)
  (hdx:(x==("__debug__":Str))=false:=by decide)(hdn:(n==("__debug__":Str))=false:=by decide)(hdD:(Z==("__debug__":Str))=false:=by decide):
  kj X xr (.Try [.Expr (.Call (.Name x np) [] [] cp) ep] [.ExceptHandler (some (.Name Z dp)) (some n) [.Assign [.Name y yp] (.Name n J) ap] hp] [] [] pos) (WD i j l cs PG lam):=by
 try simp only[ka]at*
 intro pins s σ H D0 I ⟨φ,A,ρ,S,re,h⟩;unfold WD XU at h;cases ei:ρ[i]? with
 |none=>rw[ei]at h;exact h.elim|some ow=>
  cases ow with
  |none=>rw[ei]at h;exact h.elim|some w=>
   rw[ei]at h;cases w with
   |clo k ws P=>
    dsimp only at h
    by_cases hP:P=PG k
    ·rw[aj hP]at h
     subst hP;obtain⟨v,hv,a,ob,u,c,oc,uc,vs,rfl,h1,h2,hp',rvs⟩:=re.get i _ ei;obtain⟨⟨fd0,hfd⟩,fd,F,hb⟩:=hL k a ob u c oc uc vs hp';have ho:s.heap.get? a=some ob:=(show jv X.prog X.w H s.heap a (.frz ob u) from I.hok a _ h1).1
     refine i5 (i:=l) (L:=L) (k:=zgO X.K φ H ρ j l D0)
      I hst hFr hD exD hbD hN hl (.inl hn) ?body ?t hg hdD (.inr hn)
     case body=>
      refine wpAny_execs_cons (wpAny_Expr_any ?_ I.quiet hs1);obtain⟨m,hns,Q⟩:=I.loc;obtain⟨u',r',lk⟩:=Q i x (.ref a) hi hv (.inl hx);obtain rfl:u'=Value.ref a:=r';have hm:m x=some (.ref a):=by
       rcases lk with ⟨_,e⟩|⟨q|q,_⟩
       ·exact e
       ·rw[show X.env.kindOf x=some .local from hx]at q;cases q
       ·rw[show X.env.kindOf x=some .local from hx]at q;cases q
      refine wpAny_Call_Name_kw (wpAny_Name (wpAny_loadName_local I.ok.kind hx hns hm ?_) hdx);have hK:Frag.In [(a,ob)] s.heap:=λb o e=>by
       rw[lookup_cons]at e
       by_cases hb:b=a
       ·subst hb;simp at e;subst e;exact ho
       ·have:(b==a)=false:=by simpa using hb
        rw[this]at e;cases e
      have hkp:keepIn [(a,ob)] (.ref a)=true:=by
       unfold keepIn;obtain⟨o1,o2,o3,o4⟩:=ob;cases (show o3=_ from hfd)
       simp[lookup_cons]
      refine PySem.W.callWith_K0 (K:=[(a,ob)]) (first:=[]) hK hkp ?_;refine wpAny_call (codeAny_mono (F.run X.A X.stack s H ⟨[],[]⟩ [] [] (λ_ H1=>D0.nx σ H1)
       (zgm X.K φ H ρ j l D0 cs)
       hr I.env0 (hb s) .nil ⟨rfl,h1,h2,φ,A,ws,S,rvs,?_⟩) λr s' p=>?_)
      ·cases er:lam k ws A with
       |ok w1 A1=>
        rw[er]at h;exactλd H' v' z Y _=>h d H' σ z Y (re.mono z)
       |exc E A1=>
        rw[er]at h;dsimp only at h
        by_cases T:cs.contains E=true
        ·rw[aj T]at h
         exactλd H' z Y Ca g=>⟨E,Ca,rfl,g,T,d,A1,z,Y,h⟩
        ·rw[ao T]at h;exact h.elim
       |bad=>rw[er]at h;exact h.elim
      ·cases r with
       |error e=>
        unfold CR at p;dsimp only at p;have un:∀b o,s.heap.get? b=some o->∃o',s'.heap.get? b=some o':=by
         obtain⟨_,_,_,_,_,_,un,_⟩:=p;exactλb o e=>un.there b o e (by simp)
        obtain⟨ea,C,H',rfl,I',ly,tr,E,Ca,ec,g,T,φ1,A1,l1,S1,hn1⟩:=Nl I p s.heap λb o e=>⟨o,e⟩;cases ec;obtain⟨B,f,exC,up⟩:=hcs E T C g;exact⟨ea,C,H',B,f,rfl,I',ly,tr,un,exC,up,λoe hoe M=>⟨E,φ1,A1,l1.trans (Le.new M),S1.lay M,⟨ea,oe,.own 0,C,rfl,j5,hoe,g⟩,hn1⟩⟩
       |ok fl=>
        cases fl with
        |ret u1=>
         obtain⟨v1,H1,I1,_,q1⟩:=I.after p;exact wpAny_execs_nil ⟨rfl,σ,H1,I1,q1⟩
        |next=>exact False.elim p|brk=>exact False.elim p|cont=>exact False.elim p
     case t=>
      rintro ea C H2 s2 I2 ⟨E,d,A',z,Y,rx,hn'⟩ E'
      refine CV (i:=l) (j:=j) I2 hN hl hj hn (.inl hy) (λs' I'=>?_) hs2 (.inr hy) hdn;exact⟨_,H2,I',hn' d H2 _ z Y ((((re.mono z).set rx).set rx).unset)⟩
    ·rw[ao hP]at h;exact h.elim
   |_=>exact h.elim
def kz {m:Ev}{P:Pos}{f:Str->Option Bool}{C:Addr}(b:Ws X.K f (.ref C))(d:kg X.K x (.ref C))(hm:X.mg "isinstance"=none)(i:zC X xr e m)(g:Gl X "isinstance":=by rfl)(a:Gl X x:=by rfl)(hd:(x==("__debug__":Str))=false:=by decide)
  (h1:starEach [e,.Name x P] X.env=(false,eval e X.env)::starEach [.Name x P] X.env:=by rfl)(h2:(backTo pos (starEach [.Name x P] X.env)).any (·.1)=false:=by rfl):
  zC X xr (.Call (.Name "isinstance" p) [e,.Name x P] [] pos) (jh f m):=by
 try simp only[ka]at*
 have c:PE X (.Name x P) (tC (.ref C)):=λpins s σ H Q I h=>K1 I a (aP I.mod.kin I.mod.glob d) ⟨.ref C,H,I,rfl,h⟩ hd;exact PE.imp (Z5 (NY (cv:=.ref C) b λu r=>r) g hm (by rfl) (jD i (jD c yg) h1) (by decide) (by decide) h1 h2) (jh.read λσ H Q h=>h)
def l0 {m:Ev}{P:Pos}{f:Str->Option Bool}{T:String}(c:Ws X.K f (.type T))(hm:X.mg "isinstance"=none)(a:X.mg x=none)(d:bootBuiltins x=some (.type T))(i:zC X xr e m)(g:Gl X "isinstance":=by rfl)(b:Gl X x:=by rfl)(hn:x ≠ "__name__":=by decide)(hd:(x==("__debug__":Str))=false:=by decide)
  (h1:starEach [e,.Name x P] X.env=(false,eval e X.env)::starEach [.Name x P] X.env:=by rfl)(h2:(backTo pos (starEach [.Name x P] X.env)).any (·.1)=false:=by rfl):
  zC X xr (.Call (.Name "isinstance" p) [e,.Name x P] [] pos) (jh f m):=by
 try simp only[ka]at*
 exact PE.imp (Z5 (NY (cv:=.ty T) c λu r=>r) g hm (by rfl) (jD i (jD (G5 b a d (v:=.ty T) rfl hn hd) yg) h1) (by decide) (by decide) h1 h2) (jh.read λσ H Q h=>h)
def l4 {m:Ev}{a:Pos}{P:Pos}{pt:Pos}{x1:Str}{x2:Str}{kt:Nat}(t T:Ty)(hm:X.mg "isinstance"=none)(j:X.mg x1=none)(i:X.mg x2=none)(d:bootBuiltins x1=some (.type t.nm))(c:bootBuiltins x2=some (.type T.nm))(y:zC X xr e m)(x:Gl X "isinstance":=by rfl)(o:Gl X x1:=by rfl)(n:Gl X x2:=by rfl)
  (g:x1 ≠ "__name__":=by decide)(q:(x1==("__debug__":Str))=false:=by decide)(f:x2 ≠ "__name__":=by decide)(hd2:(x2==("__debug__":Str))=false:=by decide)
  (h0:starEach [.Name x1 a,.Name x2 P] X.env=(false,eval (.Name x1 a) X.env)::starEach [.Name x2 P] X.env:=by rfl)(r:starEach [.Name x2 P] X.env=(false,eval (.Name x2 P) X.env)::starEach [] X.env:=by rfl)
  (h1:starEach [e,.Tuple [.Name x1 a,.Name x2 P] kt pt] X.env=(false,eval e X.env)::starEach [.Tuple [.Name x1 a,.Name x2 P] kt pt] X.env:=by rfl)(h2:(backTo pos (starEach [.Tuple [.Name x1 a,.Name x2 P] kt pt] X.env)).any (·.1)=false:=by rfl):
  zC X xr (.Call (.Name "isinstance" p) [e,.Tuple [.Name x1 a,.Name x2 P] kt pt] [] pos) (IM t T m):=by
 try simp only[ka]at*
 exact PE.imp (Z5 lE x hm (by rfl) (jD y (jD (LM (jD (G5 o j d (v:=.ty t.nm) rfl g q) (jD (G5 n i c (v:=.ty T.nm) rfl f hd2) yg r) h0)) yg) h1) (by decide) (by decide) h1 h2) λσ H Q ⟨φ,A,ρ,S,re,h⟩=>by
   refine tM.go S re (qe.mp h) λw A1 b H1 v h1 L s u=>?_;cases E:kM w A1 with
   |none=>rw[E]at h1;exact h1.elim|some t'=>
    rw[E]at h1;refine⟨by show 2<=sizeLine;decide,λl hl=>⟨v,t',l,rfl,qH.of j5,?_,h1 b _ _ (L.trans (Le.new hl)) (s.lay hl) rfl⟩⟩
    exact NO (s.lay hl) (u.mono (Le.new hl)) E
def Td {m:Ev}(he:zC X xr e m)(g:wD X tg tw)(d:swapsWithSole [tg] e pos.line X.env=pure false:=by rfl)(hw:swappedStores [tg] e X.env=pure none:=by rfl)(h1:(assignEach [tg] X.env).map (·.2)=[assign tg X.env]:=by rfl):kj X xr (.Assign [tg] e pos) (Qy m tw):=by
 try simp only[ka]at*
 exact PS.imp (LJ he g d hw h1) λD σ H ⟨φ,A,ρ,S,re,h⟩=>by
   refine tM.go S re (qe.mp h) λw A1 a H1 v h1 l s q=>?_;cases E:tw w ρ with
   |none=>rw[E]at h1;exact h1.elim|some c=>
    rw[E]at h1;exact⟨a,A1,ρ,w,c,s,re.mono l,q,E,λb r=>h1 a H1 b l s r⟩
def KY {a:Expr}{b:Expr}{ma:Ev}{M:Ev}{pt:Pos}{kt:Nat}(i j:Nat){y:Str}{P py p:Pos}{k2:Nat}(r:X.calm=true)(B:X.N.Nodup)(u:zC X xr a ma)(t:zC X xr b M)(o:X.N[i]? =some x:=by rfl)(n:X.N[j]? =some y:=by rfl)(d:i≠j:=by decide)
  (g:X.env.scope.names.lookup x=some .local:=by rfl)(f:X.env.scope.names.lookup y=some .local:=by rfl)
  (hw:swappedStores [.Tuple [.Name x P,.Name y py] kt pt] (.Tuple [a,b] k2 p) X.env=pure (some [x,y]):=by rfl)
  (s:swapsWithSole [.Tuple [.Name x P,.Name y py] kt pt] (.Tuple [a,b] k2 p) pos.line X.env=pure false:=by rfl)
  (h1:starEach [a,b] X.env=(false,eval a X.env)::starEach [b] X.env:=by rfl)(h2:starEach [b] X.env=(false,eval b X.env)::starEach [] X.env:=by rfl):
  kj X xr (.Assign [.Tuple [.Name x P,.Name y py] kt pt] (.Tuple [a,b] k2 p) pos) (YU i j ma M):=by
 try simp only[ka]at*
 exact PS.imp (dj r B o n d g f (jD u (jD t yg h2) h1) hw s) λD σ H ⟨φ,A,ρ,S,re,h⟩=>by
   refine tM.go S re (qe.mp h) λw A1 e H1 v h1 l E Q=>?_;refine tM.go E (re.mono l) (qJ (qe.mp h1) (λ_ _ z=>z) λ_ _ z=>z.mono l) λJ A2 c I v2 h2 L C q=>?_;exact⟨v,v2,rfl,h2 c I _ (l.trans L) C (((re.mono (l.trans L)).set (Q.mono L)).set q)⟩
end
section
def O0 {a:Expr}{b:Expr}{ma:Ev}{M:Ev}(ho:zC X xr a ma)(he:zC X xr b M)(t:starEach [b] X.env=(false,eval b X.env)::starEach [] X.env:=by rfl)
  (e:attributeBase a "extend" X.env (eval a X.env)=eval a X.env:=by rfl)
  (w:((backTo cpos (starEach [b] X.env)).all (λx=>!x.1)&&(backToKw cpos (keywordEach [] X.env)).all (λx=>x.1.isSome)
   && decide ([b].length+([]:b9).length+(if ([]:b9).isEmpty then 0 else 1)<30))=true:=by rfl)(h:(apos.endLine==cpos.line)=true:=by rfl):
  zC X xr (.Call (.Attribute a "extend" apos) [b] [] cpos) (jj Z9 ma M):=by
 try simp only[ka]at*
 exact XG PySem.F.slot_list_extend (by kernel_rfl) BN BC (λφ A H x y u v Q S j q p=>by
   unfold Z9 at p;cases u with
   |ref n=>
    cases v with
    |ref k=>
     dsimp only at p;cases c:A[n]? with
     |none=>rw[c]at p;exact p.elim|some o=>cases o with
      |lst ws=>
       cases E:A[k]? with
       |none=>rw[c,E]at p;exact p.elim|some s=>cases s with
        |lst us=>
         rw[c,E]at p;dsimp only at p
         by_cases d:ws.length+us.length<=qj
         ·rw[aj d]at p
          obtain⟨l,xs,rfl,f1,g1,f⟩:=S.lst j c;obtain⟨B,zs,rfl,f2,g2,r⟩:=S.lst q E;refine⟨l,B,xs,zs,rfl,rfl,g1,g2,?_,?_⟩
          ·rw[<- f.length,<- r.length]
           have:sizeLine=16777216:=sizeLine_eq
           unfold qj at d;omega
          ·obtain⟨i,g⟩:=S.write (o:=.lst ws) (o':=.lst (ws++us)) c rfl rfl f1 (u:=.lst (xs++zs)) ⟨xs++zs,j5,(f.append r).mono (Le.upd f1 (λ_ z=>by rw[g1]at z;cases z) λ_ _ z=>by rw[g1]at z;cases z)⟩
           exact p _ _ _ i g rfl
         ·rw[ao d]at p;exact p.elim
        |_=>rw[c,E]at p;exact p.elim
      |_=>rw[c]at p;cases E:A[k]? with
       |none=>rw[E]at p;exact p.elim|some _=>rw[E]at p;exact p.elim
    |_=>exact p.elim
   |_=>cases v<;>exact p.elim) ho he t e w h
def C0 {m:Ev}{P pos':Pos}(i:X.calm=true)(hm:X.mg "len"=none)(c:X.mg "set"=none)(j:zC X xr e m)(g:Gl X "len":=by rfl)(d:Gl X "set":=by rfl)(s:starEach [e] X.env=(false,eval e X.env)::starEach [] X.env:=by rfl)
  (b:starEach [.Call (.Name "set" P) [e] [] pos'] X.env=(false,eval (.Call (.Name "set" P) [e] [] pos') X.env)::starEach [] X.env:=by rfl):
  zC X xr (.Call (.Name "len" p) [.Call (.Name "set" P) [e] [] pos'] [] pos) (M7 m):=by
 try simp only[ka]at*
 exact PE.imp (Z5 B8 g hm (by rfl) (jD (KG (B5 i) d c (by rfl) (jD j yg s) (by decide) (by decide) s (by rfl)) yg b) (by decide) (by decide) b (by rfl)) λσ H Q ⟨φ,A,ρ,S,re,h⟩=>by
   refine tM.go S re (qe.mp h) λw A1 f H1 v h1 L o q=>?_;cases w with
   |tup ws=>
    obtain⟨a,vs,rfl,t,r⟩:=q;unfold MU at h1;dsimp only at h1
    revert h1
    cases n:intsOf ws with
    |none=>intro h1;exact h1.elim|some ns=>
     intro h1;dsimp only at h1;have E:=GF n;subst E;have ev:=zI.ints.mp r;subst ev
     by_cases z:ns.length<=100
     ·rw[aj z]at h1
      refine⟨a,ns,rfl,t,z,λl hl=>⟨l,_,_,rfl,j5,a4 (firstMet_length_le _ _) z,?_⟩⟩;exact h1 _ _ _ (L.trans (Le.new hl)) (o.lay hl) rfl
     ·rw[ao z]at h1;exact h1.elim
   |_=>exact h1.elim
def Xf {a:Expr}{b:Expr}{ma:Ev}{M:Ev}(H:zC X xr a ma)(h:zC X xr b M):zC X xr (.BinOp a .LShift b pos) (zi WK ma M):=by
 try simp only[ka]at*
 exact Zd dI Wm (Wh Mx λ_ _ _ _=>rfl) H h
end
@[irreducible] noncomputable def JW (X:Cx)(x:XR)(e:Option Expr)(p:Po):Prop:=Mi.SP X x e p
def l6:@JW=@Mi.SP:=by
 funext X xr e p
 unfold JW
 rfl
def gh:@zC=@Mi.SE/\@wZ=@Mi.SA/\@yy=@Mi.ST/\@gX=@Mi.SW/\@kj=@Mi.SS/\@kI=@Mi.JY/\@kL=@Mi.SI/\@wD=@Mi.SG/\@ZU=@Mi.SF/\@w8=@Mi.SQ/\@gL=@Mi.WV/\@gw=@Mi.SM/\@Vp=@Mi.SJ/\@JW=@Mi.SP:=⟨Xo,TV,TK,TC,To,UY,Tu,Tw,TJ,Tn,U0,TQ,Li,l6⟩
def LI:JW X xr none JV:=by
 try simp only[gh]at*
 exact PO.imp ej λσ H Q ⟨φ,A,ρ,S,re,h⟩=>h φ H .refl S
def M0 {m:Ev}(h:zC X xr e m):JW X xr (some e) (Zk m):=by
 try simp only[gh]at*
 exact Mi.Lx h
def wK {a b:Expr}{ma M:Ev}(H:zC X xr a ma)(h:zC X xr b M):zC X xr (.BinOp a .FloorDiv b pos) (zi kE ma M):=by
 try simp only[ka]at*
 exact Zd lK Wm (Wh lJ λ_ _ _ _=>rfl) H h
def Me {a b:Expr}{ma M:Ev}(H:zC X xr a ma)(h:zC X xr b M):zC X xr (.BinOp a .Mult b pos) (zi Qn ma M):=by
 try simp only[ka]at*
 exact Zd lN lO Ar H h
def l7 {m:Ev}(h:zC X xr e m)(he:∀whole,isTrue e X.env whole=(do let v <- whole;standAt e.pos;holding [v] (truthy v)):=by intro _;rfl):yy X xr e (IX m):=by
 try simp only[ka]at*
 exact PT.imp (NG h he) λσ H Q ⟨φ,A,ρ,S,re,h⟩=>by
   refine tM.go S re (qe.mp h) λw A1 a H1 v h1 l s c=>?_;cases w with
   |ref n=>
    dsimp only at h1;cases E:A1[n]? with
    |none=>rw[E]at h1;exact h1.elim|some u=>cases u with
     |lst ws=>
      rw[E]at h1;dsimp only at h1;obtain⟨p,ys,rfl,d,g,r⟩:=s.lst c E;obtain⟨b,f,q⟩:=h1;cases f;have hl:=r.length;refine⟨!ws.isEmpty,.inl ⟨ys,je.of g,?_⟩,q a H1 l s⟩;cases ws with
      |nil=>cases ys with
       |nil=>rfl|cons _ _=>cases hl
      |cons _ _=>cases ys with
       |nil=>cases hl|cons _ _=>rfl
     |_=>rw[E]at h1;exact h1.elim
   |_=>exact h1.elim
def BJ {m:Ev}(x:X.calm=true)(hm:X.mg "sorted"=none)(d:zC X xr e m)(g:Gl X "sorted":=by rfl)(s:starEach [e] X.env=(false,eval e X.env)::starEach [] X.env:=by rfl):zC X xr (.Call (.Name "sorted" p) [e] [] pos) (Xr m):=by
 try simp only[ka]at*
 exact PE.imp (Z5 DJ g hm (by rfl) (jD d yg s) (by decide) (by decide) s (by rfl)) λσ H Q ⟨φ,A,ρ,S,re,h⟩=>by
   refine tM.go S re (qe.mp h) λw A1 b H1 v h1 L c q=>?_;cases w with
   |ref n=>
    unfold Xu at h1;dsimp only at h1;cases E:A1[n]? with
    |none=>rw[E]at h1;exact h1.elim|some u=>cases u with
     |lst ws=>
      rw[E]at h1;dsimp only at h1;obtain⟨P,ys,rfl,f,o,r⟩:=c.lst q E;cases i:JC ws with
      |none=>rw[i]at h1;exact h1.elim|some ks=>
       rw[i]at h1;dsimp only at h1;obtain⟨j,ne⟩:=N8 i;subst j
       by_cases a:ks.length<64
       ·rw[aj a]at h1
        refine⟨P,ys,ks,b,rfl,je.of o,r,ne,a,λl zs hl rz=>?_⟩;obtain⟨a1,a2,t⟩:=Q0 c hl rz;exact h1 _ _ _ (L.trans a1) a2 t
       ·rw[ao a]at h1;exact h1.elim
     |_=>rw[E]at h1;exact h1.elim
   |_=>exact h1.elim
section
variable {a b:Expr}{ma mb:Ev}
def O3 (ho:zC X xr a ma)(he:zC X xr b mb)(s:starEach [b] X.env=(false,eval b X.env)::starEach [] X.env:=by rfl)
  (e:attributeBase a "count" X.env (eval a X.env)=eval a X.env:=by rfl)
  (w:((backTo cpos (starEach [b] X.env)).all (λx=>!x.1)&&(backToKw cpos (keywordEach [] X.env)).all (λx=>x.1.isSome)
   && decide ([b].length+([]:b9).length+(if ([]:b9).isEmpty then 0 else 1)<30))=true:=by rfl)(h:(apos.endLine==cpos.line)=true:=by rfl):
  zC X xr (.Call (.Attribute a "count" apos) [b] [] cpos) (jj QX ma mb):=by
 try simp only[ka]at*
 exact XG PySem.F.slot_list_count PySem.F.type_list_count Bt BD (λφ A H x y u v Q S c q p=>by
   unfold QX at p;cases u with
   |ref n=>
    dsimp only at p;cases E:A[n]? with
    |none=>rw[E]at p;exact p.elim|some o=>cases o with
     |lst ws=>
      rw[E]at p;dsimp only at p
      by_cases hf:(yC v&&ws.all yC)=true
      ·rw[aj hf]at p
       rw[ah]at hf;obtain⟨l,rfl,f1⟩:=c;obtain⟨L,f2,vs,g1,g2⟩:=S.ob n _ E;rw[f1]at f2;cases f2;obtain⟨c1,c2⟩:=Uo q hf.1 g2 hf.2;refine⟨l,vs,y,rfl,rfl,je.of g1,KH q hf.1,c1,?_⟩;rw[c2]
       have:=p φ H _ .refl S rfl
       rw[G3]at this;simpa using this
      ·rw[ao hf]at p;exact p.elim
     |_=>rw[E]at p;exact p.elim
   |_=>exact p.elim) ho he s e w h
end
def Mc {m:Ev}{lo D:Option Expr}{P pu:Po}{I:Pos}(he:zC X xr e m)(hl:JW X xr lo P)(J:JW X xr D pu):zC X xr (.Subscript e (.Slice lo D none I) pos) (Q3 m P pu):=by
 try simp only[gh]at*
 exact PE.imp (ew lV he hl J) λσ H Q ⟨φ,A,ρ,S,re,h⟩=>by
   refine tM.go S re (qe.mp h) λw A1 i H1 v h1 f U C=>?_;refine⟨i,A1,ρ,U,re.mono f,qJ (qe.mp h1) (λl A2 h2 g Z d T=>?_) λ_ _ z=>z.mono f⟩;refine⟨g,A2,ρ,T,(re.mono f).mono d,qJ (qe.mp h2) (λu Y b c B q s=>?_) λ_ _ z=>z.mono (f.trans d)⟩;have L:=(f.trans d).trans q;cases w with
   |tup ws=>
    obtain⟨a,vs,rfl,t,r⟩:=(C.mono d).mono q;have hlen:ws.length=vs.length:=r.length;refine .inl ⟨a,vs,rfl,t,λhw=>?_,λhw p x=>?_⟩
    ·refine b c B _ L s ⟨a,vs,rfl,t,?_⟩
     have:ZP ws l u=ws:=by
      unfold ZP;rw[hlen,hw.1,hw.2,Nat.sub_zero,List.drop_zero,<- hlen,take_length]
     rw[this];exact r
    ·have j:zI X.K c B (ZP ws l u) (Zl vs l u):=by
      unfold ZP Zl;rw[hlen];exact zI.take _ (zI.drop _ r)
     obtain⟨a1,a2,y⟩:=Qi s x j;exact b _ _ _ (L.trans a1) a2 y
   |ref n=>
    dsimp only at b;cases E:Y[n]? with
    |none=>rw[E]at b;exact b.elim|some o=>cases o with
     |lst ws=>
      rw[E]at b;dsimp only at b;obtain⟨a,vs,rfl,M,N,r⟩:=s.lst ((C.mono d).mono q) E;have hlen:ws.length=vs.length:=r.length;refine .inr ⟨a,vs,rfl,je.of N,λp x=>?_⟩;have j:zI X.K c B (ZP ws l u) (Zl vs l u):=by
       unfold ZP Zl;rw[hlen];exact zI.take _ (zI.drop _ r)
      obtain⟨a1,a2,y⟩:=Q0 s x j;exact b _ _ _ (L.trans a1) a2 y
     |_=>rw[E]at b;exact b.elim
   |_=>exact b.elim
section
variable {a b:Expr}{m ma mb:Ev}
def AA (H:zC X xr a ma)(h:zC X xr b mb):zC X xr (.BinOp a .BitAnd b pos) (zi Il ma mb):=by
 try simp only[gh]at*
 exact Zd dM Qj (Qh λ_ _ _ _=>rfl) H h
def l8 (c:zC X xr a ma)(H:zC X xr b mb):zC X xr (.BinOp a .RShift b pos) (zi IQ ma mb):=by
 try simp only[gh]at*
 exact Zd dJ Wm (Wh (λ_ _ h=>of_decide_eq_true h) λ_ _ _ _=>rfl) c H
def l9 (h:zC X xr e m)(he:∀whole,isTrue e X.env whole=(do let v <- whole;standAt e.pos;holding [v] (truthy v)):=by intro _;rfl):yy X xr e (IJ m):=by
 try simp only[gh]at*
 exact PT.imp (NG h he) λσ H Q ⟨φ,A,ρ,S,re,h⟩=>by
   refine tM.go S re (qe.mp h) λw A1 a H1 v h1 l s c=>?_;cases w with
   |int i=>
    obtain rfl:=c;obtain⟨b,E,q⟩:=h1;cases E;exact⟨i != 0,rfl,q a H1 l s⟩
   |_=>exact h1.elim
end
section
def md (hn:Nm X.K x)(g:Gl X x:=by rfl)(hd:(x==("__debug__":Str))=false:=by decide):zC X xr (.Name x pos) (zW (.fn x)):=by
 try simp only[gh]at*
 obtain⟨f,hn⟩:=hn;intro pins s σ H Q I ⟨φ,A,ρ,S,re,h⟩;exact M9 (v:=.ref f) g (aP I.ok.mod.kin I.ok.mod.glob hn) rfl hd pins s σ H Q I (h φ H _ .refl S ⟨f,rfl,hn⟩)
def Nt {y:Str}{k:Nat}{g:Heap}(T:gK X g xr)(F:yj X.prog X.w X.K X.mg X.base k x n f)(hr:jO k X.A)(ha:wZ X xr (e::es) mr)(hl:ZR mr n:=by repeat' (first|exact zO|refine zD ?_))(hi:X.N[i]? =some y:=by rfl)(t:W6 X.env.scope y:=by first|exact Or.inl rfl|exact Or.inr (Or.inl rfl)|exact Or.inr (Or.inr rfl))
  (B:(y==("__debug__":Str))=false:=by decide)(C:(y==("__classdict__":Str))=false:=by decide)(he:starEach (e::es) X.env=(false,eval e X.env)::starEach es X.env:=by rfl)(u:(backTo pos (starEach es X.env)).any (·.1)=false:=by rfl):
  zC X xr (.Call (.Name y p) (e::es) [] pos) (Q1 i x f mr):=by
 try simp only[gh]at*
 obtain⟨J,fd,ps,F,hm,hk,hb⟩:=F;intro pins s σ H Q I ⟨φ,A,ρ,S,re,h⟩;unfold Q1 at h;cases c:ρ[i]? with
 |none=>rw[c]at h;exact h.elim|some ow=>cases ow with
  |none=>rw[c]at h;exact h.elim|some U=>
   rw[c]at h;cases U with
   |fn z=>
    dsimp only at h
    by_cases l:z=x
    ·rw[aj l]at h
     subst l;obtain⟨v,o,a,rfl,hn⟩:=re.get i _ c;have b:=aP I.ok.mod.kin I.ok.mod.glob hn;rw[hm]at b;cases b;refine wpAny_Call_Name_kw (zY (Lv hi t B C pins s σ H (λY H'=>Y=.ref J/\H'=H) I ⟨_,o,rfl,rfl⟩) λZ s0 ⟨v0,H0,P,r0,e0,e1⟩=>?_);subst e0;subst e1;obtain rfl:Z=Value.ref J:=r0;have h':=qe.mp h;refine callWith_K (h₀:=X.base) P.ok.mod.kin hk (zY (ha pos pins s0 σ H0 (λvs H1=>WO X.K n f (vs++[]) H1 Q (HK X.K xr)) P ⟨φ,A,ρ,S,re,?_⟩) λus s1 ⟨vs,H1,M,r,q⟩=>⟨M.kIn,?_⟩) he u
     ·cases E:mr ρ A with
      |ok ws A1=>
       rw[E]at h';intro j H1 vs L S1 D;have t:vs.length=n:=by rw[<- D.length];exact hl ρ A ws A1 E
       rw[a7];refine⟨t,j,A1,ws,S1,D,qJ h' (λ_ _ z=>z.mono L) λy A2 z d H2 l2 S2 Ca hC=>?_⟩;exact⟨y,Ca,rfl,hC,z d H2 (L.trans l2) S2⟩
      |exc y A1=>rw[E]at h';exact h'|bad=>rw[E]at h';exact h'
     ·exact Ln F hr hb .nil T.passes M r q
    ·rw[ao l]at h;exact h.elim
   |_=>exact h.elim
def UP {t:Lm}{q:Str}{P:Pos}{RF:Nat->List W->Hx->R W}(C:Jz X)(hl:YI X.prog X.w X.K X.mg j q t)(L:XF X.N X.env.scope t=true)
  (hR:∀base PG,(∀k,Q2 X.prog X.w X.K X.mg base (j+1) (PG k) (wR [t] k))->zJ X.prog X.w X.K X.mg base kk x 1 (Qu PG RF))(hr:jO kk X.A)
  (hB:BMain X.mg X.base)(f:X.env.code=.ref c)(hC:CodeHd X.base c Pt)(d:X.env.qual ++ "<lambda>"=q)(u:defaultsOf t.params X.env=([],[]))(hg:Gl X x:=by rfl)(hdb:(x==("__debug__":Str))=false:=by decide)
  (he:starEach [.Lambda t.params t.body t.scope P] X.env=(false,eval (.Lambda t.params t.body t.scope P) X.env)::starEach [] X.env:=by rfl)(Y:(backTo pos (starEach [] X.env)).any (·.1)=false:=by rfl):
  zC X yJ (.Call (.Name x p) [.Lambda t.params t.body t.scope P] [] pos) (wN n q Pt t.idx (RF 0)):=by
 try simp only[gh]at*
 intro pins s σ H Q I ⟨φ,A,ρ,S,re,h⟩;unfold wN at h;cases E:A[n]? with
 |none=>rw[E]at h;exact h.elim|some o=>cases o with
  |tab q' P'=>
   rw[E]at h;dsimp only at h
   by_cases hc:q'=q/\P'=Pt
   ·rw[aj hc]at h
    cases ec:JM t.idx ρ with
    |none=>rw[ec]at h;exact h.elim|some ws=>
     rw[ec]at h;dsimp only at h;obtain⟨fa,fd,ps,F,hm,hk,hb⟩:=hR _ _ (N5 (q:=q) I C hl (U1 L)).2;refine wpAny_Call_Name_kw (K1 I hg hm ?_ hdb);have hS:SA X yJ [.Lambda t.params t.body t.scope P] (zh (YF n q Pt 0 (Jd X.env q [t] 0)) zm):=Mi.MH (ll (ls:=[t]) rfl L hB f hC d u) Mi.Lu;refine callWith_K (h₀:=X.base) I.ok.mod.kin hk (zY (hS pos pins s σ H (λvs H1=>∃b,Le X.K φ H b H1/\zQ X.K b A H1/\zI X.K b H1 [.clo 0 ws (WN X.env q [t] σ 0)] vs) I ⟨φ,A,ρ,S,re,?_⟩) λus s1 ⟨vs,H1,D,r1,b,l,S1,B⟩=>⟨D.kIn,?_⟩) he Y
     ·have em:zh (YF n q Pt 0 (Jd X.env q [t] 0)) zm ρ A=.ok [.clo 0 [] (Jd X.env q [t] 0)] A:=by
       unfold zh YF;rw[E];dsimp only;rw[aj hc]
       rfl
      rw[em];intro b H1 vs l S1 q1;refine⟨b,l,S1,?_⟩;obtain⟨v,r',rfl,hv,U⟩:=q1;obtain rfl:r'=[]:=U;obtain⟨a,ob,u0,c0,oc,uc,vs0,rfl,g1,g2,⟨t',et',gp⟩,_⟩:=hv;cases et';obtain⟨M,cv,B⟩:=Ny (re.mono l) ec;exact .one ⟨a,ob,u0,c0,oc,uc,M,rfl,g1,g2,⟨t,rfl,gp,cv⟩,B⟩
     ·obtain⟨e0,hL⟩:=N5 (q:=q) D C hl (U1 L)
      obtain⟨fa',fd',T,F',i,hk',hb'⟩:=hR _ _ hL;rw[hm]at i;cases i;have g:Zo X.K 1 (Qu (WN X.env q [t] σ) RF) vs H1 Q E0:=by
       refine⟨by rw[<- B.length];rfl,b,A,[.clo 0 ws (WN X.env q [t] σ 0)],S1,B,?_⟩
       unfold Qu;dsimp only;rw[aj rfl];exact qJ h (λ_ _ z=>z.mono l) λy A2 z J H2 l2 S2=>((z.mono l) J H2 l2 S2).elim
      have Z:=F'.len _ _ _ _ g;have hu:us.length=T.length:=by rw[<- r1.length];exact Z
      refine wpAny_call (codeAny_mono (F'.run X.A X.stack s1 H1 ⟨[]++us,[]⟩ us vs Q E0 hr e0 ?_ r1 g) λr s2 d=>?_)
      ·have:=hb' s1 us D.kIn (by rw[a7];exact hu)
       rw[a7]at this;exact this
      ·cases r with
       |error e=>exact False.elim d|ok fl=>
        cases fl with
        |ret u1=>exact D.after d|next=>exact False.elim d|brk=>exact False.elim d|cont=>exact False.elim d
   ·rw[ao hc]at h;exact h.elim
  |_=>rw[E]at h;exact h.elim
def AR {st:Expr}{m ms:Ev}{P:Pos}(he:zC X xr e m)(f:zC X xr st ms):zC X xr (.Subscript e (.Slice none none (some st) P) pos) (XD m ms):=by
 try simp only[gh]at*
 exact PE.imp (lY he (Mi.Lx f)) λσ H Q ⟨φ,A,ρ,S,re,h⟩=>by
   refine tM.go S re (qe.mp h) λw A1 b H1 v h1 l u q=>?_;refine⟨b,A1,ρ,u,re.mono l,qJ (qe.mp h1) (λo A2 h2 d x L s=>?_) λ_ _ z=>z.mono l⟩;cases w with
   |ref n=>
    dsimp only at h2;cases E:A2[n]? with
    |none=>rw[E]at h2;exact h2.elim|some ob=>cases ob with
     |lst ws=>
      rw[E]at h2;dsimp only at h2
      by_cases c:o=some (-1)
      ·rw[aj c]at h2
       obtain⟨a,vs,rfl,i,j,r⟩:=s.lst (q.mono L) E;refine⟨c,a,vs,rfl,je.of j,λp g=>?_⟩;obtain⟨a1,a2,t⟩:=Q0 s g (zI.rev r);exact h2 _ _ _ ((l.trans L).trans a1) a2 t
      ·rw[ao c]at h2;exact h2.elim
     |_=>rw[E]at h2;exact h2.elim
   |_=>exact h2.elim
def NC {M:Ev}(nl:Nat)(cap:bP)(d:X.calm=true)(S:gE X sc)(p:Qm X.N N sc nl cap=true)(C:Jz X)(hw:kL X xr tg iter mi)
  (n:∀s H fp,Jz (jT X N sc s H fp yr)->wD (jT X N sc s H fp yr) tg tw/\gL (jT X N sc s H fp yr) ifs M/\gw (jT X N sc s H fp yr) elt (⟨tg,iter,ifs,0⟩::gs) sc pos 0 em)
  (i:∀g',gs[0]? =some g'->g'.is_async=0:=by intro _ h;cases h<;>rfl)
  (c:∀x,foldedSetIterable iter X.env x=pure x:=by intro _;rfl):ZU X xr (.ListComp elt (⟨tg,iter,ifs,0⟩::gs) sc pos) (zU nl cap mi tw M em):=by
 try simp only[gh]at*
 intro pins s σ H Q I h;rw[eval_ListComp];refine UZ (use:=none) (g:=tG X.K tw) (ti:=tT X.K yJ M) (tm:=tE X.K em) d S p i hw (λs H fp t w=>n s H fp (BP S C t)) I (zU.read σ H Q h) (λD C s' v m u q hn h1 h2 r l j=>?_) c;exact⟨m,hn,λh' a=>⟨.ref D,v,u.turned (t':=s'.toks) (λb o f e=>(a.2 b f).trans e) h1 h2 (.inr r) l j,rfl,q⟩⟩
variable {K:Frag}{st:Stmt}{f:Addr}{k:Nat}{m:Ex}
def mf (F:kR K x x st f fd)(hn:nsIn K mainGlobals x=some (some (.ref f)))(t:tabIn K x=some (c,Pt))(S:qC N ps (zZ st))
  (h:∀(A:Around)(outer:b0)(s:Shared)(H:Hp)(E:XK),jO k (A.deeper (envOfC x (zZ st) s.heap.objs.size f (.ref c)))->kI (wj wc P w K mg base N x (zZ st) f (.ref c) A outer s H E).nox yJ (yW st) m):
  yG P w K mg base wc (k+1) f fd ps (Zo K ps.length (qt N.length m)):=by
 try simp only[gh]at*
 exact Mi.Hl F hn t S h
def mh (F:kR K x x st f fd)(hn:nsIn K mainGlobals x=some (some (.ref f)))(t:tabIn K x=some (c,Pt))(hm:mg x=some (.ref f))(S:qC N ps (zZ st))
  (b:∀(kV doc pm:Value)(an:cb)(C ct:Value)(us:bL),us.length=ps.length->bindArgs (fnOf x x (Qc st) (yW st) (zZ st) .none kV doc pm an C ct) ⟨us,[]⟩=pure (ps.zip us))
  (h:∀(A:Around)(outer:b0)(s:Shared)(H:Hp)(E:XK),jO k (A.deeper (envOfC x (zZ st) s.heap.objs.size f (.ref c)))->kI (wj wc P w K mg base N x (zZ st) f (.ref c) A outer s H E).nox yJ (yW st) m):
  zJ P w K mg base (k+1) x ps.length (qt N.length m):=by
 try simp only[gh]at*
 exact⟨f,fd,ps,Mi.Hl F hn t S h,hm,F.kp,F.binds b⟩
end
def zJ.up {K:Frag}{k:Nat}(F:zJ P w K mg base j x n f)(h:j<=k:=by decide):zJ P w K mg base k x n f:=F.mono h
def yj.up {K:Frag}{k:Nat}(F:yj P w K mg base j x n f)(h:j<=k:=by decide):yj P w K mg base k x n f:=F.mono h
section
variable {C:List Value->Prop}
theorem j4 (h:∀a,C [a]):∀us:bL,us.length=1->C us
 |[a],_=>h a
theorem yN (h:∀a b,C [a,b]):∀us:bL,us.length=2->C us
 |[a,b],_=>h a b
theorem W2 (h:∀a b c,C [a,b,c]):∀us:bL,us.length=3->C us
 |[a,b,c],_=>h a b c
end
def qP {l:bR}(h:decide l.Nodup=true):l.Nodup:=of_decide_eq_true h
noncomputable def HE (N P:bR)(sc:Scope):Bool:=decide (sc.kind=.function)&&(!sc.isCoroutine&&(!sc.isGenerator&&(decide N.Nodup&&(decide (N.take P.length=P)&&(P.all (λx=>decide (sc.names.lookup x=some .local) || decide (sc.names.lookup x=some .cell))&&sc.names.all λy=>!decide (y.2=.free))))))
def qM {P:bR}(h:HE N P sc=true):qC N P sc:=by
 unfold HE at h;simp only[ah,ai,not_eq_true',aT,bj,decide_eq_false_iff_not]at h;obtain⟨h1,h2,e,d,c,b,a⟩:=h;exact⟨h1,h2,e,d,c,b,λy H=>a y H⟩
section
def jE {M:Ev}(nl:Nat)(cap:bP)(hw:kL X xr tg iter mi)
  (n:∀s H fp,wD (jT X N sc s H fp yr) tg tw/\gL (jT X N sc s H fp yr) ifs M/\gw (jT X N sc s H fp yr) elt (⟨tg,iter,ifs,0⟩::gs) sc pos 0 em)
  (c:X.calm=true:=by rfl)(S:gE X sc:=by exact cps (by kernel_rfl))(p:Qm X.N N sc nl cap=true:=by kernel_rfl)
  (b:∀g',gs[0]? =some g'->g'.is_async=0:=by intro _ h;cases h<;>rfl)
  (a:∀x,foldedSetIterable iter X.env x=pure x:=by intro _;rfl):ZU X xr (.ListComp elt (⟨tg,iter,ifs,0⟩::gs) sc pos) (zU nl cap mi tw M em):=AJ nl cap c S p hw n b a
def qV {d:Nat}(he:zC X yJ elt me)(h:∀e s,X.xe e s->False:=by exactλ_ _ z=>z)(H:gens[d+1]? =none:=by rfl):gw X elt gens sc pos d (zR me):=iR h he H
end
open PySem L2
abbrev zr:Ev:=qh 0
abbrev zt:Ev:=qh 1
abbrev zK:Ev:=qh 2
abbrev zP:Ev:=qh 3
abbrev qd:Ev:=qh 4
abbrev jq:Ev:=qh 5
abbrev jZ:Ev:=qh 6
abbrev kO:Ev:=qh 7
abbrev QD:Ev:=qh 8
abbrev Y1:Ev:=qh 9
abbrev YG:Ev:=qh 10
abbrev Hm:Ev:=qh 11
abbrev zV:Ev:=zW (.int 0)
abbrev qp:Ev:=zW (.int 1)
abbrev wG:Ev:=zW (.int 2)
abbrev QF:Ev:=zW (.int 3)
abbrev W5:Ev:=zW (.int 4)
abbrev YV:Ev:=zW (.int 5)
abbrev mj:Ev:=zW (.int 6)
abbrev YY:Ev:=zW (.int 7)
abbrev JS:Ev:=zW (.int 8)
abbrev WU:Ev:=zW (.int 9)
abbrev SN:Ev:=zW (.int 10)
abbrev qa:Ev:=zW (.bl true)
abbrev HD:Ev:=zW (.bl false)
abbrev Q8:Ev:=zW .non
abbrev yU:Ex:=zj (qA HD) zx
end Mi
namespace G
open PySem L2 Mi
noncomputable def top (i:Nat):Stmt:=PySem.Challenge.pw_nearkinds_k42_tables_that_turn_to_themse.main.body.getD i (.Pass ⟨0,0,0,0⟩)
structure Bu (mg:bZ):Prop where
 DP:mg "ValueError"=none
 IG:mg "abs"=none
 JD:mg "all"=none
 zfl:mg "any"=none
 Xt:mg "bool"=none
 QQ:mg "enumerate"=none
 Wx:mg "int"=none
 jP:mg "isinstance"=none
 ja:mg "len"=none
 K3:mg "list"=none
 JG:mg "max"=none
 Ir:mg "min"=none
 q9:mg "range"=none
 zeR:mg "set"=none
 AX:mg "sorted"=none
 T7:mg "sum"=none
 jL:mg "tuple"=none
 YA:mg "zip"=none
 E8:∃t,mg "MOST_PLACES"=some (.int 8 t)
noncomputable abbrev qT:bR:=["NoTable","NotSteady","NotWhole"]
noncomputable abbrev GI:bR:=["NoTable","NotSteady","NoPlace","NoKind","NoMix","NoNumber","NoLot","NoKinds","NoPaper","NoParting","NoClosed","TooMany","NoText","NoLine","NoDeed","NoWeights","NotWhole","NoNumbers"]
def jK {K:Frag}(R:GI.all (QY K qT)=true)(h:GI.contains x=true:=by decide +kernel):QY K qT x=true:=cn.mp R x (List.contains_iff_mem.mp h)
def UH {l:List (Str×NameKind)}(h:(l.all λy=>!(y.2==.cell))=true):∀y∈l,y.2≠.cell:=λy H e=>by
 have q:=cn.mp h y H;rw[e]at q;cases q
def yE {m:Ev}(h:zC X xr e m):SE X xr e m:=by rw[Xo]at h;exact h
abbrev OX:Stmt:=top 1
def Cb:qC ["thing"] ["thing"] (zZ OX):=qM (by kernel_rfl)
def C3:Ex:=zj (qA (j0 (kQ .int zr) (yi (kQ .bl zr)))) zx
abbrev OH:Stmt:=top 2
def DH:qC ["thing","many"] ["thing","many"] (zZ OH):=qM (by kernel_rfl)
def Up (C:Fn):Ex:=zj (qA (j0 (kQ .tup zr) (j0 (zi jB (mQ qc (zN zr)) zt) (mQ Qx (zU 1 [] (qu zr) (zE 0) qa (zR (zH C (zh zr zm)))))))) zx
abbrev RR:Stmt:=top 3
def Fp:qC ["thing","many","limit"] ["thing","many","limit"] (zZ RR):=qM (by kernel_rfl)
def VA (C:Fn):Ex:=zj (qA (j0 (zH C (zh zr (zh zt zm))) (mQ Qx (zU 1 [2] (qu zr) (zE 0) qa (zR (wu QB WQ zV zr zt)))))) zx
abbrev O2:Stmt:=top 26
def OP:qC ["thing","many"] ["thing"] (zZ O2):=qM (by kernel_rfl)
def Gy (B:Fn)(f:Fn)(H:Fn):Ex:=zj (jf (gQ (yi (kQ .tup zr)) (yi (wu QB QB qp (mQ qc (zN zr)) JS))) yU zx) (zj (zM 1 (mQ qc (zN zr))) (zj (jf (yi (mQ Qx (zU 1 [1] (qu zr) (zE 0) qa (zR (zH f (zh zr (zh zt (zh zt zm)))))))) yU zx) (zj (qA (j0 (zH B (zh zr zm)) (zH H (zh zr zm)))) zx)))
abbrev Nn:Stmt:=top 27
def Ux:qC ["rows","a","row","b","kind"] ["rows"] (zZ Nn):=qM (by kernel_rfl)
def Nw:Ex:=zj (qF (kD zr) (ji 1 2) (zj (qF (kD zK) (ji 3 4) (zj (jf (gQ (zi jo (zi jB qd zV) (zi jB zt zP)) (zi jo (zi zB (zi zB zr zP) zt) qd)) yU zx) zx)) zx)) (zj (qA qa) zx)
abbrev RA:Stmt:=top 28
def Ry:qC ["rows","standing"] ["rows"] (zZ RA):=qM (by kernel_rfl)
def RC:Ex:=zj (zM 1 (qY (zU 2 [] (qu zr) (zE 0) qa (gI (qu zr) (zE 1) qa (zR zt))))) (zj (qA (mQ Qx (zU 1 [1] (qN (mQ yS (zN zt))) (zE 0) qa (zR (zi Ro zr zt))))) zx)
abbrev R7:Stmt:=top 29
def FI:qC ["table"] ["table"] (zZ R7):=qM (by kernel_rfl)
def VG (C:Fn):Ex:=zj (jf ((λρ A=>((yi (zH C (zh zr zm))) ρ A).nox)) (zj (Wj "NoTable" (zh (zW (.str "this is no table")) zm)) zx) zx) zx
abbrev PH:Stmt:=top 30
def Ec:qC ["table"] ["table"] (zZ PH):=qM (by kernel_rfl)
def Oc:Ex:=zj (qA (zi qv (mQ yS (zU 1 [] (qu zr) (zE 0) qa (zR (mQ yS (zN zr))))) qp)) zx
abbrev Pb:Stmt:=top 31
def Gd:qC ["table","one","other","many","counts","i","j"] ["table","one","other"] (zZ Pb):=qM (by kernel_rfl)
def Pn (J:Fn):Ex:=zj (zM 3 (zH J (zh zr zm))) (zj (zM 4 (qY (zU 1 [3] (qN zP) (zE 0) qa (zR (zi qx (qi (zh zV zm)) zt))))) (zj (qF (wA (zi zB zr zt) (zi zB zr zK)) (ji 5 6) (zj (Wq (zi zB qd jq) jZ qp) zx)) (zj (qA (mQ jA (zU 1 [] (qu qd) (zE 0) qa (zR (mQ jA (zN zr)))))) zx)))
abbrev PR:Stmt:=top 32
def Gf:qC ["table","firsts","a","row","b","kind"] ["table"] (zZ PR):=qM (by kernel_rfl)
def P7:Ex:=zj (zM 1 XY) (zj (qF (kD zr) (ji 2 3) (zj (qF (kD zP) (ji 4 5) (zj (jx (Yu Qb zt jq (qb (zh zK (zh qd zm))))) zx)) zx)) (zj (qA zt) zx))
abbrev PJ:Stmt:=top 33
def VP:qC ["table","firsts","pairs"] ["table"] (zZ PJ):=qM (by kernel_rfl)
def PZ (J:Fn)(g:Fn)(v:Fn):Ex:=zj (zM 1 (zH v (zh zr zm))) (zj (zM 2 (qY (zU 1 [1] (qN (zH J (zh zr zm))) (zE 0) qa (zR (zi XB zt zr))))) (zj (qA (qY (zU 2 [0] (qu zK) (ji 0 1) qa (zR (zH g (zh zK (zh zr (zh zt zm)))))))) zx))
abbrev Pg:Stmt:=top 34
def Ka:qC ["table","kind","a","b","shares","c","row","e","by"] ["table"] (zZ Pg):=qM (by kernel_rfl)
def VO (g:Fn)(v:Fn):Ex:=zj (qF (Wa (zH v (zh zr zm))) (Yy 1 2 3) (zj (zM 4 (zH g (zh zr (zh zK (zh zP zm))))) (zj (qF (kD zr) (ji 5 6) (zj (qF (kD jZ) (ji 7 8) (zj (jf (j0 (zi jB QD zt) (zi jo (zH g (zh zr (zh jq (zh kO zm)))) qd)) (zj (qA (qb (zh zK (zh zP (zh jq (zh kO zm)))))) zx) zx) zx)) zx)) zx))) (zj (qA Q8) zx)
abbrev RS:Stmt:=top 35
def Fq:qC ["table"] ["table"] (zZ RS):=qM (by kernel_rfl)
def Ga (a:Fn)(f:Fn):Ex:=zj (jx (zH f (zh zr zm))) (zj (jf ((λρ A=>((zi (WZ true) (zH a (zh zr zm)) Q8) ρ A).nox)) (zj (Wj "NotSteady" (zh (zW (.str "the table is not steady")) zm)) zx) zx) zx)
abbrev PX:Stmt:=top 37
def Eh:qC ["table"] ["table"] (zZ PX):=qM (by kernel_rfl)
def P5 (J:Fn):Ex:=zj (qA (qY (zU 1 [0] (qN (zH J (zh zr zm))) (zE 0) qa (zR (K7 Yv (zi zB zt zV) zr))))) zx
abbrev LW:Stmt:=top 39
def Ym:qC ["shares","start","some","i","j","later","now"] ["shares","start"] (zZ LW):=qM (by kernel_rfl)
def TF:Ex:=zj (zM 2 (mQ qc (zN zt))) (zj (qF (qN zK) (zE 3) (zj (qF (qN zK) (zE 4) (zj (zM 5 (qY (zU 1 [3,4] (qu (Q3 zr (Zk zK) JV)) (zE 0) qa (zR (zi zB (zi zB zr zt) zK))))) (zj (zM 6 (qY (zU 2 [3,4] (wA zr zt) (ji 0 1) qa (zR (zi qx (zi zB (zi zB zr zK) zP) zt))))) (zj (jf (j0 (yi (mQ YR (zN jq))) (zi jo (zi qx (zi zB zt zP) (zi zB zt qd)) (mQ wB (zN jZ)))) yU zx) zx)))) zx)) (zj (qA qa) zx))
abbrev R0:Stmt:=top 40
def J1:qC ["table","shares","starts","size","longer"] ["table"] (zZ R0):=qM (by kernel_rfl)
def RZ (K:Fn)(z:Fn)(E:Fn):Ex:=zj (zM 1 (zH E (zh zr zm))) (zj (zM 2 (qi (zh (qb (zh qp zm)) zm))) (zj (qF (qu (Q3 (zH K (zh zr zm)) (Zk qp) JV)) (zE 3) (zj (zM 4 (qY (zU 2 [3] (qu zK) (zE 0) qa (gI (Wn zK (zi yQ (yw Qs zK) qp)) (zE 1) qa (zR (zi qv zr (qb (zh zt zm)))))))) (zj (zM 2 (qY (zU 1 [1] (qu qd) (zE 0) (zH z (zh zt (zh zr zm))) (zR zr)))) zx))) (zj (qA zK) zx)))
abbrev R4:Stmt:=top 41
def FC:qC ["table"] ["table"] (zZ R4):=qM (by kernel_rfl)
def VE (J:Fn)(v:Fn)(f:Fn):Ex:=zj (jx (zH f (zh zr zm))) ((λρ A=>((zj (qA (zi jB (mQ qc (zN (zH v (zh zr zm)))) (zH J (zh zr zm)))) zx) ρ A).nox))
abbrev R6:Stmt:=top 42
def FL:qC ["table"] ["table"] (zZ R6):=qM (by kernel_rfl)
def Ge (f:Fn):Ex:=zj (jf (yi (zH f (zh zr zm))) (zj (Wj "NotWhole" (zh (zW (.str "the table has not as many weights as kinds")) zm)) zx) zx) zx
abbrev PU:Stmt:=top 43
def J7:qC ["table","weights","top","bottom","size","weight"] ["table","weights"] (zZ PU):=qM (by kernel_rfl)
def V3 (K:Fn):Ex:=zj (zM 2 zV) (zj (zM 3 qp) (zj (qF (wA (zH K (zh zr zm)) zt) (ji 4 5) (zj (zM 2 (zi qv (zi qx zK qd) (zi qx (zi qx jq jq) zP))) (zj (zM 3 (zi qx zP qd)) zx))) (zj (qA (zi kE (zi qx (mQ qc (zN zr)) zP) zK)) zx)))
abbrev RK:Stmt:=top 45
def RD:qC ["one","other"] ["one","other"] (zZ RK):=qM (by kernel_rfl)
def Fm:Ex:=zj (Xw 1000 (IJ zt) (zj (YU 0 1 zt (zi yL zr zt)) zx)) (zj (qA zr) zx)
abbrev NT:Stmt:=top 46
def NB:qC ["top","bottom","divisor"] ["top","bottom"] (zZ NT):=qM (by kernel_rfl)
def Az (f:Fn):Ex:=zj (zM 2 (zH f (zh (yw Vc zr) (zh zt zm)))) (zj (qA (qb (zh (zi kE zr zK) (zh (zi kE zt zK) zm)))) zx)
abbrev Lc:Stmt:=top 47
def K2:qC ["table","found","table_sizes","turned","weights","often"] ["table","found"] (zZ Lc):=qM (by kernel_rfl)
def TX (E:Fn)(K:Fn)(z:Fn):Ex:=zj (zM 2 (zH K (zh zr zm))) (zj (zM 3 (qi zm)) (zj (qF (qu zt) (zE 4) (zj (zM 5 (zH E (zh zr (zh qd zm)))) (zj (jx (jj jS zP (mQ jA (zU 2 [5] (wA qd zK) (ji 0 1) qa (zR (zH z (zh (zi qx zK zr) (zh zt zm)))))))) zx))) (zj (qA (mQ jA (zN zP))) zx)))
abbrev PD:Stmt:=top 48
def Eg:qC ["found","turned","order"] ["found","turned","order"] (zZ PD):=qM (by kernel_rfl)
def EH:Ex:=zj (qA (mQ Qx (zU 4 [0,1,2] (kD zK) (ji 0 1) qa (gI (kD jZ) (ji 2 3) qa (zR (zi jB (zi zB (zi zB jq zP) zr) (qb (zh (zi zB (zi zB qd zt) zK) (zh qp zm))))))))) zx
abbrev Ov:Stmt:=top 49
def Jj:qC ["table","found","turned","orders","kind","longer"] ["table"] (zZ Ov):=qM (by kernel_rfl)
def Kl (E:Fn)(v:Fn)(z:Fn)(f:Fn):Ex:=zj (jx (zH f (zh zr zm))) ((λρ A=>((zj (zM 1 (zH v (zh zr zm))) (zj (zM 2 (zH z (zh zr (zh zt zm)))) (zj (zM 3 (qi (zh (qb (zh zV zm)) zm))) (zj (qF (wy qp (mQ qc (zN zt))) (zE 4) (zj (zM 5 (qY (zU 2 [1] (qu zP) (zE 0) qa (gI (qN (mQ qc (zN zK))) (zE 1) (zi Xl zt zr) (zR (zi qv zr (qb (zh zt zm)))))))) (zj (zM 3 (qY (zU 1 [1,2] (qu jq) (zE 0) (zH E (zh zt (zh zK (zh zr zm)))) (zR zr)))) zx))) (zj (qA (Rc (IX zP) (zi zB zP zV) Q8)) zx))))) ρ A).nox))
abbrev Od:Stmt:=top 51
def Er:qC ["_law_table"] ["_law_table"] (zZ Od):=qM (by kernel_rfl)
def DF:Ex:=zj (qA (zi qv (mQ yS (zU 1 [] (qu zr) (zE 0) qa (zR (mQ yS (zN zr))))) qp)) zx
abbrev PK:Stmt:=top 52
def J5:qC ["_law_table","_law_a","_law_b","_law_kinds_here","_law_found","_law_i","_law_row","_law_j"] ["_law_table","_law_a","_law_b"] (zZ PK):=qM (by kernel_rfl)
def Pr (Z:Fn):Ex:=zj (zM 3 (zH Z (zh zr zm))) (zj (zM 4 (qi zm)) (zj (qF (qN zP) (zE 5) (zj (zM 6 (qi zm)) (zj (qF (qN zP) (zE 7) (zj (jx (jj jS jZ (jj QX (qY (zU 1 [0,1,2,5,7] (qN (mQ qc (zN zr))) (zE 0) qa (zR (j0 (zi jB (zi zB (zi zB zt zK) zr) qd) (zi jB (zi zB (zi zB zt zP) zr) jq))))) qa))) zx)) (zj (jx (jj jS qd jZ)) zx)))) (zj (qA qd) zx)))
abbrev Pj:Stmt:=top 53
def Y9:qC ["_law_table","_law_found","_law_kind","_law_a","_law_b"] ["_law_table"] (zZ Pj):=qM (by kernel_rfl)
def Pc (Z:Fn)(E:Fn):Ex:=zj (zM 1 (qi zm)) (zj (qF (qN (zH Z (zh zr zm))) (zE 2) (zj (qF (qN (mQ qc (zN zr))) (zE 3) (zj (qF (qN (mQ qc (zN zr))) (zE 4) (zj (jf (j0 (zi jB (mQ qc (zN zt)) zK) (zi jB (zi zB (zi zB zr zP) qd) zK)) (zj (jx (jj jS zt (zH E (zh zr (zh zP (zh qd zm)))))) zx) zx) zx)) zx)) zx)) (zj (qA zt) zx))
abbrev Oz:Stmt:=top 54
def ER:qC ["_law_table"] ["_law_table"] (zZ Oz):=qM (by kernel_rfl)
def Dl (Z:Fn):Ex:=zj (qA (qY (zU 1 [0] (qN (zH Z (zh zr zm))) (zE 0) qa (zR (K7 Yv (zi zB zt zV) zr))))) zx
abbrev OB:Stmt:=top 55
def E5:qC ["_law_thing"] ["_law_thing"] (zZ OB):=qM (by kernel_rfl)
def DC:Ex:=zj (qA (j0 (kQ .int zr) (yi (kQ .bl zr)))) zx
abbrev RP:Stmt:=top 56
def Y5:qC ["_law_table","_law_thing","_law_numbers_here","_law_i","_law_j","_law_total"] ["_law_table","_law_thing"] (zZ RP):=qM (by kernel_rfl)
def Vy (v:Fn)(D:Fn):Ex:=zj (zM 2 (zH v (zh zr zm))) (zj (jf (gQ (yi (kQ .tup zt)) (zi jo (mQ qc (zN zt)) (mQ qc (zN zK)))) yU zx) (zj (jf (gQ (yi (mQ Qx (zU 1 [] (qu zt) (zE 0) qa (zR (zH D (zh zr zm)))))) (zi jo (zi zB zt zV) qp)) yU zx) (zj (qF (qN (mQ qc (zN zt))) (zE 3) (zj (qF (qN (mQ qc (zN zt))) (zE 4) (zj (zM 5 (mQ wB (zU 1 [1,2,3,4] (qN (mQ qc (zN zt))) (zE 0) qa (zR (zi qx (zi zB (zi zB (zi zB zK zr) zP) qd) (zi zB zt zr)))))) (zj (jf (zi jo (zi qx (zi zB zt zP) (zi zB zt qd)) jq) yU zx) zx))) zx)) (zj (qA qa) zx))))
abbrev RQ:Stmt:=top 57
def w9:qC ["_law_table","_law_numbers_here","_law_near_by","_law_found","_law_kind","_law_longer","_law_row","_law_good","_law_i","_law_later","_law_total"] ["_law_table"] (zZ RQ):=qM (by kernel_rfl)
def RL (f:Fn)(v:Fn)(K:Fn):Ex:=zj (Qy (qb (zh (zH v (zh zr zm)) (zh (zH K (zh zr zm)) zm))) (ji 1 2)) (zj (zM 3 (qi (zh (qb (zh qp zm)) zm))) (zj (qF (wy qp (mQ qc (zN zK))) (zE 4) (zj (zM 5 (qi zm)) (zj (qF (qu zP) (zE 6) (zj (jx (jj Z9 jq (qY (zU 1 [6] (wy (zi yQ zV (zi zB zK qd)) (zi qv (zi zB zK qd) qp)) (zE 0) qa (zR (zi qv zt (qb (zh zr zm)))))))) zx)) (zj (zM 3 (qi zm)) (zj (qF (qu jq) (zE 6) (zj (zM 7 qa) (zj (qF (qN (zi qv qd qp)) (zE 8) (zj (zM 9 (qY (zU 1 [1,4,8] (wy (zi qv qd qp) (mQ qc (zN zK))) (zE 0) qa (zR (zi zB (zi zB (zi zB zt zr) zP) zK))))) (zj (jf (zi jB (mQ yS (zN (zi qv Y1 (qi (zh zV zm))))) zV) (zj (zM 10 (mQ wB (zU 1 [1,4,6,8] (qN (zi qv qd qp)) (zE 0) qa (zR (zi qx (zi zB (zi zB (zi zB zt zr) qd) zK) (zi zB zP zr)))))) (zj (zM 7 (j0 kO (zi jB (zi qx (zi zB jZ QD) (zi zB jZ qd)) YG))) zx)) zx) zx))) (zj (jf kO (zj (jx (jj jS zP jZ)) zx) zx) zx)))) zx))))) (zj (qA (XD (Xr (qY (zU 1 [0] (qu zP) (zE 0) (zH f (zh zt (zh zr zm))) (zR zr)))) (yw Qs qp))) zx)))
abbrev Ow:Stmt:=top 58
def J9:qC ["_law_table","_law_weights","_law_near_by","_law_top","_law_bottom","_law_size","_law_weight"] ["_law_table","_law_weights"] (zZ Ow):=qM (by kernel_rfl)
def Uc (K:Fn):Ex:=zj (zM 2 (zH K (zh zr zm))) (zj (Qy (qb (zh zV (zh qp zm))) (ji 3 4)) (zj (qF (wA zK zt) (ji 5 6) (zj (zM 3 (zi qv (zi qx zP jq) (zi qx (zi qx jZ jZ) qd))) (zj (zM 4 (zi qx qd jq)) zx))) (zj (qA (zi kE (zi qx (mQ qc (zN zr)) qd) zP)) zx)))
abbrev Pe:Stmt:=top 59
def VF:qC ["_law_top","_law_bottom","_law_one","_law_other"] ["_law_top","_law_bottom"] (zZ Pe):=qM (by kernel_rfl)
def F2:Ex:=zj (YU 2 3 (yw Vc zr) zt) (zj (Xw 1000 (zi jo zP zV) (zj (YU 2 3 zP (zi yL zK zP)) zx)) (zj (qA (qb (zh (zi kE zr zK) (zh (zi kE zt zK) zm)))) zx))
abbrev P0:Stmt:=top 60
def Kf:qC ["_law_table","_law_rows","_law_near_by","_law_found","_law_row","_law_often_here"] ["_law_table","_law_rows"] (zZ P0):=qM (by kernel_rfl)
def V2 (f:Fn)(D:Fn)(K:Fn):Ex:=zj (zM 2 (zH K (zh zr zm))) (zj (zM 3 (qi zm)) (zj (qF (qu zt) (zE 4) (zj (zM 5 (zH D (zh zr (zh qd zm)))) (zj (jx (jj jS zP (mQ jA (zU 1 [2,4,5] (qN (mQ qc (zN zK))) (zE 0) qa (zR (zH f (zh (zi qx zP (zi zB zK zr)) (zh (zi zB zt zr) zm)))))))) zx))) (zj (qA (mQ jA (zN zP))) zx)))
abbrev Pm:Stmt:=top 61
def FZ:qC ["_law_script","_law_k"] ["_law_script","_law_k"] (zZ Pm):=qM (by kernel_rfl)
def VR:Ex:=zj (jf (zi WQ zt (mQ qc (zN zr))) (zj (qA (zi zB zr zt)) zx) zx) (zj (qA zV) zx)
abbrev Og:Stmt:=top 62
def PV:qC ["_law_script","_law_k","_law_cell"] ["_law_script","_law_k"] (zZ Og):=qM (by kernel_rfl)
def Ue (f:Fn):Ex:=zj (zM 2 (zH f (zh zr (zh zt zm)))) (zj (jf (zi Rl zK (zi X0 SN (zW (.int 18)))) (zj (qA (qi (zh (zi yQ zK (zi X0 SN (zW (.int 18)))) (zh qa zm)))) zx) zx) (zj (qA (qi (zh (zi yL zK (zW (.int 2147483647))) (zh HD zm)))) zx))
abbrev OJ:Stmt:=top 63
def Gr:qC ["_law_state_here","_law_many","_law_found","_law_stirred"] ["_law_state_here","_law_many"] (zZ OJ):=qM (by kernel_rfl)
def Ul:Ex:=zj (jf (zi zB zr qp) (zj (zM 2 (zi yL (zi zB zr zV) zt)) (zj (ZK k9 (zi kE (zi zB zr zV) zt) zr zV) (zj (qA zK) zx))) zx) (zj (ZK k9 (zi yL (zi qv (zi qx (zi zB zr zV) (zW (.int 48271))) (zW (.int 29))) (zW (.int 2147483647))) zr zV) (zj (zM 3 (zi yL (zi qv (zi qv (zi qx (zi zB zr zV) (zi zB zr zV)) (zi qx (zW (.int 39373)) (zi zB zr zV))) YY) (zW (.int 2147483629)))) (zj (zM 3 (zi yL (zi qv (zi qx zP zP) (zi qx (zW (.int 16807)) zP)) (zW (.int 2147483587)))) (zj (qA (zi yL (zi kE zP JS) zt)) zx))))
abbrev Oj:Stmt:=top 64
def Ez:qC ["_law_many"] ["_law_many"] (zZ Oj):=qM (by kernel_rfl)
def Dq:Ex:=zj (qA (mQ jA (zU 1 [0] (qN zr) (zE 0) qa (zR (mQ jA (zU 1 [0] (qN zt) (zE 0) qa (zR (yw WI (zi jo zt zr))))))))) zx
abbrev OL:Stmt:=top 65
def DN:qC ["_law_many"] ["_law_many"] (zZ OL):=qM (by kernel_rfl)
def Cn:Ex:=zj (qA (mQ jA (zU 1 [0] (qN zr) (zE 0) qa (zR (mQ jA (zU 1 [0,1] (qN zt) (zE 0) qa (zR (zi XC (zi yL (zi yQ zt zr) zK) (zi yL (zi yQ zr zt) zK))))))))) zx
abbrev P8:Stmt:=top 66
def Kd:qC ["_law_many","_law_size","_law_found","_law_a","_law_row","_law_b"] ["_law_many","_law_size"] (zZ P8):=qM (by kernel_rfl)
def E6:Ex:=zj (zM 2 (qi zm)) (zj (qF (qN (zi qx zr zt)) (zE 3) (zj (zM 4 (qi zm)) (zj (qF (qN (zi qx zr zt)) (zE 5) (zj (jx (jj jS qd (zi qv (yw WI (zi jo zP jq)) (yw WI (j0 (zi jo (zi kE zP zt) (zi kE jq zt)) (zi Ri zt qp)))))) zx)) (zj (jx (jj jS zK (mQ jA (zN qd)))) zx)))) (zj (qA (mQ jA (zN zK))) zx))
abbrev Px:Stmt:=top 67
def VJ:qC ["_law_many","_law_found","_law_a"] ["_law_many"] (zZ Px):=qM (by kernel_rfl)
def EU:Ex:=zj (zM 1 (qi zm)) (zj (qF (qN (zi WK qp zr)) (zE 2) (zj (jx (jj jS zt (mQ jA (zU 1 [0,2] (qN (zi WK qp zr)) (zE 0) qa (zR (jj QX (qY (zU 1 [0,2] (qN zt) (zE 0) qa (zR (zi Il (zi IQ (zi Sr zK zt) zr) qp)))) qp)))))) zx)) (zj (qA (mQ jA (zN zt))) zx))
abbrev R8:Stmt:=top 68
def FG:qC ["_law_many"] ["_law_many"] (zZ R8):=qM (by kernel_rfl)
def FU:Ex:=zj (qA (mQ jA (zU 1 [0] (qN (zi WK qp zr)) (zE 0) qa (zR (mQ jA (zU 1 [0] (qN (zi WK qp zt)) (zE 0) qa (zR (zi Sr zt zr)))))))) zx
abbrev Oo:Stmt:=top 69
def Kj:qC ["_law_many","_law_pairs_here","_law_a","_law_found","_law_one"] ["_law_many"] (zZ Oo):=qM (by kernel_rfl)
def D7:Ex:=zj (zM 1 (qi zm)) (zj (qF (qN zr) (zE 2) (zj (jx (jj Z9 zt (qY (zU 1 [2] (wy (zi qv zK qp) zr) (zE 0) qa (zR (qb (zh zt (zh zr zm)))))))) zx)) (zj (zM 3 (qi zm)) (zj (qF (qu zt) (zE 4) (zj (jx (jj jS zP (mQ jA (zU 1 [4] (qu zt) (zE 0) qa (zR (zi yQ W5 (M7 (zi qv zt zr)))))))) zx)) (zj (qA (mQ jA (zU 1 [] (qu zP) (zE 0) qa (zR (mQ jA (zU 1 [] (qu zr) (zE 0) qa (zR (zi zB (qi (zh wG (zh qp (zh zV zm)))) zr)))))))) zx))))
abbrev Pw:Stmt:=top 70
def J4:qC ["_law_one","_law_other","_law_many","_law_found","_law_a","_law_row","_law_b","_law_first"] ["_law_one","_law_other"] (zZ Pw):=qM (by kernel_rfl)
def E4 (Z:Fn):Ex:=zj (YU 2 3 (zH Z (zh zt zm)) (qi zm)) (zj (qF (qN (zi qx (mQ qc (zN zr)) (mQ qc (zN zt)))) (zE 4) (zj (zM 5 (qi zm)) (zj (qF (qN (zi qx (mQ qc (zN zr)) (mQ qc (zN zt)))) (zE 6) (zj (zM 7 (zi zB (zi zB zr (zi kE qd (mQ qc (zN zt)))) (zi kE jZ (mQ qc (zN zt))))) (zj (jx (jj jS jq (zi qv (zi qx kO zK) (zi zB (zi zB zt (zi yL qd (mQ qc (zN zt)))) (zi yL jZ (mQ qc (zN zt))))))) zx))) (zj (jx (jj jS zP (mQ jA (zN jq)))) zx)))) (zj (qA (mQ jA (zN zP))) zx))
abbrev PM:Stmt:=top 71
def J6:qC ["_law_one","_law_other","_law_more","_law_found","_law_a","_law_row","_law_b","_law_first"] ["_law_one","_law_other"] (zZ PM):=qM (by kernel_rfl)
def Ey (Z:Fn):Ex:=zj (YU 2 3 (zi yQ (zH Z (zh zt zm)) qp) (qi zm)) (zj (qF (qN (zi qx (mQ qc (zN zr)) (mQ qc (zN zt)))) (zE 4) (zj (zM 5 (qi zm)) (zj (qF (qN (zi qx (mQ qc (zN zr)) (mQ qc (zN zt)))) (zE 6) (zj (zM 7 (zi zB (zi zB zr (zi kE qd (mQ qc (zN zt)))) (zi kE jZ (mQ qc (zN zt))))) (zj (jx (jj jS jq (Rc (zi Ri kO zV) (zi qv kO zK) (zi zB (zi zB zt (zi yL qd (mQ qc (zN zt)))) (zi yL jZ (mQ qc (zN zt))))))) zx))) (zj (jx (jj jS zP (mQ jA (zN jq)))) zx)))) (zj (qA (mQ jA (zN zP))) zx))
abbrev Oq:Stmt:=top 72
def V8:qC ["_law_state_here","_law_many","_law_left","_law_found"] ["_law_state_here","_law_many"] (zZ Oq):=qM (by kernel_rfl)
def OC (w:Fn):Ex:=zj (zM 2 (Xh zt)) (zj (zM 3 (qi zm)) (zj (Xw 1000 (zi jo zK (qi zm)) (zj (jx (jj jS zP (jj Zf zK (zH w (zh zr (zh (mQ qc (zN zK)) zm)))))) zx)) (zj (qA (mQ jA (zN zP))) zx)))
abbrev Oy:Stmt:=top 73
def EW:qC ["_law_table","_law_order","_law_names"] ["_law_table","_law_order","_law_names"] (zZ Oy):=qM (by kernel_rfl)
def Oi:Ex:=zj (qA (mQ jA (zU 1 [0,1,2] (qu zt) (zE 0) qa (zR (mQ jA (zU 1 [0,1,3] (qu zK) (zE 0) qa (zR (zi zB zP (zi zB (zi zB zK zt) zr))))))))) zx
abbrev RH:Stmt:=top 74
def Vu:qC ["_law_state_here","_law_table","_law_kinds_here","_law_names"] ["_law_state_here","_law_table"] (zZ RH):=qM (by kernel_rfl)
def RJ (Z:Fn)(o:Fn)(D:Fn):Ex:=zj (zM 2 (zH Z (zh zt zm))) (zj (zM 3 (zi qv (qi (zh zV zm)) (qY (zU 1 [] (qu (zH o (zh zr (zh (zi yQ zK qp) zm)))) (zE 0) qa (zR (zi qv qp zr)))))) (zj (qA (zH D (zh zt (zh (zH o (zh zr (zh (mQ qc (zN zt)) zm))) (zh zP zm))))) zx))
abbrev RW:Stmt:=top 75
def W8:qC ["_law_state_here","_law_way","_law_some"] ["_law_state_here"] (zZ RW):=qM (by kernel_rfl)
def RU (Y:Fn)(e:Fn)(E:Fn)(f:Fn)(D:Fn)(Q:Fn)(w:Fn)(J:Fn)(a:Fn)(b:Fn):Ex:=zj (zM 1 (zH w (zh zr (zh WU zm)))) (zj (zM 2 (qi (zh (zH Y (zh YV zm)) (zh (zH Q (zh mj zm)) (zh (zH Q (zh W5 zm)) (zh (zH E (zh wG (zh QF zm))) (zh (zH a (zh QF zm)) (zh (zH f (zh wG zm)) zm)))))))) (zj (zM 2 (zi qv zK (qi (zh (zH D (zh W5 zm)) (zh (zH e (zh (zH Y (zh wG zm)) (zh (zH Y (zh QF zm)) zm))) (zh (zH b (zh (zH Y (zh wG zm)) (zh (zH Q (zh W5 zm)) zm))) zm)))))) (zj (qA (zH J (zh zr (zh (zi zB zK zt) zm)))) zx)))
abbrev Um:Stmt:=top 76
def DE:qC ["_law_found","_law_due_here"] ["_law_found","_law_due_here"] (zZ Um):=qM (by kernel_rfl)
def Kw (Z:Fn):Ex:=zj (jf (IM .tup .lst zt) (zj (jf (gQ (zi jo (kQ .tup zr) (kQ .tup zt)) (zi jo (kQ .lst zr) (kQ .lst zt))) yU zx) (zj (jf (zi jo (mQ qc (zN zr)) (mQ qc (zN zt))) yU zx) (zj (qA (mQ Qx (zU 2 [] (wA zr zt) (ji 0 1) qa (zR (zH Z (zh zr (zh zt zm))))))) zx))) zx) (zj (qA (j0 (zi jB zr zt) (zi jB (kQ .bl zr) (kQ .bl zt)))) zx)
def Gu {K:Frag}{k:Nat}(T:Bu mg){f:Addr}(F:kR K "_law_same" "_law_same" Um f fd)(hm:mg "_law_same"=some (.ref f)){Z:Fn}(QP:zJ P w K mg base k "_law_same" 2 Z):zJ P w K mg base (k+1) "_law_same" 2 (qt 2 (Kw Z)):=
 qZ F hm DE (λ_ _ _ _ _ _=>yN λ_ _=>rfl) λc A outer s H E h=>zq (yb (kU (l4 .tup .lst T.jP T.jL T.K3 (by rfl) (by rfl) (zc 1))) (zq (yb (QV (Wc (yF (kh h) (gj .tup T.jP T.jL (by rfl) (zc 0)) (gj .tup T.jP T.jL (by rfl) (zc 1))) (KW (yF (kh h) (gj .lst T.jP T.K3 (by rfl) (zc 0)) (gj .lst T.jP T.K3 (by rfl) (zc 1)))))) (zq (qw yA) zF) zF) (zq (yb (yF (kh h) (jc T.ja (qD (zc 0))) (jc T.ja (qD (zc 1)))) (zq (qw yA) zF) zF) (zq (qw (Jt rfl T.JD (yd (jE (N:=["_law_one","_law_other"]) 2 [] (Yn rfl T.YA (zc 0) (zc 1)) (λ_ _ _=>⟨kq 0 1 rfl (qP (by kernel_rfl)),qW,qV (qf QP h (zp (zc 0) (zp (zc 1) zw)))⟩))))) zF))) zF) (zq (qw (ZC (kC (we h) (zc 0) (zc 1)) (Z6 (kC (we h) (gj .bl T.jP T.Xt (by rfl) (zc 0)) (gj .bl T.jP T.Xt (by rfl) (zc 1)))))) zF)
abbrev VT:Stmt:=top 77
def Z2:qC ["_law_call","_law_error","e","_law_marks"] ["_law_call"] (zZ VT):=qM (by kernel_rfl)
def VI:Ex:=zj (zM 3 (qi (zh (jh (jw qT "NoTable") zt) (zh (jh (jw qT "NotSteady") zt) (zh (jh (jw qT "NoPlace") zt) zm))))) (zj (zM 3 (zi qv zP (qi (zh (jh (jw qT "NoKind") zt) (zh (jh (jw qT "NoMix") zt) (zh (jh (jw qT "NoNumber") zt) zm)))))) (zj (zM 3 (zi qv zP (qi (zh (jh (jw qT "NoLot") zt) (zh (jh (jw qT "NoKinds") zt) (zh (jh (jw qT "NoPaper") zt) zm)))))) (zj (zM 3 (zi qv zP (qi (zh (jh (jw qT "NoParting") zt) (zh (jh (jw qT "NoClosed") zt) (zh (jh (jw qT "TooMany") zt) zm)))))) (zj (zM 3 (zi qv zP (qi (zh (jh (jw qT "NoText") zt) (zh (jh (jw qT "NoLine") zt) (zh (jh (jw qT "NoDeed") zt) zm)))))) (zj (zM 3 (zi qv zP (qi (zh (jh (jw qT "NoWeights") zt) (zh (jh (jw qT "NotWhole") zt) (zh (jh (jw qT "NoNumbers") zt) zm)))))) (zj (jf (yi (jh (Rb qT) zt)) (zj (qA Q8) zx) zx) (zj (qA (qY (zU 1 [3] (qN (zW (.int 18))) (zE 0) (zi zB zt zr) (zR zr)))) zx)))))))
def Kc (PG:gM)(lam:Nat->Fn):Ex:=zj (zM 1 Q8) (zj (WD 0 1 2 qT PG lam) VI)
def Ej {K:Frag}{k:Nat}(T:Bu mg)(C:wY K qT "NearError")(R:GI.all (QY K qT)=true){f:Addr}(F:kR K "_law_refused" "_law_refused" VT f fd)(hm:mg "_law_refused"=some (.ref f)){PG:gM}{lam:Nat->Fn}(h:kk<=k)(L:∀k,Q2 P w K mg base kk (PG k) (lam k)):zJ P w K mg base (k+1) "_law_refused" 1 (qt 4 (Kc PG lam)):=
 qZ F hm Z2 (λ_ _ _ _ _ _=>j4 λ_=>rfl) λc A outer s H E r=>zq (ql 1 Z2.nd Ju) (zq (lZ L (r.mono h) rfl rfl C.top_at C.top_exc (by decide +kernel) C.under Z2.nd rfl rfl rfl rfl rfl rfl rfl) (zq (ql 3 Z2.nd (qS (zp (kz (C.isx (jK R)) (kA (jK R)) T.jP (zc 1)) (zp (kz (C.isx (jK R)) (kA (jK R)) T.jP (zc 1)) (zp (kz (C.isx (jK R)) (kA (jK R)) T.jP (zc 1)) zw))) (zD (zD (zD zO))))) (zq (ql 3 Z2.nd (jI (zc 3) (qS (zp (kz (C.isx (jK R)) (kA (jK R)) T.jP (zc 1)) (zp (kz (C.isx (jK R)) (kA (jK R)) T.jP (zc 1)) (zp (kz (C.isx (jK R)) (kA (jK R)) T.jP (zc 1)) zw))) (zD (zD (zD zO)))))) (zq (ql 3 Z2.nd (jI (zc 3) (qS (zp (kz (C.isx (jK R)) (kA (jK R)) T.jP (zc 1)) (zp (kz (C.isx (jK R)) (kA (jK R)) T.jP (zc 1)) (zp (kz (C.isx (jK R)) (kA (jK R)) T.jP (zc 1)) zw))) (zD (zD (zD zO)))))) (zq (ql 3 Z2.nd (jI (zc 3) (qS (zp (kz (C.isx (jK R)) (kA (jK R)) T.jP (zc 1)) (zp (kz (C.isx (jK R)) (kA (jK R)) T.jP (zc 1)) (zp (kz (C.isx (jK R)) (kA (jK R)) T.jP (zc 1)) zw))) (zD (zD (zD zO)))))) (zq (ql 3 Z2.nd (jI (zc 3) (qS (zp (kz (C.isx (jK R)) (kA (jK R)) T.jP (zc 1)) (zp (kz (C.isx (jK R)) (kA (jK R)) T.jP (zc 1)) (zp (kz (C.isx (jK R)) (kA (jK R)) T.jP (zc 1)) zw))) (zD (zD (zD zO)))))) (zq (ql 3 Z2.nd (jI (zc 3) (qS (zp (kz (C.isx (jK R)) (kA (jK R)) T.jP (zc 1)) (zp (kz (C.isx (jK R)) (kA (jK R)) T.jP (zc 1)) (zp (kz (C.isx (jK R)) (kA (jK R)) T.jP (zc 1)) zw))) (zD (zD (zD zO)))))) (zq (yb (Zc (kU (l0 C.isv T.jP T.DP (by rfl) (zc 1)))) (zq (qw Ju) zF) zF) (zq (qw (gf (jE (N:=["_law_k","_law_marks"]) 1 [3] (jz rfl T.q9 zG) (λ_ _ _=>⟨qk 0 (qP (by kernel_rfl)),KJ (kU (qm (zc 1) (zc 0))),qV (zc 0)⟩)))) zF)))))))))
abbrev RX:Stmt:=top 78
def Vz:qC ["_law_state_here","_law_some"] ["_law_state_here"] (zZ RX):=qM (by kernel_rfl)
def RY (w:Fn):Ex:=zj (zM 1 (qi (zh Q8 (zh zV (zh (qb zm) (zh (qb (zh (qb (zh qp zm)) zm)) (zh (qb (zh (qb (zh zV (zh qp zm))) (zh (qb (zh qp (zh zV zm))) (zh (qb (zh zV (zh zV zm))) zm)))) (zh (qb (zh (qb (zh zV (zh wG zm))) (zh (qb (zh wG (zh zV zm))) zm))) (zh (qb (zh (qb (zh zV (zh qp zm))) (zh (qb (zh wG (zh zV zm))) zm))) (zh (qi (zh (qb (zh zV (zh qp zm))) (zh (qb (zh qp (zh zV zm))) zm))) zm)))))))))) (zj (zM 1 (zi qv zt (qi (zh (qb (zh (qb (zh zV (zh zV zm))) (zh (qb (zh zV (zh zV zm))) zm))) (zh (qb (zh (qb (zh zV (zh qa zm))) (zh (qb (zh qa (zh zV zm))) zm))) (zh (qb (zh (qb (zh zV (zh qp zm))) (zh (qi (zh qp (zh zV zm))) zm))) (zh (qb (zh (qb (zh zV (zh qp zm))) zm)) (zh (zW (.str "01/10")) (zh XY (zh (zi Qn (qb (zh (zi Qn (qb (zh zV zm)) WU) zm)) WU) zm)))))))))) (zj (qA (zi zB zt (zH w (zh zr (zh (zW (.int 15)) zm))))) zx))
abbrev P2:Stmt:=top 79
def Ke:qC ["_law_state_here","_law_many","_law_rows","_law_a","_law_b"] ["_law_state_here"] (zZ P2):=qM (by kernel_rfl)
def PQ (Y:Fn)(w:Fn):Ex:=zj (zM 1 (zi qv W5 (zH w (zh zr (zh YV zm))))) (zj (zM 2 (qY (zU 1 [] (qu (zH Y (zh zt zm))) (zE 0) qa (zR (qY (zN zr)))))) (zj (zM 3 (zH w (zh zr (zh zt zm)))) (zj (zM 4 (zi yL (zi qv (zi qv zP qp) (zH w (zh zr (zh (zi yQ zt qp) zm)))) zt)) (zj (ZK k9 wG (zi zB zK zP) qd) (zj (ZK k9 wG (zi zB zK qd) zP) (zj (qA (mQ jA (zU 1 [] (qu zK) (zE 0) qa (zR (mQ jA (zN zr)))))) zx))))))
abbrev Y4:Stmt:=top 80
def Rx:qC ["_law_state_here","_law_calls","_law_bad","_law_broken_here"] ["_law_state_here","_law_calls"] (zZ Y4):=qM (by kernel_rfl)
noncomputable abbrev kS:Str:=(("_law_no_table_right":Str)++(".<locals>.":Str))++("<lambda>":Str)
noncomputable abbrev QZ:Str:=(("law":Str)++(".<locals>.":Str))++("<lambda>":Str)
def KQ (j:Fn):Lm:=So (Sz (Hh (S6 (IV ((yW Y4).getD 1 JB)))) 0) ["_law_call","_law_bad"] [0,1] (Q1 0 "self_order" j (zh zt zm))
def ml {K:Frag}{k:Nat}(T:Bu mg){j:Fn}(o:∀base,yj P w K mg base k "self_order" 1 j):YI P w K mg k kS (KQ j):=
 ⟨⟨rfl,rfl,rfl,UH (by kernel_rfl)⟩,λ_ _ _ _=>rfl,λbase cl a c A outer s H E h x=>yE (Nt x (o base) h (zp (zc 1) zw) (zD zO))⟩
def KS (j:Fn):Lm:=So (Sz (Hh (S6 (lq ((yW Y4).getD 2 JB)))) 0) ["_law_call","_law_broken_here"] [0,1] (Q1 0 "self_order" j (zh zt zm))
def mn {K:Frag}{k:Nat}(T:Bu mg){j:Fn}(o:∀base,yj P w K mg base k "self_order" 1 j):YI P w K mg k kS (KS j):=
 ⟨⟨rfl,rfl,rfl,UH (by kernel_rfl)⟩,λ_ _ _ _=>rfl,λbase cl a c A outer s H E h x=>yE (Nt x (o base) h (zp (zc 1) zw) (zD zO))⟩
def Vt (b:Fn)(g:Fn)(j:Fn)(RG:Lm->Nat->List W->Hx->R W)(P:Addr):Ex:=zj (Qy (qb (zh (zH b (zh zr zm)) (zh (zH g (zh zr zm)) zm))) (ji 2 3)) (zj (jf (zi jo (qY (zU 1 [2] (qu zt) (zE 0) qa (zR (wN 2 kS P (KQ j).idx (RG (KQ j) 0))))) (zi qx (qi (zh (qi (zh zV zm)) zm)) (mQ qc (zN zt)))) yU zx) (zj (qA (zi jB (qY (zU 1 [3] (qu zt) (zE 0) qa (zR (wN 2 kS P (KS j).idx (RG (KS j) 0))))) (zi qx (qi (zh (qi (zh qp zm)) zm)) (mQ qc (zN zt))))) zx))
def HV {K:Frag}{k:Nat}(T:Bu mg){f:Addr}(F:kR K "_law_no_table_right" "_law_no_table_right" Y4 f fd)(hn:nsIn K mainGlobals "_law_no_table_right"=some (some (.ref f)))(e:tabIn K "_law_no_table_right"=some (c,Pt))(hm:mg "_law_no_table_right"=some (.ref f))(hB:BMain mg base)(C:CodeHd base c Pt){d:Fn}(J3:zJ P w K mg base k "_law_bad_table" 1 d){g:Fn}(Kk:zJ P w K mg base k "_law_broken" 1 g){RG:Lm->Nat->List W->Hx->R W}(a:kk<=k){J:Fn}(XL_self_order:∀base,yj P w K mg base j "self_order" 1 J)(b:∀t base PG,(∀k,Q2 P w K mg base (j+1) (PG k) (wR [t] k))->zJ P w K mg base kk "_law_refused" 1 (Qu PG (RG t))):zJ P w K mg base (k+1) "_law_no_table_right" 2 (qt 4 (Vt d g J RG Pt)):=
 mh F hn e hm Rx (λ_ _ _ _ _ _=>yN λ_ _=>rfl) λA outer s H E r=>zq (Td (qX (zp (qf J3 r (zp (zc 0) zw)) (zp (qf Kk r (zp (zc 0) zw)) zw)) (zD (zD zO))) (kq 2 3 rfl Rx.nd)) (zq (yb (yF (kh r) (gf (NC (N:=["_law_call","_law_bad"]) 1 [2] rfl (cps (by kernel_rfl)) (by kernel_rfl) (Tv λ_=>rfl) (jN (zc 1)) (λ_ _ _ h=>⟨qk 0 (qP (by kernel_rfl)),qW,qV (UP (t:=KQ J) h (ml T XL_self_order) (by kernel_rfl) (b _) (r.mono a) hB rfl C rfl rfl)⟩))) (jQ (qS (zp (qS (zp zG zw) (zD zO)) zw) (zD zO)) (jc T.ja (qD (zc 1))))) (zq (qw yA) zF) zF) (zq (qw (kC (we r) (gf (NC (N:=["_law_call","_law_broken_here"]) 1 [3] rfl (cps (by kernel_rfl)) (by kernel_rfl) (Tv λ_=>rfl) (jN (zc 1)) (λ_ _ _ h=>⟨qk 0 (qP (by kernel_rfl)),qW,qV (UP (t:=KS J) h (mn T XL_self_order) (by kernel_rfl) (b _) (r.mono a) hB rfl C rfl rfl)⟩))) (jQ (qS (zp (qS (zp zG zw) (zD zO)) zw) (zD zO)) (jc T.ja (qD (zc 1)))))) zF))
abbrev OZ:Stmt:=top 81
def gc:qC ["_law_table","_law_rows","_law_turned_here","_law_found","_law_kind","_law_longer","_law_order","_law_place","_law_row","_law_wrong","_law_i","_law_there"] ["_law_table"] (zZ OZ):=qM (by kernel_rfl)
def Uy (f:Fn)(D:Fn):Ex:=zj (zM 1 (zH f (zh zr zm))) (zj (zM 2 (zH D (zh zr (zh zt zm)))) (zj (zM 3 (qi (zh (qb (zh zV zm)) zm))) (zj (qF (wy qp (mQ qc (zN zt))) (zE 4) (zj (zM 5 (qi zm)) (zj (qF (qu zP) (zE 6) (zj (qF (wy qp (mQ qc (zN zt))) (zE 7) (zj (jf (zi Xl kO jZ) (zj (zM 8 (zi qv jZ (qb (zh kO zm)))) (zj (zM 9 (qi zm)) (zj (qF (qN (zi qv qd qp)) (zE 10) (zj (zM 11 (zi zB QD YG)) (zj (jx (jj jS Y1 (zi jo (zi zB (zi zB zK kO) YG) (qb (zh (zi zB (zi zB zt Hm) qd) (zh qp zm)))))) (zj (jx (jj jS Y1 (zi jo (zi zB (zi zB zK Hm) qd) (qb (zh (zi zB (zi zB zt kO) YG) (zh qp zm)))))) zx)))) (zj (jf (zi Xl qa Y1) (zj (jx (jj jS jq QD)) zx) zx) zx)))) zx) zx)) zx)) (zj (zM 3 jq) zx)))) (zj (qA (zi zB (zi qv zP (qi (zh Q8 zm))) zV)) zx))))
abbrev Wy:Stmt:=top 82
def We:qC ["_law_script","_law_k","_law_state_here","_law_table","_law_part"] ["_law_script"] (zZ Wy):=qM (by kernel_rfl)
def K0 (j:Fn):Lm:=So (Sz (S6 (IV (lp ((yW Wy).getD 0 JB) 3))) 0) ["_law_part"] [4] (zH j (zh zr zm))
def AD {K:Frag}{k:Nat}(T:Bu mg){j:Fn}(o:∀base,yj P w K mg base k "self_order" 1 j):YI P w K mg k QZ (K0 j):=
 ⟨⟨rfl,rfl,rfl,UH (by kernel_rfl)⟩,λ_ _ _ _=>rfl,λbase cl a c A outer s H E h x=>yE (KD x (o base) h (zp (zc 0) zw))⟩
def T9 (B:Fn)(a:Fn)(Q:Fn)(Z:Fn)(g:Fn)(w:Fn)(J:Fn)(Y:Fn)(K:Fn)(j:Fn)(RG:Lm->Nat->List W->Hx->R W)(P:Addr):Ex:=zj (qF (qN (zi Sk qp (zi XC (mQ qc (zN zr)) QF))) (zE 1) (zj (zM 2 (zH g (zh zr (zh zt zm)))) (zj (qF (qu (qi (zh (zH Y (zh zK zm)) (zh (zH Y (zh zK zm)) zm)))) (zE 3) (zj (jf (yi (zH Z (zh (zH K (zh zP zm)) (zh (zH B (zh zP zm)) zm)))) yU zx) zx)) (zj (zM 4 (zH J (zh zK (zh (zH Q (zh (zi zB (qi (zh YV (zh YY (zh JS zm)))) (zH w (zh zK (zh QF zm)))) zm)) zm)))) (zj (jf (zi jo (wN 1 QZ P (K0 j).idx (RG (K0 j) 0)) (qi (zh (zW (.int 16)) zm))) yU zx) (zj (jf (yi (zH a (zh zK (zh (qi (zh (zW (.fn "self_order")) zm)) zm)))) yU zx) zx)))))) (zj (qA (zi jB (zH K (zh (qb (zh (qb (zh zV zm)) zm)) zm)) (qb (zh zV zm)))) zx)
def o_law {K:Frag}{k:Nat}(T:Bu mg){f:Addr}(F:kR K "law" "law" Wy f fd)(hn:nsIn K mainGlobals "law"=some (some (.ref f)))(i:tabIn K "law"=some (c,Pt))(hB:BMain mg base)(C:CodeHd base c Pt){B:Fn}(QS:zJ P w K mg base k "_law_due" 1 B){d:Fn}(n:zJ P w K mg base k "_law_no_table_right" 2 d){Q:Fn}(gB:zJ P w K mg base k "_law_ring" 1 Q){Z:Fn}(QP:zJ P w K mg base k "_law_same" 2 Z){q:Fn}(Ya:zJ P w K mg base k "_law_state" 2 q){b:Fn}(yO:zJ P w K mg base k "_law_take" 2 b){g:Fn}(ZZ:zJ P w K mg base k "_law_turned_about" 2 g){Y:Fn}(Zu:zJ P w K mg base k "_law_whole_one" 1 Y){e:Fn}(Zv:zJ P w K mg base k "self_order" 1 e){RG:Lm->Nat->List W->Hx->R W}(a:kk<=k){J:Fn}(XL_self_order:∀base,yj P w K mg base j "self_order" 1 J)(N_self_order:Nm K "self_order")(l:∀t base PG,(∀k,Q2 P w K mg base (j+1) (PG k) (wR [t] k))->zJ P w K mg base kk "_law_refused" 1 (Qu PG (RG t))):yG P w K mg base wc (k+1) f fd ["_law_script"] (Zo K 1 (qt 5 (T9 B d Q Z q b g Y e J RG Pt))):=
 mf F hn i We λA outer s H E h=>zq (jl PassesOwn.never rfl (jz rfl T.q9 (iT rfl T.JG zG (Mh rfl T.Ir (jc T.ja (qD (zc 0))) zG))) (qk 1 We.nd) (zq (ql 2 We.nd (qf Ya h (zp (zc 0) (zp (zc 1) zw)))) (zq (jl PassesOwn.never rfl (jN (qS (zp (qf Zu h (zp (zc 2) zw)) (zp (qf Zu h (zp (zc 2) zw)) zw)) (zD (zD zO)))) (qk 3 We.nd) (zq (yb (Zc (kU (qf QP h (zp (qf Zv h (zp (zc 3) zw)) (zp (qf QS h (zp (zc 3) zw)) zw))))) (zq (qw yA) zF) zF) zF)) (zq (ql 4 We.nd (qf ZZ h (zp (zc 2) (zp (qf gB h (zp (qm (qS (zp zG (zp zG (zp zG zw))) (zD (zD (zD zO)))) (qf yO h (zp (zc 2) (zp zG zw)))) zw)) zw)))) (zq (yb (yF (kh h) (UP (t:=K0 J) (Tv λ_=>rfl) (AD T XL_self_order) (by kernel_rfl) (l _) (h.mono a) hB rfl C rfl rfl) (qS (zp zG zw) (zD zO))) (zq (qw yA) zF) zF) (zq (yb (Zc (kU (qf n h (zp (zc 2) (zp (qS (zp (md N_self_order) zw) (zD zO)) zw))))) (zq (qw yA) zF) zF) zF)))))) (zq (qw (kC (we h) (qf Zv h (zp (qX (zp (qX (zp zG zw) (zD zO)) zw) (zD zO)) zw)) (qX (zp zG zw) (zD zO)))) zF)
def Uw:Fn:=qt 1 C3
def Kx:Fn :=  Uw
def Nd:Fn:=qt 5 Nw
def UE:Fn:=iso Nd
def Rz:Fn:=qt 2 RC
def Vv:Fn:=iso Rz
def PN:Fn:=qt 1 Oc
def QM:Fn:=iso PN
def VY:Fn:=qt 6 P7
def J8:Fn:=iso VY
def Xm:Fn:=qt 7 TF
def Yx:Fn:=yI Xm
def RO:Fn:=qt 2 Fm
def RN:Fn:=iso RO
def Ob:Fn:=qt 3 EH
def Gn:Fn:=yI Ob
def Of:Fn:=qt 1 DF
def QN:Fn:=iso Of
def OD:Fn:=qt 1 DC
def Ug:Fn:=iso OD
def Ph:Fn:=qt 4 F2
def VM:Fn:=iso Ph
def Pq:Fn:=qt 2 VR
def Gh:Fn :=  Pq
def Ku:Fn:=qt 4 Ul
def yO:Fn:=yI Ku
def Ua:Fn:=qt 1 Dq
def Jl:Fn:=iso Ua
def ON:Fn:=qt 1 Cn
def gB:Fn:=iso ON
def PL:Fn:=qt 6 E6
def VX:Fn:=iso PL
def P6:Fn:=qt 3 EU
def VW:Fn:=iso P6
def R9:Fn:=qt 1 FU
def VH:Fn:=iso R9
def OA:Fn:=qt 5 D7
def Uj:Fn:=iso OA
def Ui:Fn:=qt 3 Oi
def Gp:Fn :=  Ui
def Gx:Fn:=qt 2 (Up Kx)
def Yd:Fn :=  Gx
def Pp:Fn:=qt 7 (Pn QM)
def g9:Fn:=iso Pp
def PY:Fn:=qt 1 (P5 QM)
def Za:Fn:=iso PY
def NK:Fn:=qt 3 (Az RN)
def UL:Fn:=iso NK
def Gk:Fn:=qt 8 (Pr QN)
def Ki:Fn:=JH Gk
def Om:Fn:=qt 1 (Dl QN)
def Z3:Fn:=iso Om
def Ol:Fn:=qt 3 (Ue Gh)
def Ya:Fn :=  Ol
def PC:Fn:=qt 8 (E4 QN)
def V7:Fn:=iso PC
def Py:Fn:=qt 8 (Ey QN)
def VZ:Fn:=iso Py
def Ub:Fn:=qt 4 (OC yO)
def Jk:Fn:=yI Ub
def VD:Fn:=qt 2 (RY yO)
def J3:Fn :=  VD
def Pz:Fn:=qt 5 (PQ Jl yO)
def Kk:Fn:=yI Pz
def W9:Fn:=qt 3 (VA Yd)
def Z0:Fn :=  W9
def P9:Fn:=qt 3 (PZ QM g9 J8)
def Gi:Fn:=iso P9
def Pf:Fn:=qt 9 (VO g9 J8)
def Jh:Fn:=iso Pf
def P4:Fn:=qt 6 (V3 Za)
def Kh:Fn:=iso P4
def VL:Fn:=qt 5 (Pc QN Ki)
def QL:Fn :=  VL
def OF:Fn:=qt 7 (Uc Z3)
def Km:Fn:=iso OF
def Vw:Fn:=qt 4 (RJ QN Jk Gp)
def ZZ:Fn:=yI Vw
def Kz:Fn:=qt 2 (Gy UE Z0 Vv)
def Zy:Fn :=  Kz
def R1:Fn:=qt 5 (RZ Za Yx Gi)
def gA:Fn:=iso R1
def LH:Fn:=qt 6 (TX Kh Za UL)
def Tq:Fn :=  LH
def RM:Fn:=qt 6 (Vy QL Ug)
def Jf:Fn:=iso RM
def Oa:Fn:=qt 6 (V2 VM Km Z3)
def V4:Fn :=  Oa
def R5:Fn:=qt 3 (RU Jl V7 VX VH Uj gB yO ZZ VW VZ)
def Zu:Fn:=yI R5
def DS:Fn:=qt 2 (Kw (λ_ _=>.bad))
def Ox:Fn:=iso DS
def DK:Fn:=qt 2 (Kw Ox)
def Oh:Fn:=iso DK
def Dr:Fn:=qt 2 (Kw Oh)
def OE:Fn:=iso Dr
def OI:Fn:=qt 2 (Kw OE)
def QP:Fn:=iso OI
def Y8:Fn:=kK 1 (VG Zy)
def Vx:Fn:=qt 11 (RL Jf QL Z3)
def J0:Fn:=iso Vx
def Jg:Fn:=kK 1 (Ga Jh Y8)
def OT:Fn:=qt 12 (Uy J0 V4)
def QS:Fn:=iso OT
def Y6:Fn:=kK 1 (VE QM gA Jg)
def Z1:Fn:=kK 1 (Ge Y6)
def yK:Fn:=kK 6 (Kl Gn gA Tq Z1)
def Zv:Fn:=iso (λws A=>(yK ws A).nox)
structure Tx (K:Frag):Prop where
 CY:FD K "is_whole" OX
 B3:FD K "is_even" Nn
 HX:FD K "leaves_no_kind_out" RA
 EX:FD K "count_kinds" PH
 EC:FD K "first_pairs" PR
 zdg:FD K "fits" LW
 Fh:FD K "greatest_divisor" RK
 E3:FD K "keeps_order" PD
 DB:FD K "_law_kinds" Od
 DI:FD K "_law_whole" OB
 Ee:FD K "_law_divided" Pe
 Ek:FD K "_law_cell_at" Pm
 D9:FD K "_law_take" OJ
 Dz:FD K "_law_alike" Oj
 Cu:FD K "_law_ring" OL
 Dh:FD K "_law_blocks" P8
 EL:FD K "_law_unlike" Px
 FX:FD K "_law_each_own" R8
 DM:FD K "_law_pairs" Oo
 Ds:FD K "_law_named" Oy
 Cj:FD K "is_wholes" OH
 El:FD K "count_shares" Pb
 Df:FD K "count_sizes" PX
 zaY:FD K "lowest" NT
 EA:FD K "_law_shares" PK
 Dm:FD K "_law_sizes" Oz
 DZ:FD K "_law_state" Og
 EE:FD K "_law_beside" Pw
 Dj:FD K "_law_within" PM
 D3:FD K "_law_mixed" Oq
 FK:FD K "_law_bad_table" RX
 EF:FD K "_law_broken" P2
 Fs:FD K "is_wholes_below" RR
 Es:FD K "kind_shares" PJ
 Ef:FD K "search_break" Pg
 ES:FD K "count_often" PU
 F3:FD K "_law_numbers" Pj
 D8:FD K "_law_often" Ow
 Fb:FD K "_law_turned_about" RH
 CB:FD K "is_table" O2
 FQ:FD K "search_weights" R0
 zc5:FD K "turn" Lc
 Fc:FD K "_law_are_weights" RP
 EM:FD K "_law_turned" P0
 FT:FD K "_law_whole_one" RW
 Gw:FD K "_law_same" Um
 FY:FD K "require_table" R7
 Ff:FD K "_law_all_weights" RQ
 FN:FD K "require_steady" RS
 CI:FD K "_law_due" OZ
 FE:FD K "is_whole_table" R4
 FV:FD K "require_whole" R6
 Oe:FD K "self_order" Ov
 F8:FD K "_law_refused" VT
 HU:FD K "_law_no_table_right" Y4
 zeZ:FD K "law" Wy
 Dn:nsIn K mainGlobals "ValueError"=some none
 zfk:nsIn K mainGlobals "abs"=some none
 ze7:nsIn K mainGlobals "all"=some none
 zeX:nsIn K mainGlobals "any"=some none
 zcQ:nsIn K mainGlobals "bool"=some none
 Cq:nsIn K mainGlobals "enumerate"=some none
 zf1:nsIn K mainGlobals "int"=some none
 DO:nsIn K mainGlobals "isinstance"=some none
 zeN:nsIn K mainGlobals "len"=some none
 zc1:nsIn K mainGlobals "list"=some none
 zeG:nsIn K mainGlobals "max"=some none
 zfZ:nsIn K mainGlobals "min"=some none
 zcv:nsIn K mainGlobals "range"=some none
 zfA:nsIn K mainGlobals "set"=some none
 Av:nsIn K mainGlobals "sorted"=some none
 zfT:nsIn K mainGlobals "sum"=some none
 zbA:nsIn K mainGlobals "tuple"=some none
 ze8:nsIn K mainGlobals "zip"=some none
 Dc:CD K "MOST_PLACES" 8
 zfW:qT.all (Xy K "NearError" ·)=true
 zeO:TR K "NearError"=true
 zfH:GI.all (QY K qT)=true
section
variable {K:Frag}
def bu (X:K.In h)(G:h.Ns mainGlobals mg)(T:Tx K):Bu mg:=⟨aU X G T.Dn,aU X G T.zfk,aU X G T.ze7,aU X G T.zeX,aU X G T.zcQ,aU X G T.Cq,aU X G T.zf1,aU X G T.DO,aU X G T.zeN,aU X G T.zc1,aU X G T.zeG,aU X G T.zfZ,aU X G T.zcv,aU X G T.zfA,aU X G T.Av,aU X G T.zfT,aU X G T.zbA,aU X G T.ze8,(let ⟨t,e⟩:=T.Dc;⟨t,aP X G e⟩)⟩
def cl (T:Tx K):wY K qT "NearError":=lh T.zfW T.zeO
structure Zz (K:Frag)(h:Heap)(mg:bZ):Prop where
 X:K.In h
 G:h.Ns mainGlobals mg
 T:Tx K
 B:Bu mg
 C:wY K qT "NearError"
def zz (X:K.In h)(G:h.Ns mainGlobals mg)(T:Tx K):Zz K h mg:=⟨X,G,T,bu X G T,cl T⟩
def Bg (Z:Zz K h mg):zJ P w K mg base 1 "is_whole" 1 Kx:=by
 obtain⟨f,fd,F,a⟩:=Z.T.CY;exact(qZ F (aP Z.X Z.G a) Cb (λ_ _ _ _ _ _=>j4 λ_=>rfl) λc A outer s H E r=>zq (qw (ZC (gj .int Z.B.jP Z.B.Wx (by rfl) (zc 0)) (Z6 (Lb (gj .bl Z.B.jP Z.B.Xt (by rfl) (zc 0)))))) (zF):zJ P w K mg base 1 "is_whole" 1 Uw)
def BA (Z:Zz K h mg):zJ P w K mg base 1 "is_even" 1 UE:=by
 obtain⟨f,fd,F,a⟩:=Z.T.B3;exact(qZ F (aP Z.X Z.G a) Ux (λ_ _ _ _ _ _=>j4 λ_=>rfl) λc A outer s H E r=>zq (jl PassesOwn.never rfl (QU rfl Z.B.QQ (zc 0)) (kq 1 2 rfl Ux.nd) (zq (jl PassesOwn.never rfl (QU rfl Z.B.QQ (zc 2)) (kq 3 4 rfl Ux.nd) (zq (yb (QV (Wc (yF (kh r) (kC (we r) (zc 4) zG) (kC (we r) (zc 1) (zc 3))) (KW (yF (kh r) (qm (qm (zc 0) (zc 3)) (zc 1)) (zc 4))))) (zq (qw yA) zF) zF) zF)) zF)) (zq (qw yA) zF):zJ P w K mg base 1 "is_even" 1 Nd).iso
def HY (Z:Zz K h mg):zJ P w K mg base 1 "leaves_no_kind_out" 1 Vv:=by
 obtain⟨f,fd,F,a⟩:=Z.T.HX;exact(qZ F (aP Z.X Z.G a) Ry (λ_ _ _ _ _ _=>j4 λ_=>rfl) λc A outer s H E r=>zq (ql 1 Ry.nd (gf (jE (N:=["row","kind"]) 2 [] (jN (zc 0)) (λ_ _ _=>⟨qk 0 (qP (by kernel_rfl)),qW,G7 (λ_ _ z=>z) rfl rfl (by intro _ h;cases h<;>rfl) (jN (zc 0)) (qk 1 (qP (by kernel_rfl))) qW (qV (zc 1))⟩)))) (zq (qw (Jt rfl Z.B.JD (yd (jE (N:=["kind","standing"]) 1 [1] (jz rfl Z.B.q9 (Yj rfl Z.B.JG (qD (zc 1)))) (λ_ _ _=>⟨qk 0 (qP (by kernel_rfl)),qW,qV (iP hG (zc 0) (zc 1))⟩))))) zF):zJ P w K mg base 1 "leaves_no_kind_out" 1 Rz).iso
def Gm (Z:Zz K h mg):zJ P w K mg base 1 "count_kinds" 1 QM:=by
 obtain⟨f,fd,F,a⟩:=Z.T.EX;exact(qZ F (aP Z.X Z.G a) Ec (λ_ _ _ _ _ _=>j4 λ_=>rfl) λc A outer s H E r=>zq (qw (jI (Yj rfl Z.B.JG (yd (jE (N:=["row"]) 1 [] (jN (zc 0)) (λ_ _ _=>⟨qk 0 (qP (by kernel_rfl)),qW,qV (Yj rfl Z.B.JG (qD (zc 0)))⟩)))) zG)) (zF):zJ P w K mg base 1 "count_kinds" 1 PN).iso
def P1 (Z:Zz K h mg):zJ P w K mg base 1 "first_pairs" 1 J8:=by
 obtain⟨f,fd,F,a⟩:=Z.T.EC;exact(qZ F (aP Z.X Z.G a) Gf (λ_ _ _ _ _ _=>j4 λ_=>rfl) λc A outer s H E r=>zq (ql 1 Gf.nd MB) (zq (jl PassesOwn.never rfl (QU rfl Z.B.QQ (zc 0)) (kq 2 3 rfl Gf.nd) (zq (jl PassesOwn.never rfl (QU rfl Z.B.QQ (zc 3)) (kq 4 5 rfl Gf.nd) (zq (yu (C5 (zc 1) (zc 5) (qX (zp (zc 2) (zp (zc 4) zw)) (zD (zD zO))))) zF)) zF)) (zq (qw (zc 1)) zF)):zJ P w K mg base 1 "first_pairs" 1 VY).iso
def mu (Z:Zz K h mg):zJ P w K mg base 1 "fits" 2 Yx:=by
 obtain⟨f,fd,F,a⟩:=Z.T.zdg;exact(qZ F (aP Z.X Z.G a) Ym (λ_ _ _ _ _ _=>yN λ_ _=>rfl) λc A outer s H E r=>zq (ql 2 Ym.nd (jc Z.B.ja (qD (zc 1)))) (zq (jl PassesOwn.never rfl (jz rfl Z.B.q9 (zc 2)) (qk 3 Ym.nd) (zq (jl PassesOwn.never rfl (jz rfl Z.B.q9 (zc 2)) (qk 4 Ym.nd) (zq (Zx 5 (N:=["by_kind","i","j"]) 1 [3,4] Ym.nd rfl (cps (by kernel_rfl)) (by kernel_rfl) (jN (Mc (zc 0) (M0 (zc 2)) LI)) (λ_ _ _=>⟨qk 0 (qP (by kernel_rfl)),qW,qV (qm (qm (zc 0) (zc 1)) (zc 2))⟩)) (zq (Zx 6 (N:=["by_kind","weight","i","j"]) 2 [3,4] Ym.nd rfl (cps (by kernel_rfl)) (by kernel_rfl) (Yn rfl Z.B.YA (zc 0) (zc 1)) (λ_ _ _=>⟨kq 0 1 rfl (qP (by kernel_rfl)),qW,qV (jQ (qm (qm (zc 0) (zc 2)) (zc 3)) (zc 1))⟩)) (zq (yb (QV (U7 (Zc (kU (iM rfl Z.B.zfl (qD (zc 5))))) (UR (yF (kh r) (jQ (qm (zc 1) (zc 3)) (qm (zc 1) (zc 4))) (UU rfl Z.B.T7 (qD (zc 6))))))) (zq (qw yA) zF) zF) zF)))) zF)) (zq (qw yA) zF)):zJ P w K mg base 1 "fits" 2 Xm).yI
def Fe (Z:Zz K h mg):zJ P w K mg base 1 "greatest_divisor" 2 RN:=by
 obtain⟨f,fd,F,a⟩:=Z.T.Fh;exact(qZ F (aP Z.X Z.G a) RD (λ_ _ _ _ _ _=>yN λ_ _=>rfl) λc A outer s H E r=>zq (UG 1000 PassesOwn.never (l9 (zc 1)) (zq (KY 0 1 rfl RD.nd (zc 1) (wq (zc 0) (zc 1))) zF)) (zq (qw (zc 0)) zF):zJ P w K mg base 1 "greatest_divisor" 2 RO).iso
def Et (Z:Zz K h mg):zJ P w K mg base 1 "keeps_order" 3 Gn:=by
 obtain⟨f,fd,F,a⟩:=Z.T.E3;exact(qZ F (aP Z.X Z.G a) Eg (λ_ _ _ _ _ _=>W2 λ_ _ _=>rfl) λc A outer s H E r=>zq (qw (Jt rfl Z.B.JD (yd (jE (N:=["i","first","j","second","found","turned","order"]) 4 [0,1,2] (QU rfl Z.B.QQ (zc 2)) (λ_ _ _=>⟨kq 0 1 rfl (qP (by kernel_rfl)),qW,G7 (λ_ _ z=>z) rfl rfl (by intro _ h;cases h<;>rfl) (QU rfl Z.B.QQ (zc 6)) (kq 2 3 rfl (qP (by kernel_rfl))) qW (qV (kC (we r) (qm (qm (zc 5) (zc 3)) (zc 0)) (qX (zp (qm (qm (zc 4) (zc 1)) (zc 2)) (zp zG zw)) (zD (zD zO)))))⟩))))) (zF):zJ P w K mg base 1 "keeps_order" 3 Ob).yI
def Yc (Z:Zz K h mg):zJ P w K mg base 1 "_law_kinds" 1 QN:=by
 obtain⟨f,fd,F,a⟩:=Z.T.DB;exact(qZ F (aP Z.X Z.G a) Er (λ_ _ _ _ _ _=>j4 λ_=>rfl) λc A outer s H E r=>zq (qw (jI (Yj rfl Z.B.JG (yd (jE (N:=["_law_row"]) 1 [] (jN (zc 0)) (λ_ _ _=>⟨qk 0 (qP (by kernel_rfl)),qW,qV (Yj rfl Z.B.JG (qD (zc 0)))⟩)))) zG)) (zF):zJ P w K mg base 1 "_law_kinds" 1 Of).iso
def Du (Z:Zz K h mg):zJ P w K mg base 1 "_law_whole" 1 Ug:=by
 obtain⟨f,fd,F,a⟩:=Z.T.DI;exact(qZ F (aP Z.X Z.G a) E5 (λ_ _ _ _ _ _=>j4 λ_=>rfl) λc A outer s H E r=>zq (qw (ZC (gj .int Z.B.jP Z.B.Wx (by rfl) (zc 0)) (Z6 (Lb (gj .bl Z.B.jP Z.B.Xt (by rfl) (zc 0)))))) (zF):zJ P w K mg base 1 "_law_whole" 1 OD).iso
def Eb (Z:Zz K h mg):zJ P w K mg base 1 "_law_divided" 2 VM:=by
 obtain⟨f,fd,F,a⟩:=Z.T.Ee;exact(qZ F (aP Z.X Z.G a) VF (λ_ _ _ _ _ _=>yN λ_ _=>rfl) λc A outer s H E r=>zq (KY 2 3 rfl VF.nd (M6 Z.B.IG (zc 0)) (zc 1)) (zq (UG 1000 PassesOwn.never (yF (kh r) (zc 3) zG) (zq (KY 2 3 rfl VF.nd (zc 3) (wq (zc 2) (zc 3))) zF)) (zq (qw (qX (zp (wK (zc 0) (zc 2)) (zp (wK (zc 1) (zc 2)) zw)) (zD (zD zO)))) zF)):zJ P w K mg base 1 "_law_divided" 2 Ph).iso
def F6 (Z:Zz K h mg):zJ P w K mg base 1 "_law_cell_at" 2 Gh:=by
 obtain⟨f,fd,F,a⟩:=Z.T.Ek;exact(qZ F (aP Z.X Z.G a) FZ (λ_ _ _ _ _ _=>yN λ_ _=>rfl) λc A outer s H E r=>zq (yb (yF IL (zc 1) (jc Z.B.ja (qD (zc 0)))) (zq (qw (qm (zc 0) (zc 1))) zF) zF) (zq (qw zG) zF):zJ P w K mg base 1 "_law_cell_at" 2 Pq)
def Jm (Z:Zz K h mg):zJ P w K mg base 1 "_law_take" 2 yO:=by
 obtain⟨f,fd,F,a⟩:=Z.T.D9;exact(qZ F (aP Z.X Z.G a) Gr (λ_ _ _ _ _ _=>yN λ_ _=>rfl) λc A outer s H E r=>zq (yb (kU (qm (zc 0) zG)) (zq (ql 2 Gr.nd (wq (qm (zc 0) zG) (zc 1))) (zq (G4 (wK (qm (zc 0) zG) (zc 1)) (zc 0) zG) (zq (qw (zc 2)) zF))) zF) (zq (G4 (wq (jI (jQ (qm (zc 0) zG) zG) zG) zG) (zc 0) zG) (zq (ql 3 Gr.nd (wq (jI (jI (jQ (qm (zc 0) zG) (qm (zc 0) zG)) (jQ zG (qm (zc 0) zG))) zG) zG)) (zq (ql 3 Gr.nd (wq (jI (jQ (zc 3) (zc 3)) (jQ zG (zc 3))) zG)) (zq (qw (wq (wK (zc 3) zG) (zc 1))) zF)))):zJ P w K mg base 1 "_law_take" 2 Ku).yI
def Kr (Z:Zz K h mg):zJ P w K mg base 1 "_law_alike" 1 Jl:=by
 obtain⟨f,fd,F,a⟩:=Z.T.Dz;exact(qZ F (aP Z.X Z.G a) Ez (λ_ _ _ _ _ _=>j4 λ_=>rfl) λc A outer s H E r=>zq (qw (j7 Z.B.jL (yd (jE (N:=["_law_a","_law_many"]) 1 [0] (jz rfl Z.B.q9 (zc 0)) (λ_ _ _=>⟨qk 0 (qP (by kernel_rfl)),qW,qV (j7 Z.B.jL (yd (jE (N:=["_law_b","_law_a"]) 1 [0] (jz rfl Z.B.q9 (zc 1)) (λ_ _ _=>⟨qk 0 (qP (by kernel_rfl)),qW,qV (UA Z.B.Wx (kC (kh r) (zc 1) (zc 0)))⟩))))⟩))))) (zF):zJ P w K mg base 1 "_law_alike" 1 Ua).iso
def Gs (Z:Zz K h mg):zJ P w K mg base 1 "_law_ring" 1 gB:=by
 obtain⟨f,fd,F,a⟩:=Z.T.Cu;exact(qZ F (aP Z.X Z.G a) DN (λ_ _ _ _ _ _=>j4 λ_=>rfl) λc A outer s H E r=>zq (qw (j7 Z.B.jL (yd (jE (N:=["_law_a","_law_many"]) 1 [0] (jz rfl Z.B.q9 (zc 0)) (λ_ _ _=>⟨qk 0 (qP (by kernel_rfl)),qW,qV (j7 Z.B.jL (yd (jE (N:=["_law_b","_law_a","_law_many"]) 1 [0,1] (jz rfl Z.B.q9 (zc 1)) (λ_ _ _=>⟨qk 0 (qP (by kernel_rfl)),qW,qV (Mh rfl Z.B.Ir (wq (Z7 (zc 1) (zc 0)) (zc 2)) (wq (Z7 (zc 0) (zc 1)) (zc 2)))⟩))))⟩))))) (zF):zJ P w K mg base 1 "_law_ring" 1 ON).iso
def EY (Z:Zz K h mg):zJ P w K mg base 1 "_law_blocks" 2 VX:=by
 obtain⟨f,fd,F,a⟩:=Z.T.Dh;exact(qZ F (aP Z.X Z.G a) Kd (λ_ _ _ _ _ _=>yN λ_ _=>rfl) λc A outer s H E r=>zq (ql 2 Kd.nd (qS zw zO)) (zq (jl PassesOwn.never rfl (jz rfl Z.B.q9 (jQ (zc 0) (zc 1))) (qk 3 Kd.nd) (zq (ql 4 Kd.nd (qS zw zO)) (zq (jl PassesOwn.never rfl (jz rfl Z.B.q9 (jQ (zc 0) (zc 1))) (qk 5 Kd.nd) (zq (yu (km (zc 4) (jI (UA Z.B.Wx (kC (kh r) (zc 3) (zc 5))) (UA Z.B.Wx (ZC (kC (kh r) (wK (zc 3) (zc 1)) (wK (zc 5) (zc 1))) (Z6 (kC Hn (zc 1) zG))))))) zF)) (zq (yu (km (zc 2) (j7 Z.B.jL (qD (zc 4))))) zF)))) (zq (qw (j7 Z.B.jL (qD (zc 2)))) zF)):zJ P w K mg base 1 "_law_blocks" 2 PL).iso
def EO (Z:Zz K h mg):zJ P w K mg base 1 "_law_unlike" 1 VW:=by
 obtain⟨f,fd,F,a⟩:=Z.T.EL;exact(qZ F (aP Z.X Z.G a) VJ (λ_ _ _ _ _ _=>j4 λ_=>rfl) λc A outer s H E r=>zq (ql 1 VJ.nd (qS zw zO)) (zq (jl PassesOwn.never rfl (jz rfl Z.B.q9 (Xf zG (zc 0))) (qk 2 VJ.nd) (zq (yu (km (zc 1) (j7 Z.B.jL (yd (jE (N:=["_law_b","_law_many","_law_a"]) 1 [0,2] (jz rfl Z.B.q9 (Xf zG (zc 0))) (λ_ _ _=>⟨qk 0 (qP (by kernel_rfl)),qW,qV (O3 (gf (jE (N:=["_law_at","_law_b","_law_a"]) 1 [0,2] (jz rfl Z.B.q9 (zc 1)) (λ_ _ _=>⟨qk 0 (qP (by kernel_rfl)),qW,qV (AA (l8 (MC (zc 2) (zc 1)) (zc 0)) zG)⟩))) zG)⟩)))))) zF)) (zq (qw (j7 Z.B.jL (qD (zc 1)))) zF)):zJ P w K mg base 1 "_law_unlike" 1 P6).iso
def F0 (Z:Zz K h mg):zJ P w K mg base 1 "_law_each_own" 1 VH:=by
 obtain⟨f,fd,F,a⟩:=Z.T.FX;exact(qZ F (aP Z.X Z.G a) FG (λ_ _ _ _ _ _=>j4 λ_=>rfl) λc A outer s H E r=>zq (qw (j7 Z.B.jL (yd (jE (N:=["_law_a","_law_many"]) 1 [0] (jz rfl Z.B.q9 (Xf zG (zc 0))) (λ_ _ _=>⟨qk 0 (qP (by kernel_rfl)),qW,qV (j7 Z.B.jL (yd (jE (N:=["_law_b","_law_a"]) 1 [0] (jz rfl Z.B.q9 (Xf zG (zc 1))) (λ_ _ _=>⟨qk 0 (qP (by kernel_rfl)),qW,qV (MC (zc 1) (zc 0))⟩))))⟩))))) (zF):zJ P w K mg base 1 "_law_each_own" 1 R9).iso
def DA (Z:Zz K h mg):zJ P w K mg base 1 "_law_pairs" 1 Uj:=by
 obtain⟨f,fd,F,a⟩:=Z.T.DM;exact(qZ F (aP Z.X Z.G a) Kj (λ_ _ _ _ _ _=>j4 λ_=>rfl) λc A outer s H E r=>zq (ql 1 Kj.nd (qS zw zO)) (zq (jl PassesOwn.never rfl (jz rfl Z.B.q9 (zc 0)) (qk 2 Kj.nd) (zq (yu (O0 (zc 1) (gf (jE (N:=["_law_b","_law_a"]) 1 [2] (Jp rfl Z.B.q9 (jI (zc 2) zG) (zc 0)) (λ_ _ _=>⟨qk 0 (qP (by kernel_rfl)),qW,qV (qX (zp (zc 1) (zp (zc 0) zw)) (zD (zD zO)))⟩))))) zF)) (zq (ql 3 Kj.nd (qS zw zO)) (zq (jl PassesOwn.never rfl (jN (zc 1)) (qk 4 Kj.nd) (zq (yu (km (zc 3) (j7 Z.B.jL (yd (jE (N:=["_law_other","_law_one"]) 1 [4] (jN (zc 1)) (λ_ _ _=>⟨qk 0 (qP (by kernel_rfl)),qW,qV (Z7 zG (C0 rfl Z.B.ja Z.B.zeR (jI (zc 1) (zc 0))))⟩)))))) zF)) (zq (qw (j7 Z.B.jL (yd (jE (N:=["_law_row"]) 1 [] (jN (zc 3)) (λ_ _ _=>⟨qk 0 (qP (by kernel_rfl)),qW,qV (j7 Z.B.jL (yd (jE (N:=["_law_kind"]) 1 [] (jN (zc 0)) (λ_ _ _=>⟨qk 0 (qP (by kernel_rfl)),qW,qV (qm (qS (zp zG (zp zG (zp zG zw))) (zD (zD (zD zO)))) (zc 0))⟩))))⟩))))) zF)))):zJ P w K mg base 1 "_law_pairs" 1 OA).iso
def DL (Z:Zz K h mg):zJ P w K mg base 1 "_law_named" 3 Gp:=by
 obtain⟨f,fd,F,a⟩:=Z.T.Ds;exact(qZ F (aP Z.X Z.G a) EW (λ_ _ _ _ _ _=>W2 λ_ _ _=>rfl) λc A outer s H E r=>zq (qw (j7 Z.B.jL (yd (jE (N:=["_law_a","_law_table","_law_order","_law_names"]) 1 [0,1,2] (jN (zc 1)) (λ_ _ _=>⟨qk 0 (qP (by kernel_rfl)),qW,qV (j7 Z.B.jL (yd (jE (N:=["_law_b","_law_a","_law_table","_law_names"]) 1 [0,1,3] (jN (zc 2)) (λ_ _ _=>⟨qk 0 (qP (by kernel_rfl)),qW,qV (qm (zc 3) (qm (qm (zc 2) (zc 1)) (zc 0)))⟩))))⟩))))) (zF):zJ P w K mg base 1 "_law_named" 3 Ui)
def Cg (Z:Zz K h mg):zJ P w K mg base 2 "is_wholes" 2 Yd:=by
 obtain⟨f,fd,F,a⟩:=Z.T.Cj;exact(qZ F (aP Z.X Z.G a) DH (λ_ _ _ _ _ _=>yN λ_ _=>rfl) λc A outer s H E r=>zq (qw (ZC (gj .tup Z.B.jP Z.B.jL (by rfl) (zc 0)) (ZC (kC (we r) (jc Z.B.ja (qD (zc 0))) (zc 1)) (Z6 (Jt rfl Z.B.JD (yd (jE (N:=["part"]) 1 [] (jN (zc 0)) (λ_ _ _=>⟨qk 0 (qP (by kernel_rfl)),qW,qV (qf (Bg Z).up r (zp (zc 0) zw))⟩)))))))) (zF):zJ P w K mg base 2 "is_wholes" 2 Gx)
def VU (Z:Zz K h mg):zJ P w K mg base 2 "count_shares" 3 g9:=by
 obtain⟨f,fd,F,a⟩:=Z.T.El;exact(qZ F (aP Z.X Z.G a) Gd (λ_ _ _ _ _ _=>W2 λ_ _ _=>rfl) λc A outer s H E r=>zq (ql 3 Gd.nd (qf (Gm Z).up r (zp (zc 0) zw))) (zq (Zx 4 (N:=["kind","many"]) 1 [3] Gd.nd rfl (cps (by kernel_rfl)) (by kernel_rfl) (jz rfl Z.B.q9 (zc 3)) (λ_ _ _=>⟨qk 0 (qP (by kernel_rfl)),qW,qV (jQ (qS (zp zG zw) (zD zO)) (zc 1))⟩)) (zq (jl PassesOwn.never rfl (Yn rfl Z.B.YA (qm (zc 0) (zc 1)) (qm (zc 0) (zc 2))) (kq 5 6 rfl Gd.nd) (zq (AV (qm (zc 4) (zc 5)) (zc 6) zG) zF)) (zq (qw (j7 Z.B.jL (yd (jE (N:=["row"]) 1 [] (jN (zc 4)) (λ_ _ _=>⟨qk 0 (qP (by kernel_rfl)),qW,qV (j7 Z.B.jL (qD (zc 0)))⟩))))) zF))):zJ P w K mg base 2 "count_shares" 3 Pp).iso
def V5 (Z:Zz K h mg):zJ P w K mg base 2 "count_sizes" 1 Za:=by
 obtain⟨f,fd,F,a⟩:=Z.T.Df;exact(qZ F (aP Z.X Z.G a) Eh (λ_ _ _ _ _ _=>j4 λ_=>rfl) λc A outer s H E r=>zq (qw (gf (jE (N:=["kind","table"]) 1 [0] (jz rfl Z.B.q9 (qf (Gm Z).up r (zp (zc 0) zw))) (λ_ _ _=>⟨qk 0 (qP (by kernel_rfl)),qW,qV (Nj (qm (zc 1) zG) (zc 0))⟩)))) (zF):zJ P w K mg base 2 "count_sizes" 1 PY).iso
def mv (Z:Zz K h mg):zJ P w K mg base 2 "lowest" 2 UL:=by
 obtain⟨f,fd,F,a⟩:=Z.T.zaY;exact(qZ F (aP Z.X Z.G a) NB (λ_ _ _ _ _ _=>yN λ_ _=>rfl) λc A outer s H E r=>zq (ql 2 NB.nd (qf (Fe Z).up r (zp (M6 Z.B.IG (zc 0)) (zp (zc 1) zw)))) (zq (qw (qX (zp (wK (zc 0) (zc 2)) (zp (wK (zc 1) (zc 2)) zw)) (zD (zD zO)))) zF):zJ P w K mg base 2 "lowest" 2 NK).iso
def EJ (Z:Zz K h mg):zJ P w K mg base 2 "_law_shares" 3 Ki:=by
 obtain⟨f,fd,F,a⟩:=Z.T.EA;exact(qZ F (aP Z.X Z.G a) J5 (λ_ _ _ _ _ _=>W2 λ_ _ _=>rfl) λc A outer s H E r=>zq (ql 3 J5.nd (qf (Yc Z).up r (zp (zc 0) zw))) (zq (ql 4 J5.nd (qS zw zO)) (zq (jl PassesOwn.never rfl (jz rfl Z.B.q9 (zc 3)) (qk 5 J5.nd) (zq (ql 6 J5.nd (qS zw zO)) (zq (jl PassesOwn.never rfl (jz rfl Z.B.q9 (zc 3)) (qk 7 J5.nd) (zq (yu (km (zc 6) (O3 (gf (jE (N:=["_law_c","_law_table","_law_a","_law_b","_law_i","_law_j"]) 1 [0,1,2,5,7] (jz rfl Z.B.q9 (jc Z.B.ja (qD (zc 0)))) (λ_ _ _=>⟨qk 0 (qP (by kernel_rfl)),qW,qV (ZC (kC (we r) (qm (qm (zc 1) (zc 2)) (zc 0)) (zc 4)) (Z6 (kC (we r) (qm (qm (zc 1) (zc 3)) (zc 0)) (zc 5))))⟩))) yA))) zF)) (zq (yu (km (zc 4) (zc 6))) zF)))) (zq (qw (zc 4)) zF))):zJ P w K mg base 2 "_law_shares" 3 Gk).JH
def Uk (Z:Zz K h mg):zJ P w K mg base 2 "_law_sizes" 1 Z3:=by
 obtain⟨f,fd,F,a⟩:=Z.T.Dm;exact(qZ F (aP Z.X Z.G a) ER (λ_ _ _ _ _ _=>j4 λ_=>rfl) λc A outer s H E r=>zq (qw (gf (jE (N:=["_law_kind","_law_table"]) 1 [0] (jz rfl Z.B.q9 (qf (Yc Z).up r (zp (zc 0) zw))) (λ_ _ _=>⟨qk 0 (qP (by kernel_rfl)),qW,qV (Nj (qm (zc 1) zG) (zc 0))⟩)))) (zF):zJ P w K mg base 2 "_law_sizes" 1 Om).iso
def D1 (Z:Zz K h mg):zJ P w K mg base 2 "_law_state" 2 Ya:=by
 obtain⟨f,fd,F,a⟩:=Z.T.DZ;exact(qZ F (aP Z.X Z.G a) PV (λ_ _ _ _ _ _=>yN λ_ _=>rfl) λc A outer s H E r=>zq (ql 2 PV.nd (qf (F6 Z).up r (zp (zc 0) (zp (zc 1) zw)))) (zq (yb (yF fM (zc 2) (Mk zG zG)) (zq (qw (qS (zp (Z7 (zc 2) (Mk zG zG)) (zp yA zw)) (zD (zD zO)))) zF) zF) (zq (qw (qS (zp (wq (zc 2) zG) (zp yA zw)) (zD (zD zO)))) zF)):zJ P w K mg base 2 "_law_state" 2 Ol)
def EG (Z:Zz K h mg):zJ P w K mg base 2 "_law_beside" 2 V7:=by
 obtain⟨f,fd,F,a⟩:=Z.T.EE;exact(qZ F (aP Z.X Z.G a) J4 (λ_ _ _ _ _ _=>yN λ_ _=>rfl) λc A outer s H E r=>zq (KY 2 3 rfl J4.nd (qf (Yc Z).up r (zp (zc 1) zw)) (qS zw zO)) (zq (jl PassesOwn.never rfl (jz rfl Z.B.q9 (jQ (jc Z.B.ja (qD (zc 0))) (jc Z.B.ja (qD (zc 1))))) (qk 4 J4.nd) (zq (ql 5 J4.nd (qS zw zO)) (zq (jl PassesOwn.never rfl (jz rfl Z.B.q9 (jQ (jc Z.B.ja (qD (zc 0))) (jc Z.B.ja (qD (zc 1))))) (qk 6 J4.nd) (zq (ql 7 J4.nd (qm (qm (zc 0) (wK (zc 4) (jc Z.B.ja (qD (zc 1))))) (wK (zc 6) (jc Z.B.ja (qD (zc 1)))))) (zq (yu (km (zc 5) (jI (jQ (zc 7) (zc 2)) (qm (qm (zc 1) (wq (zc 4) (jc Z.B.ja (qD (zc 1))))) (wq (zc 6) (jc Z.B.ja (qD (zc 1)))))))) zF))) (zq (yu (km (zc 3) (j7 Z.B.jL (qD (zc 5))))) zF)))) (zq (qw (j7 Z.B.jL (qD (zc 3)))) zF)):zJ P w K mg base 2 "_law_beside" 2 PC).iso
def Dg (Z:Zz K h mg):zJ P w K mg base 2 "_law_within" 2 VZ:=by
 obtain⟨f,fd,F,a⟩:=Z.T.Dj;exact(qZ F (aP Z.X Z.G a) J6 (λ_ _ _ _ _ _=>yN λ_ _=>rfl) λc A outer s H E r=>zq (KY 2 3 rfl J6.nd (Z7 (qf (Yc Z).up r (zp (zc 1) zw)) zG) (qS zw zO)) (zq (jl PassesOwn.never rfl (jz rfl Z.B.q9 (jQ (jc Z.B.ja (qD (zc 0))) (jc Z.B.ja (qD (zc 1))))) (qk 4 J6.nd) (zq (ql 5 J6.nd (qS zw zO)) (zq (jl PassesOwn.never rfl (jz rfl Z.B.q9 (jQ (jc Z.B.ja (qD (zc 0))) (jc Z.B.ja (qD (zc 1))))) (qk 6 J6.nd) (zq (ql 7 J6.nd (qm (qm (zc 0) (wK (zc 4) (jc Z.B.ja (qD (zc 1))))) (wK (zc 6) (jc Z.B.ja (qD (zc 1)))))) (zq (yu (km (zc 5) (Ld (yF Hn (zc 7) zG) (jI (zc 7) (zc 2)) (qm (qm (zc 1) (wq (zc 4) (jc Z.B.ja (qD (zc 1))))) (wq (zc 6) (jc Z.B.ja (qD (zc 1)))))))) zF))) (zq (yu (km (zc 3) (j7 Z.B.jL (qD (zc 5))))) zF)))) (zq (qw (j7 Z.B.jL (qD (zc 3)))) zF)):zJ P w K mg base 2 "_law_within" 2 Py).iso
def Ou (Z:Zz K h mg):zJ P w K mg base 2 "_law_mixed" 2 Jk:=by
 obtain⟨f,fd,F,a⟩:=Z.T.D3;exact(qZ F (aP Z.X Z.G a) V8 (λ_ _ _ _ _ _=>yN λ_ _=>rfl) λc A outer s H E r=>zq (ql 2 V8.nd (Ba rfl Z.B.K3 Z.B.q9 (zc 1))) (zq (ql 3 V8.nd (qS zw zO)) (zq (UG 1000 PassesOwn.never (yF (kh r) (zc 2) (qS zw zO)) (zq (yu (km (zc 3) (Ae (zc 2) (qf (Jm Z).up r (zp (zc 0) (zp (jc Z.B.ja (qD (zc 2))) zw)))))) zF)) (zq (qw (j7 Z.B.jL (qD (zc 3)))) zF))):zJ P w K mg base 2 "_law_mixed" 2 Ub).yI
def FP (Z:Zz K h mg):zJ P w K mg base 2 "_law_bad_table" 1 J3:=by
 obtain⟨f,fd,F,a⟩:=Z.T.FK;exact(qZ F (aP Z.X Z.G a) Vz (λ_ _ _ _ _ _=>j4 λ_=>rfl) λc A outer s H E r=>zq (ql 1 Vz.nd (qS (zp Ju (zp zG (zp (qX zw zO) (zp (qX (zp (qX (zp zG zw) (zD zO)) zw) (zD zO)) (zp (qX (zp (qX (zp zG (zp zG zw)) (zD (zD zO))) (zp (qX (zp zG (zp zG zw)) (zD (zD zO))) (zp (qX (zp zG (zp zG zw)) (zD (zD zO))) zw))) (zD (zD (zD zO)))) (zp (qX (zp (qX (zp zG (zp zG zw)) (zD (zD zO))) (zp (qX (zp zG (zp zG zw)) (zD (zD zO))) zw)) (zD (zD zO))) (zp (qX (zp (qX (zp zG (zp zG zw)) (zD (zD zO))) (zp (qX (zp zG (zp zG zw)) (zD (zD zO))) zw)) (zD (zD zO))) (zp (qS (zp (qX (zp zG (zp zG zw)) (zD (zD zO))) (zp (qX (zp zG (zp zG zw)) (zD (zD zO))) zw)) (zD (zD zO))) zw)))))))) (zD (zD (zD (zD (zD (zD (zD (zD zO)))))))))) (zq (ql 1 Vz.nd (jI (zc 1) (qS (zp (qX (zp (qX (zp zG (zp zG zw)) (zD (zD zO))) (zp (qX (zp zG (zp zG zw)) (zD (zD zO))) zw)) (zD (zD zO))) (zp (qX (zp (qX (zp zG (zp yA zw)) (zD (zD zO))) (zp (qX (zp yA (zp zG zw)) (zD (zD zO))) zw)) (zD (zD zO))) (zp (qX (zp (qX (zp zG (zp zG zw)) (zD (zD zO))) (zp (qS (zp zG (zp zG zw)) (zD (zD zO))) zw)) (zD (zD zO))) (zp (qX (zp (qX (zp zG (zp zG zw)) (zD (zD zO))) zw) (zD zO)) (zp Xd (zp MB (zp (Me (qX (zp (Me (qX (zp zG zw) (zD zO)) zG) zw) (zD zO)) zG) zw))))))) (zD (zD (zD (zD (zD (zD (zD zO)))))))))) (zq (qw (qm (zc 1) (qf (Jm Z).up r (zp (zc 0) (zp zG zw))))) zF)):zJ P w K mg base 2 "_law_bad_table" 1 VD)
def EZ (Z:Zz K h mg):zJ P w K mg base 2 "_law_broken" 1 Kk:=by
 obtain⟨f,fd,F,a⟩:=Z.T.EF;exact(qZ F (aP Z.X Z.G a) Ke (λ_ _ _ _ _ _=>j4 λ_=>rfl) λc A outer s H E r=>zq (ql 1 Ke.nd (jI zG (qf (Jm Z).up r (zp (zc 0) (zp zG zw))))) (zq (Zx 2 (N:=["_law_row"]) 1 [] Ke.nd rfl (cps (by kernel_rfl)) (by kernel_rfl) (jN (qf (Kr Z).up r (zp (zc 1) zw))) (λ_ _ _=>⟨qk 0 (qP (by kernel_rfl)),qW,qV (iU Z.B.K3 (qD (zc 0)))⟩)) (zq (ql 3 Ke.nd (qf (Jm Z).up r (zp (zc 0) (zp (zc 1) zw)))) (zq (ql 4 Ke.nd (wq (jI (jI (zc 3) zG) (qf (Jm Z).up r (zp (zc 0) (zp (Z7 (zc 1) zG) zw)))) (zc 1))) (zq (G4 zG (qm (zc 2) (zc 3)) (zc 4)) (zq (G4 zG (qm (zc 2) (zc 4)) (zc 3)) (zq (qw (j7 Z.B.jL (yd (jE (N:=["_law_row"]) 1 [] (jN (zc 2)) (λ_ _ _=>⟨qk 0 (qP (by kernel_rfl)),qW,qV (j7 Z.B.jL (qD (zc 0)))⟩))))) zF)))))):zJ P w K mg base 2 "_law_broken" 1 Pz).yI
def Fv (Z:Zz K h mg):zJ P w K mg base 3 "is_wholes_below" 3 Z0:=by
 obtain⟨f,fd,F,a⟩:=Z.T.Fs;exact(qZ F (aP Z.X Z.G a) Fp (λ_ _ _ _ _ _=>W2 λ_ _ _=>rfl) λc A outer s H E r=>zq (qw (ZC (qf (Cg Z).up r (zp (zc 0) (zp (zc 1) zw))) (Z6 (Jt rfl Z.B.JD (yd (jE (N:=["part","limit"]) 1 [2] (jN (zc 0)) (λ_ _ _=>⟨qk 0 (qP (by kernel_rfl)),qW,qV (iN SK IL zG (zc 0) (zc 1))⟩))))))) (zF):zJ P w K mg base 3 "is_wholes_below" 3 W9)
def Dd (Z:Zz K h mg):zJ P w K mg base 3 "kind_shares" 1 Gi:=by
 obtain⟨f,fd,F,a⟩:=Z.T.Es;exact(qZ F (aP Z.X Z.G a) VP (λ_ _ _ _ _ _=>j4 λ_=>rfl) λc A outer s H E r=>zq (ql 1 VP.nd (qf (P1 Z).up r (zp (zc 0) zw))) (zq (Zx 2 (N:=["kind","firsts"]) 1 [1] VP.nd rfl (cps (by kernel_rfl)) (by kernel_rfl) (jz rfl Z.B.q9 (qf (Gm Z).up r (zp (zc 0) zw))) (λ_ _ _=>⟨qk 0 (qP (by kernel_rfl)),qW,qV (BZ r (zc 1) (zc 0))⟩)) (zq (qw (gf (jE (N:=["a","b","table"]) 2 [0] (jN (zc 2)) (λ_ _ _=>⟨kq 0 1 rfl (qP (by kernel_rfl)),qW,qV (qf (VU Z).up r (zp (zc 2) (zp (zc 0) (zp (zc 1) zw))))⟩)))) zF)):zJ P w K mg base 3 "kind_shares" 1 P9).iso
def F5 (Z:Zz K h mg):zJ P w K mg base 3 "search_break" 1 Jh:=by
 obtain⟨f,fd,F,a⟩:=Z.T.Ef;exact(qZ F (aP Z.X Z.G a) Ka (λ_ _ _ _ _ _=>j4 λ_=>rfl) λc A outer s H E r=>zq (jl PassesOwn.never rfl (BV (qf (P1 Z).up r (zp (zc 0) zw))) (BE 1 2 3 rfl Ka.nd) (zq (ql 4 Ka.nd (qf (VU Z).up r (zp (zc 0) (zp (zc 2) (zp (zc 3) zw))))) (zq (jl PassesOwn.never rfl (QU rfl Z.B.QQ (zc 0)) (kq 5 6 rfl Ka.nd) (zq (jl PassesOwn.never rfl (QU rfl Z.B.QQ (zc 6)) (kq 7 8 rfl Ka.nd) (zq (yb (QV (U7 (yF (we r) (zc 8) (zc 1)) (UR (yF (kh r) (qf (VU Z).up r (zp (zc 0) (zp (zc 5) (zp (zc 7) zw)))) (zc 4))))) (zq (qw (qX (zp (zc 2) (zp (zc 3) (zp (zc 5) (zp (zc 7) zw)))) (zD (zD (zD (zD zO)))))) zF) zF) zF)) zF)) zF))) (zq (qw Ju) zF):zJ P w K mg base 3 "search_break" 1 Pf).iso
def EV (Z:Zz K h mg):zJ P w K mg base 3 "count_often" 2 Kh:=by
 obtain⟨f,fd,F,a⟩:=Z.T.ES;exact(qZ F (aP Z.X Z.G a) J7 (λ_ _ _ _ _ _=>yN λ_ _=>rfl) λc A outer s H E r=>zq (ql 2 J7.nd zG) (zq (ql 3 J7.nd zG) (zq (jl PassesOwn.never rfl (Yn rfl Z.B.YA (qf (V5 Z).up r (zp (zc 0) zw)) (zc 1)) (kq 4 5 rfl J7.nd) (zq (ql 2 J7.nd (jI (jQ (zc 2) (zc 4)) (jQ (jQ (zc 5) (zc 5)) (zc 3)))) (zq (ql 3 J7.nd (jQ (zc 3) (zc 4))) zF))) (zq (qw (wK (jQ (jc Z.B.ja (qD (zc 0))) (zc 3)) (zc 2))) zF))):zJ P w K mg base 3 "count_often" 2 P4).iso
def Pd (Z:Zz K h mg):zJ P w K mg base 3 "_law_numbers" 1 QL:=by
 obtain⟨f,fd,F,a⟩:=Z.T.F3;exact(qZ F (aP Z.X Z.G a) Y9 (λ_ _ _ _ _ _=>j4 λ_=>rfl) λc A outer s H E r=>zq (ql 1 Y9.nd (qS zw zO)) (zq (jl PassesOwn.never rfl (jz rfl Z.B.q9 (qf (Yc Z).up r (zp (zc 0) zw))) (qk 2 Y9.nd) (zq (jl PassesOwn.never rfl (jz rfl Z.B.q9 (jc Z.B.ja (qD (zc 0)))) (qk 3 Y9.nd) (zq (jl PassesOwn.never rfl (jz rfl Z.B.q9 (jc Z.B.ja (qD (zc 0)))) (qk 4 Y9.nd) (zq (yb (QV (U7 (yF (we r) (jc Z.B.ja (qD (zc 1))) (zc 2)) (UR (yF (we r) (qm (qm (zc 0) (zc 3)) (zc 4)) (zc 2))))) (zq (yu (km (zc 1) (qf (EJ Z).up r (zp (zc 0) (zp (zc 3) (zp (zc 4) zw)))))) zF) zF) zF)) zF)) zF)) (zq (qw (zc 1)) zF)):zJ P w K mg base 3 "_law_numbers" 1 VL)
def Dx (Z:Zz K h mg):zJ P w K mg base 3 "_law_often" 2 Km:=by
 obtain⟨f,fd,F,a⟩:=Z.T.D8;exact(qZ F (aP Z.X Z.G a) J9 (λ_ _ _ _ _ _=>yN λ_ _=>rfl) λc A outer s H E r=>zq (ql 2 J9.nd (qf (Uk Z).up r (zp (zc 0) zw))) (zq (Td (qX (zp zG (zp zG zw)) (zD (zD zO))) (kq 3 4 rfl J9.nd)) (zq (jl PassesOwn.never rfl (Yn rfl Z.B.YA (zc 2) (zc 1)) (kq 5 6 rfl J9.nd) (zq (ql 3 J9.nd (jI (jQ (zc 3) (zc 5)) (jQ (jQ (zc 6) (zc 6)) (zc 4)))) (zq (ql 4 J9.nd (jQ (zc 4) (zc 5))) zF))) (zq (qw (wK (jQ (jc Z.B.ja (qD (zc 0))) (zc 4)) (zc 3))) zF))):zJ P w K mg base 3 "_law_often" 2 OF).iso
def RI (Z:Zz K h mg):zJ P w K mg base 3 "_law_turned_about" 2 ZZ:=by
 obtain⟨f,fd,F,a⟩:=Z.T.Fb;exact(qZ F (aP Z.X Z.G a) Vu (λ_ _ _ _ _ _=>yN λ_ _=>rfl) λc A outer s H E r=>zq (ql 2 Vu.nd (qf (Yc Z).up r (zp (zc 1) zw))) (zq (ql 3 Vu.nd (jI (qS (zp zG zw) (zD zO)) (gf (jE (N:=["_law_name"]) 1 [] (jN (qf (Ou Z).up r (zp (zc 0) (zp (Z7 (zc 2) zG) zw)))) (λ_ _ _=>⟨qk 0 (qP (by kernel_rfl)),qW,qV (jI zG (zc 0))⟩))))) (zq (qw (qf (DL Z).up r (zp (zc 1) (zp (qf (Ou Z).up r (zp (zc 0) (zp (jc Z.B.ja (qD (zc 1))) zw))) (zp (zc 3) zw))))) zF)):zJ P w K mg base 3 "_law_turned_about" 2 Vw).yI
def C9 (Z:Zz K h mg):zJ P w K mg base 4 "is_table" 1 Zy:=by
 obtain⟨f,fd,F,a⟩:=Z.T.CB;exact(qZ F (aP Z.X Z.G a) OP (λ_ _ _ _ _ _=>j4 λ_=>rfl) λc A outer s H E r=>zq (yb (QV (Wc (Zc (kU (gj .tup Z.B.jP Z.B.jL (by rfl) (zc 0)))) (KW (Zc (iS SK SK zG (jc Z.B.ja (qD (zc 0))) (AZ rfl Z.B.E8.choose_spec)))))) (zq (qw yA) zF) zF) (zq (ql 1 OP.nd (jc Z.B.ja (qD (zc 0)))) (zq (yb (Zc (kU (Jt rfl Z.B.JD (yd (jE (N:=["row","many"]) 1 [1] (jN (zc 0)) (λ_ _ _=>⟨qk 0 (qP (by kernel_rfl)),qW,qV (qf (Fv Z).up r (zp (zc 0) (zp (zc 1) (zp (zc 1) zw))))⟩)))))) (zq (qw yA) zF) zF) (zq (qw (ZC (qf (BA Z).up r (zp (zc 0) zw)) (Z6 (qf (HY Z).up r (zp (zc 0) zw))))) zF))):zJ P w K mg base 4 "is_table" 1 Kz)
def R3 (Z:Zz K h mg):zJ P w K mg base 4 "search_weights" 1 gA:=by
 obtain⟨f,fd,F,a⟩:=Z.T.FQ;exact(qZ F (aP Z.X Z.G a) J1 (λ_ _ _ _ _ _=>j4 λ_=>rfl) λc A outer s H E r=>zq (ql 1 J1.nd (qf (Dd Z).up r (zp (zc 0) zw))) (zq (ql 2 J1.nd (qS (zp (qX (zp zG zw) (zD zO)) zw) (zD zO))) (zq (jl PassesOwn.never rfl (jN (Mc (qf (V5 Z).up r (zp (zc 0) zw)) (M0 zG) LI)) (qk 3 J1.nd) (zq (Zx 4 (N:=["start","weight","size"]) 2 [3] J1.nd rfl (cps (by kernel_rfl)) (by kernel_rfl) (jN (zc 2)) (λ_ _ _=>⟨qk 0 (qP (by kernel_rfl)),qW,G7 (λ_ _ z=>z) rfl rfl (by intro _ h;cases h<;>rfl) (iQ rfl Z.B.q9 (zc 2) (Z7 (Mt (zc 2)) zG)) (qk 1 (qP (by kernel_rfl))) qW (qV (jI (zc 0) (qX (zp (zc 1) zw) (zD zO))))⟩)) (zq (Zx 2 (N:=["start","shares"]) 1 [1] J1.nd rfl (cps (by kernel_rfl)) (by kernel_rfl) (jN (zc 4)) (λ_ _ _=>⟨qk 0 (qP (by kernel_rfl)),KJ (kU (qf (mu Z).up r (zp (zc 1) (zp (zc 0) zw)))),qV (zc 0)⟩)) zF))) (zq (qw (zc 2)) zF))):zJ P w K mg base 4 "search_weights" 1 R1).iso
def mx (Z:Zz K h mg):zJ P w K mg base 4 "turn" 2 Tq:=by
 obtain⟨f,fd,F,a⟩:=Z.T.zc5;exact(qZ F (aP Z.X Z.G a) K2 (λ_ _ _ _ _ _=>yN λ_ _=>rfl) λc A outer s H E r=>zq (ql 2 K2.nd (qf (V5 Z).up r (zp (zc 0) zw))) (zq (ql 3 K2.nd (qS zw zO)) (zq (jl PassesOwn.never rfl (jN (zc 1)) (qk 4 K2.nd) (zq (ql 5 K2.nd (qf (EV Z).up r (zp (zc 0) (zp (zc 4) zw)))) (zq (yu (km (zc 3) (j7 Z.B.jL (yd (jE (N:=["weight","size","often"]) 2 [5] (Yn rfl Z.B.YA (zc 4) (zc 2)) (λ_ _ _=>⟨kq 0 1 rfl (qP (by kernel_rfl)),qW,qV (qf (mv Z).up r (zp (jQ (zc 2) (zc 0)) (zp (zc 1) zw)))⟩)))))) zF))) (zq (qw (j7 Z.B.jL (qD (zc 3)))) zF))):zJ P w K mg base 4 "turn" 2 LH)
def Fg (Z:Zz K h mg):zJ P w K mg base 4 "_law_are_weights" 2 Jf:=by
 obtain⟨f,fd,F,a⟩:=Z.T.Fc;exact(qZ F (aP Z.X Z.G a) Y5 (λ_ _ _ _ _ _=>yN λ_ _=>rfl) λc A outer s H E r=>zq (ql 2 Y5.nd (qf (Pd Z).up r (zp (zc 0) zw))) (zq (yb (QV (Wc (Zc (kU (gj .tup Z.B.jP Z.B.jL (by rfl) (zc 1)))) (KW (yF (kh r) (jc Z.B.ja (qD (zc 1))) (jc Z.B.ja (qD (zc 2))))))) (zq (qw yA) zF) zF) (zq (yb (QV (Wc (Zc (kU (Jt rfl Z.B.JD (yd (jE (N:=["_law_one"]) 1 [] (jN (zc 1)) (λ_ _ _=>⟨qk 0 (qP (by kernel_rfl)),qW,qV (qf (Du Z).up r (zp (zc 0) zw))⟩)))))) (KW (yF (kh r) (qm (zc 1) zG) zG)))) (zq (qw yA) zF) zF) (zq (jl PassesOwn.never rfl (jz rfl Z.B.q9 (jc Z.B.ja (qD (zc 1)))) (qk 3 Y5.nd) (zq (jl PassesOwn.never rfl (jz rfl Z.B.q9 (jc Z.B.ja (qD (zc 1)))) (qk 4 Y5.nd) (zq (ql 5 Y5.nd (UU rfl Z.B.T7 (yd (jE (N:=["_law_k","_law_thing","_law_numbers_here","_law_i","_law_j"]) 1 [1,2,3,4] (jz rfl Z.B.q9 (jc Z.B.ja (qD (zc 1)))) (λ_ _ _=>⟨qk 0 (qP (by kernel_rfl)),qW,qV (jQ (qm (qm (qm (zc 2) (zc 0)) (zc 3)) (zc 4)) (qm (zc 1) (zc 0)))⟩))))) (zq (yb (yF (kh r) (jQ (qm (zc 1) (zc 3)) (qm (zc 1) (zc 4))) (zc 5)) (zq (qw yA) zF) zF) zF))) zF)) (zq (qw yA) zF)))):zJ P w K mg base 4 "_law_are_weights" 2 RM).iso
def Di (Z:Zz K h mg):zJ P w K mg base 4 "_law_turned" 2 V4:=by
 obtain⟨f,fd,F,a⟩:=Z.T.EM;exact(qZ F (aP Z.X Z.G a) Kf (λ_ _ _ _ _ _=>yN λ_ _=>rfl) λc A outer s H E r=>zq (ql 2 Kf.nd (qf (Uk Z).up r (zp (zc 0) zw))) (zq (ql 3 Kf.nd (qS zw zO)) (zq (jl PassesOwn.never rfl (jN (zc 1)) (qk 4 Kf.nd) (zq (ql 5 Kf.nd (qf (Dx Z).up r (zp (zc 0) (zp (zc 4) zw)))) (zq (yu (km (zc 3) (j7 Z.B.jL (yd (jE (N:=["_law_kind","_law_near_by","_law_row","_law_often_here"]) 1 [2,4,5] (jz rfl Z.B.q9 (jc Z.B.ja (qD (zc 2)))) (λ_ _ _=>⟨qk 0 (qP (by kernel_rfl)),qW,qV (qf (Eb Z).up r (zp (jQ (zc 3) (qm (zc 2) (zc 0))) (zp (qm (zc 1) (zc 0)) zw)))⟩)))))) zF))) (zq (qw (j7 Z.B.jL (qD (zc 3)))) zF))):zJ P w K mg base 4 "_law_turned" 2 Oa)
def FR (Z:Zz K h mg):zJ P w K mg base 4 "_law_whole_one" 1 Zu:=by
 obtain⟨f,fd,F,a⟩:=Z.T.FT;exact(qZ F (aP Z.X Z.G a) W8 (λ_ _ _ _ _ _=>j4 λ_=>rfl) λc A outer s H E r=>zq (ql 1 W8.nd (qf (Jm Z).up r (zp (zc 0) (zp zG zw)))) (zq (ql 2 W8.nd (qS (zp (qf (Kr Z).up r (zp zG zw)) (zp (qf (Gs Z).up r (zp zG zw)) (zp (qf (Gs Z).up r (zp zG zw)) (zp (qf (EY Z).up r (zp zG (zp zG zw))) (zp (qf (EO Z).up r (zp zG zw)) (zp (qf (F0 Z).up r (zp zG zw)) zw)))))) (zD (zD (zD (zD (zD (zD zO)))))))) (zq (ql 2 W8.nd (jI (zc 2) (qS (zp (qf (DA Z).up r (zp zG zw)) (zp (qf (EG Z).up r (zp (qf (Kr Z).up r (zp zG zw)) (zp (qf (Kr Z).up r (zp zG zw)) zw)) (zD (zD zO))) (zp (qf (Dg Z).up r (zp (qf (Kr Z).up r (zp zG zw)) (zp (qf (Gs Z).up r (zp zG zw)) zw)) (zD (zD zO))) zw))) (zD (zD (zD zO)))))) (zq (qw (qf (RI Z).up r (zp (zc 0) (zp (qm (zc 2) (zc 1)) zw)))) zF))):zJ P w K mg base 4 "_law_whole_one" 1 R5).yI
def D4 (Z:Zz K h mg):zJ P w K mg base 1 "_law_same" 2 Ox:=by
 obtain⟨f,fd,F,a⟩:=Z.T.Gw;exact(Gu (k:=0) Z.B F (aP Z.X Z.G a) (lB (ps:=["_law_found","_law_due_here"]) F (aP Z.X Z.G a) (λ_ _ _ _ _ _=>yN λ_ _=>rfl))).iso
def DW (Z:Zz K h mg):zJ P w K mg base 2 "_law_same" 2 Oh:=by
 obtain⟨f,fd,F,a⟩:=Z.T.Gw;exact(Gu (k:=1) Z.B F (aP Z.X Z.G a) (D4 Z)).iso
def DU (Z:Zz K h mg):zJ P w K mg base 3 "_law_same" 2 OE:=by
 obtain⟨f,fd,F,a⟩:=Z.T.Gw;exact(Gu (k:=2) Z.B F (aP Z.X Z.G a) (DW Z)).iso
def Ct (Z:Zz K h mg):zJ P w K mg base 4 "_law_same" 2 QP:=by
 obtain⟨f,fd,F,a⟩:=Z.T.Gw;exact(Gu (k:=3) Z.B F (aP Z.X Z.G a) (DU Z)).iso
def FF (Z:Zz K h mg):yj P w K mg base 5 "require_table" 1 Y8:=by
 obtain⟨f,fd,F,a⟩:=Z.T.FY;exact(WG F (aP Z.X Z.G a) FI (λ_ _ _ _ _ _=>j4 λ_=>rfl) λc A outer s H E r x=>zq (yb (MY (Zc (kU (qf (C9 Z).up r (zp (zc 0) zw))))) (zq (Uu x (Z.C.exc "NoTable" (by decide +kernel)) (zp Xd zw) (zD zO)) zF) zF) (zF):yj P w K mg base 5 "require_table" 1 Y8)
def Fd (Z:Zz K h mg):zJ P w K mg base 5 "_law_all_weights" 1 J0:=by
 obtain⟨f,fd,F,a⟩:=Z.T.Ff;exact(qZ F (aP Z.X Z.G a) w9 (λ_ _ _ _ _ _=>j4 λ_=>rfl) λc A outer s H E r=>zq (Td (qX (zp (qf (Pd Z).up r (zp (zc 0) zw)) (zp (qf (Uk Z).up r (zp (zc 0) zw)) zw)) (zD (zD zO))) (kq 1 2 rfl w9.nd)) (zq (ql 3 w9.nd (qS (zp (qX (zp zG zw) (zD zO)) zw) (zD zO))) (zq (jl PassesOwn.never rfl (Jp rfl Z.B.q9 zG (jc Z.B.ja (qD (zc 2)))) (qk 4 w9.nd) (zq (ql 5 w9.nd (qS zw zO)) (zq (jl PassesOwn.never rfl (jN (zc 3)) (qk 6 w9.nd) (zq (yu (O0 (zc 5) (gf (jE (N:=["_law_one","_law_row"]) 1 [6] (Jp rfl Z.B.q9 (Z7 zG (qm (zc 2) (zc 4))) (jI (qm (zc 2) (zc 4)) zG)) (λ_ _ _=>⟨qk 0 (qP (by kernel_rfl)),qW,qV (jI (zc 1) (qX (zp (zc 0) zw) (zD zO)))⟩))))) zF)) (zq (ql 3 w9.nd (qS zw zO)) (zq (jl PassesOwn.never rfl (jN (zc 5)) (qk 6 w9.nd) (zq (ql 7 w9.nd yA) (zq (jl PassesOwn.never rfl (jz rfl Z.B.q9 (jI (zc 4) zG)) (qk 8 w9.nd) (zq (Zx 9 (N:=["_law_k","_law_numbers_here","_law_kind","_law_i"]) 1 [1,4,8] w9.nd rfl (cps (by kernel_rfl)) (by kernel_rfl) (Jp rfl Z.B.q9 (jI (zc 4) zG) (jc Z.B.ja (qD (zc 2)))) (λ_ _ _=>⟨qk 0 (qP (by kernel_rfl)),qW,qV (qm (qm (qm (zc 1) (zc 0)) (zc 3)) (zc 2))⟩)) (zq (yb (yF (we r) (Yj rfl Z.B.JG (qD (jI (zc 9) (qS (zp zG zw) (zD zO))))) zG) (zq (ql 10 w9.nd (UU rfl Z.B.T7 (yd (jE (N:=["_law_k","_law_numbers_here","_law_kind","_law_row","_law_i"]) 1 [1,4,6,8] (jz rfl Z.B.q9 (jI (zc 4) zG)) (λ_ _ _=>⟨qk 0 (qP (by kernel_rfl)),qW,qV (jQ (qm (qm (qm (zc 1) (zc 0)) (zc 4)) (zc 2)) (qm (zc 3) (zc 0)))⟩))))) (zq (ql 7 w9.nd (ZC (zc 7) (Z6 (kC (we r) (jQ (qm (zc 6) (zc 8)) (qm (zc 6) (zc 4))) (zc 10))))) zF)) zF) zF))) (zq (yb (kU (zc 7)) (zq (yu (km (zc 3) (zc 6))) zF) zF) zF)))) zF))))) (zq (qw (AR (BJ rfl Z.B.AX (gf (jE (N:=["_law_row","_law_table"]) 1 [0] (jN (zc 3)) (λ_ _ _=>⟨qk 0 (qP (by kernel_rfl)),KJ (kU (qf (Fg Z).up r (zp (zc 1) (zp (zc 0) zw)))),qV (zc 0)⟩)))) (Mt zG))) zF))):zJ P w K mg base 5 "_law_all_weights" 1 Vx).iso
def Fw (Z:Zz K h mg):yj P w K mg base 6 "require_steady" 1 Jg:=by
 obtain⟨f,fd,F,a⟩:=Z.T.FN;exact(WG F (aP Z.X Z.G a) Fq (λ_ _ _ _ _ _=>j4 λ_=>rfl) λc A outer s H E r x=>zq (yu (KD x (FF Z).up r (zp (zc 0) zw))) (zq (yb (MY (yF fZ (qf (F5 Z).up r (zp (zc 0) zw)) Ju)) (zq (Uu x (Z.C.exc "NotSteady" (by decide +kernel)) (zp Xd zw) (zD zO)) zF) zF) zF):yj P w K mg base 6 "require_steady" 1 Jg)
def Bd (Z:Zz K h mg):zJ P w K mg base 6 "_law_due" 1 QS:=by
 obtain⟨f,fd,F,a⟩:=Z.T.CI;exact(qZ F (aP Z.X Z.G a) gc (λ_ _ _ _ _ _=>j4 λ_=>rfl) λc A outer s H E r=>zq (ql 1 gc.nd (qf (Fd Z).up r (zp (zc 0) zw))) (zq (ql 2 gc.nd (qf (Di Z).up r (zp (zc 0) (zp (zc 1) zw)))) (zq (ql 3 gc.nd (qS (zp (qX (zp zG zw) (zD zO)) zw) (zD zO))) (zq (jl PassesOwn.never rfl (Jp rfl Z.B.q9 zG (jc Z.B.ja (qD (zc 1)))) (qk 4 gc.nd) (zq (ql 5 gc.nd (qS zw zO)) (zq (jl PassesOwn.never rfl (jN (zc 3)) (qk 6 gc.nd) (zq (jl PassesOwn.never rfl (Jp rfl Z.B.q9 zG (jc Z.B.ja (qD (zc 1)))) (qk 7 gc.nd) (zq (yb (Ti UT (zc 7) (zc 6)) (zq (ql 8 gc.nd (jI (zc 6) (qX (zp (zc 7) zw) (zD zO)))) (zq (ql 9 gc.nd (qS zw zO)) (zq (jl PassesOwn.never rfl (jz rfl Z.B.q9 (jI (zc 4) zG)) (qk 10 gc.nd) (zq (ql 11 gc.nd (qm (zc 8) (zc 10))) (zq (yu (km (zc 9) (kC (kh r) (qm (qm (zc 2) (zc 7)) (zc 10)) (qX (zp (qm (qm (zc 1) (zc 11)) (zc 4)) (zp zG zw)) (zD (zD zO)))))) (zq (yu (km (zc 9) (kC (kh r) (qm (qm (zc 2) (zc 11)) (zc 4)) (qX (zp (qm (qm (zc 1) (zc 7)) (zc 10)) (zp zG zw)) (zD (zD zO)))))) zF)))) (zq (yb (Ti UT yA (zc 9)) (zq (yu (km (zc 5) (zc 8))) zF) zF) zF)))) zF) zF)) zF)) (zq (ql 3 gc.nd (zc 5)) zF)))) (zq (qw (qm (jI (zc 3) (qS (zp Ju zw) (zD zO))) zG)) zF)))):zJ P w K mg base 6 "_law_due" 1 OT).iso
def Fx (Z:Zz K h mg):yj P w K mg base 7 "is_whole_table" 1 Y6:=by
 obtain⟨f,fd,F,a⟩:=Z.T.FE;exact(WG F (aP Z.X Z.G a) FC (λ_ _ _ _ _ _=>j4 λ_=>rfl) λc A outer s H E r x=>zq (yu (KD x (Fw Z).up r (zp (zc 0) zw))) (NJ (zq (qw (kC (we r) (jc Z.B.ja (qD (qf (R3 Z).up r (zp (zc 0) zw)))) (qf (Gm Z).up r (zp (zc 0) zw)))) zF)):yj P w K mg base 7 "is_whole_table" 1 Y6)
def FO (Z:Zz K h mg):yj P w K mg base 8 "require_whole" 1 Z1:=by
 obtain⟨f,fd,F,a⟩:=Z.T.FV;exact(WG F (aP Z.X Z.G a) FL (λ_ _ _ _ _ _=>j4 λ_=>rfl) λc A outer s H E r x=>zq (yb (Zc (kU (KD x (Fx Z).up r (zp (zc 0) zw)))) (zq (Uu x (Z.C.exc "NotWhole" (by decide +kernel)) (zp Xd zw) (zD zO)) zF) zF) (zF):yj P w K mg base 8 "require_whole" 1 Z1)
def V0 (Z:Zz K h mg):yj P w K mg base 9 "self_order" 1 yK:=by
 obtain⟨f,fd,F,a⟩:=Z.T.Oe;exact(WG F (aP Z.X Z.G a) Jj (λ_ _ _ _ _ _=>j4 λ_=>rfl) λc A outer s H E r x=>zq (yu (KD x (FO Z).up r (zp (zc 0) zw))) (NJ (zq (ql 1 Jj.nd (qf (R3 Z).up r (zp (zc 0) zw))) (zq (ql 2 Jj.nd (qf (mx Z).up r (zp (zc 0) (zp (zc 1) zw)))) (zq (ql 3 Jj.nd (qS (zp (qX (zp zG zw) (zD zO)) zw) (zD zO))) (zq (jl PassesOwn.never rfl (Jp rfl Z.B.q9 zG (jc Z.B.ja (qD (zc 1)))) (qk 4 Jj.nd) (zq (Zx 5 (N:=["order","place","found"]) 2 [1] Jj.nd rfl (cps (by kernel_rfl)) (by kernel_rfl) (jN (zc 3)) (λ_ _ _=>⟨qk 0 (qP (by kernel_rfl)),qW,G7 (λ_ _ z=>z) rfl rfl (by intro _ h;cases h<;>rfl) (jz rfl Z.B.q9 (jc Z.B.ja (qD (zc 2)))) (qk 1 (qP (by kernel_rfl))) (KJ (Ti UT (zc 1) (zc 0))) (qV (jI (zc 0) (qX (zp (zc 1) zw) (zD zO))))⟩)) (zq (Zx 3 (N:=["order","found","turned"]) 1 [1,2] Jj.nd rfl (cps (by kernel_rfl)) (by kernel_rfl) (jN (zc 5)) (λ_ _ _=>⟨qk 0 (qP (by kernel_rfl)),KJ (kU (qf (Et Z).up r (zp (zc 1) (zp (zc 2) (zp (zc 0) zw))))),qV (zc 0)⟩)) zF))) (zq (qw (Ld (l7 (zc 3)) (qm (zc 3) zG) Ju)) zF)))))):yj P w K mg base 9 "self_order" 1 yK)
def Dy (Z:Zz K h mg):zJ P w K mg base 9 "self_order" 1 Zv:=(V0 Z).m.iso
end
end G
namespace Mi
open PySem L2
section
variable {m:Ev}
def QW (h:m ρ A=.ok (.tup ws) A1):qu m ρ A=.ok ⟨λA i=>(zX (.tup ws) A).map λws=>ws[i]?,ws.length⟩ A1:=by
 unfold qu WM;rw[h,zT]
 rfl
def GO (h:m ρ A=.ok (.tup ws) A)(hl:ws.length<=qj){g:W->W}(he:∀w∈ws,me (some w::cap.map λi=>(ρ[i]?).join) A=.ok (g w) A):
  zU 1 cap (qu m) (zE 0) (zW (.bl true)) (zR me) ρ A=.ok (ws.map g) A:=by
 have e:=gC (cap:=cap) (me:=me) (ρ:=ρ) (A:=A) (N:=ws.length) (item:=λi=>ws.getD i .non) (g:=λi=>g (ws.getD i .non)) (QW h) rfl hl
  (λi H=>by show some ws[i]? =_;rw[ae H,aa,ae H];rfl)
  (by show some ws[ws.length]? =_;rw[aA (aq _)])
  (λi H=>by
   have:ws.getD i .non=ws[i]:=by rw[aa,ae H];rfl
   rw[this];exact he _ (aJ H))
 rw[e]
 congr 1
 apply bD
 ·simp
 ·intro i h1 h2
  have H:i<ws.length:=by simpa using h2
  simp[aa,ae H]
theorem Na (p:α->Bool):∀l:List α,gi (l.map λx=>W.bl (p x))=some (l.map p)
 |[]=>rfl|x::l=>by
  show(match YL (.bl (p x)),gi (l.map λx=>W.bl (p x)) with|some k,some ks=>some (k::ks)|_,_=>none)=_
  rw[Na p l];rfl
def Xj {p:α->Bool}{l:List α}(h:∀x∈l,p x=true):Qx (l.map λx=>W.bl (p x)) A=.ok (.bl true) A:=by
 show ZO (λks=>ks.all id) _ A=_;unfold ZO;rw[Na];dsimp only
 have:(l.map p).all id=true:=by
  rw[List.all_map];exact cn.mpr λx H=>h x H
 rw[this]
theorem ZF {f:α->W}(h:∀x,(f x).nr=true):∀l:List α,qO (l.map f)=true
 |[]=>rfl|x::l=>by
  show((f x).nr&&qO (l.map f))=true;rw[h x,ZF h l];rfl
def gU (i j:Int)(A:Hx):jB (.int i) (.int j) A=.ok (.bl (decide (i=j))) A:=by
 show R.ok (W.bl (PyData.eqv (.int i) (.int j))) A=_;simp[PyData.eqv]
 rfl
def Ht (i j:Int)(A:Hx):jo (.int i) (.int j) A=.ok (.bl (!decide (i=j))) A:=by
 show R.ok (W.bl (!PyData.eqv (.int i) (.int j))) A=_;simp[PyData.eqv]
 rfl
def my (i j:Bool)(A:Hx):jo (.bl i) (.bl j) A=.ok (.bl (!(i==j))) A:=by
 cases i<;>cases j<;>rfl
end
noncomputable def zu (r:bK):W:=.tup (r.map W.int)
def zo (t:bJ):W:=.tup (t.map zu)
def G0 (r:bK):(zu r).nr=true:=by
 show qO (r.map W.int)=true;exact ZF (λ_=>rfl) r
def ZE (t:bJ):(zo t).nr=true:=by
 show qO (t.map zu)=true;exact ZF G0 t
def Nx {j:jJ}{st:W->Ex}{N:Nat}{item:Nat->W}{I:En->Prop}(t:∀i,i<N->j.at_ A i=some (some (item i)))(H:j.at_ A N=some none)
  (s:∀i,i<N->∀ρ,I ρ->∃a,st (item i) ρ A=.ok (.nx a) A/\I a):∀(n i:Nat)(ρ:En),i+n=N->I ρ->∃a,yh j st n i ρ A=.ok (.nx a) A/\I a:=by
 intro n
 induction n with
 |zero=>
  intro i ρ h c
  have:i=N:=by omega
  subst this;exact⟨ρ,Ut H,c⟩
 |succ n d=>
  intro i ρ h c;obtain⟨ρ1,E,g⟩:=s i (by omega) ρ c
  obtain⟨b,e,f⟩:=d (i+1) ρ1 (by omega) g
  exact⟨b,(GL (t i (by omega)) E).trans e,f⟩
def Yf {m:Ev}(h:m ρ A=.ok (.tup ws) A1):kD m ρ A=.ok (kH (.tup ws) ws.length) A1:=by
 unfold kD;rw[h,zT]
 rfl
def YC {w:W}(h:ws[i]? =some w):(kH (.tup ws) ws.length).at_ A i=some (some (.tup [.int i,w])):=by
 show atEnd ws i _=_;unfold atEnd;rw[h]
def Yr:(kH (.tup ws) ws.length).at_ A ws.length=some none:=by
 show atEnd ws _ _=_;unfold atEnd;rw[aA (aq _)];exact aj rfl
noncomputable def at2 (t:bJ)(a b:Nat):Int:=(t.getD a []).getD b 0
structure qQ (t:bJ):Prop where
 n1:1<=t.length
 n8:t.length<=8
 sq:∀r∈t,r.length=t.length
 lo:∀r∈t,∀v∈r,0<=v/\v<(t.length:Int)
 dg:∀a b,a<t.length->b<t.length->(at2 t a b=0↔a=b)
 sy:∀a b,a<t.length->b<t.length->at2 t a b=at2 t b a
 fu:∀k:Nat,(∃v∈t.flatten,(k:Int)<v)->(k:Int)∈t.flatten
section
variable {a b:Nat}
def Wg (h:a<t.length):(t.map zu)[a]? =some (zu (t.getD a [])):=by
 rw[ax,aa,ae h];rfl
def yZ (h:a<t.length):t.getD a []∈t:=by
 rw[aa,ae h];exact aJ h
def Jw (h:a<t.length):zB (zo t) (.int a) A=.ok (zu (t.getD a [])) A:=by
 unfold zB;show(match w5 (t.map zu) (a:Int) with|some w=>R.ok w A|none=>R.bad)=_
 rw[Xk (Wg h)]
def int_at {r:bK}(h:b<r.length):(r.map W.int)[b]? =some (.int (r.getD b 0)):=by
 rw[ax,aa,ae h];rfl
def Qf {r:bK}(h:b<r.length):zB (zu r) (.int b) A=.ok (.int (r.getD b 0)) A:=by
 unfold zB;show(match w5 (r.map W.int) (b:Int) with|some w=>R.ok w A|none=>R.bad)=_
 rw[Xk (v:=.int (r.getD b 0)) (by rw[ax,aa,ae h];rfl)]
end
section
def mz {j:jJ}{c:Option W}(b:∀i,i<ws.length->j.at_ A i=some (some (ws.getD i .non)))(H:j.at_ A ws.length=some none)(he:∀w,me [c,some w] A=.ok w A):
  ∀(f i:Nat)(x:Option W)(acc:List W),i+f=ws.length->acc.length+f<=qj->∃y,jn j (zE 1) (zW (.bl true)) (zR me) f i [c,x] acc A=.ok ([c,y],acc++ws.drop i) A:=by
 intro f
 induction f with
 |zero=>
  intro i x acc h hl
  have:i=ws.length:=by omega
  subst this;refine⟨x,?_⟩;unfold jn;rw[H,drop_length,a7]
 |succ f I=>
  intro i x acc h hl;have a:i<ws.length:=by omega
  have E:ws.getD i .non=ws[i]:=by rw[aa,ae a];rfl
  obtain⟨y,e⟩:=I (i+1) (some ws[i]) (acc++[ws[i]]) (by omega) (by rw[av,aW];omega)
  refine⟨y,?_⟩;rw[jn,b i a,E];dsimp only[zE,List.set,zW];rw[zT];dsimp only;have d:zR me [c,some ws[i]] acc A=.ok ([c,some ws[i]],acc++[ws[i]]) A:=by
   unfold zR;rw[he,zT,aj (by omega)]
  rw[d,zT];rw[e,aN]
  congr 3
  rw[List.singleton_append,<- bp a]
def Am {j:jJ}(d:∀i,i<t.length->j.at_ A i=some (some (zu (t.getD i []))))(H:j.at_ A t.length=some none):
  ∀(f i:Nat)(x y:Option W)(acc:List W),i+f=t.length->acc.length+(t.drop i).flatten.length<=qj->
   ∃ρ,jn j (zE 0) (zW (.bl true)) (gI (qu (qh 0)) (zE 1) (zW (.bl true)) (zR (qh 1))) f i [x,y] acc A=.ok (ρ,acc++(t.drop i).flatten.map W.int) A:=by
 intro f
 induction f with
 |zero=>
  intro i x y acc h hl
  have:i=t.length:=by omega
  subst this;refine⟨[x,y],?_⟩;unfold jn;rw[H,drop_length];simp
 |succ f I=>
  intro i x y acc h hl;have a:i<t.length:=by omega
  have r:t.getD i []=t[i]:=by rw[aa,ae a];rfl
  have e:t.drop i=t[i]::t.drop (i+1):=bp a;rw[e,a9,av]at hl;obtain⟨z,E⟩:=mz (A:=A) (j:=⟨λA i_1=>(zX (zu t[i]) A).map λws=>ws[i_1]?,(t[i].map W.int).length⟩) (me:=qh 1) (ws:=t[i].map W.int) (c:=some (zu t[i]))
   (λk b=>by
    show some (t[i].map W.int)[k]? =_;rw[aa,ae b];rfl)
   (by show some (t[i].map W.int)[(t[i].map W.int).length]? =_;rw[aA (aq _)])
   (λw=>zy rfl) (t[i].map W.int).length 0 y acc (by omega) (by rw[ak];omega)
  rw[List.drop_zero]at E;obtain⟨ρ,l⟩:=I (i+1) (some (zu t[i])) z (acc++t[i].map W.int) (by omega) (by rw[av,ak];omega)
  refine⟨ρ,?_⟩;rw[jn,d i a,r];dsimp only[zE,List.set,zW];rw[zT];dsimp only;have g:gI (qu (qh 0)) (zE 1) (zW (.bl true)) (zR (qh 1)) [some (zu t[i]),y] acc A=.ok ([some (zu t[i]),z],acc++t[i].map W.int) A:=by
   unfold gI;rw[QW (ws:=t[i].map W.int) (A1:=A) (zy (i:=0) rfl),zT];exact E
  rw[g,zT];rw[l,e,a9,aO,aN]
def mB {m:Ev}(h:m ρ A=.ok (zo t) A)(hl:t.flatten.length<=qj):
  zU 2 [] (qu m) (zE 0) (zW (.bl true)) (gI (qu (qh 0)) (zE 1) (zW (.bl true)) (zR (qh 1))) ρ A=.ok (t.flatten.map W.int) A:=by
 have hlen:(t.map zu).length=t.length:=ak ..;obtain⟨a,e⟩:=Am (t:=t) (A:=A) (j:=⟨λA i=>(zX (zo t) A).map λws=>ws[i]?,(t.map zu).length⟩) (λi H=>by show some (t.map zu)[i]? =_;rw[Wg H])
  (by show some (t.map zu)[t.length]? =_;rw[aA (by omega)]) t.length 0 none none [] (by omega) (by simpa using hl)
 unfold zU;rw[QW (ws:=t.map zu) h,zT];show R.bind (R.nox (jn ⟨λA i=>(zX (zo t) A).map λws=>ws[i]?,(t.map zu).length⟩ _ _ _ (t.map zu).length 0 [none,none] [] A)) _=_;rw[hlen]at e ⊢;rw[e];simp
 rfl
end
theorem Gv:∀l:bK,intsOf (l.map W.int)=some l
 |[]=>rfl|i::l=>by
  show(match intsOf (l.map W.int) with|some is=>some (i::is)|none=>none)=_
  rw[Gv l]
theorem UQ:∀(l:bK)(m:Int),yv l m=m∨yv l m∈l
 |[],_=>.inl rfl|i::l,m=>by
  show yv l (if i > m then i else m)=m∨yv l (if i > m then i else m)∈i::l;rcases UQ l (if i > m then i else m) with e|e
  ·by_cases h:i > m
   ·rw[aj h]at e ⊢;exact .inr (by rw[e];exact aB ..)
   ·rw[ao h]at e ⊢;exact .inl e
  ·exact .inr (au _ e)
end Mi
namespace G
open PySem L2 Mi
def mC (h:qQ t):t.flatten.length<=64:=by
 have:∀l:bJ,(∀r∈l,r.length<=8)->l.flatten.length<=8 * l.length:=by
  intro l
  induction l with
  |nil=>intro _;simp|cons r l i=>
   intro H;have h1:=H r (aB ..);have h2:=i λb a=>H b (au _ a);rw[a9,av,bo];omega
 have c:=h.n8
 have:=this t λr H=>by rw[h.sq r H];exact h.n8
 omega
noncomputable abbrev iO (n:Nat):Option W:=some (.int (n:Int))
noncomputable abbrev bO (b:Bool):Option W:=some (.bl b)
noncomputable abbrev rO (n:Nat):Option W:=some (.ref n)
def cv {w:W}{r:R W}(h:ρ[i]? =some (some w))(e:f [w] A=r):zH f (zh (qh i) zm) ρ A=r:=(jt (zS (zy h) qE)).trans e
def bv {w v:W}{r:R W}(h:ρ[i]? =some (some w))(k:ρ[j]? =some (some v))(e:g w v A=r):zi g (qh i) (qh j) ρ A=r:=(z7 (zy h) (zy k)).trans e
section
def mD (h:ρ[i]? =some (some (zo t))):mQ qc (zN (qh i)) ρ A=.ok (.int t.length) A:=by
 rw[yB (kx (w:=zo t) (A1:=A) (zy h) rfl)];unfold qc;rw[ak]
def QT (h:n<1000000):jH (n:Int)=true:=by
 unfold jH;simp;omega
end
def Z8 {m:Ev}(h:m ρ A=.ok (.ref n) A1)(H:A1[n]? =some (.lst ws)):qu m ρ A=.ok ⟨λA i=>(zX (.ref n) A).map λws=>ws[i]?,ws.length⟩ A1:=by
 unfold qu WM;rw[h,zT];have e:zX (.ref n) A1=some ws:=by unfold zX;dsimp only;rw[H]
 rw[e]
def kB (h:A[n]? =some (.lst ws)):((zX (.ref n) A).map λws=>ws[i]?)=some ws[i]?:=by
 have e:zX (.ref n) A=some ws:=by unfold zX;dsimp only;rw[h]
 rw[e];rfl
def kZ:List Int->Int
 |[]=>0|i::is=>yv is i
def UX {r:bK}(h:r≠[]):yS (r.map W.int) A=.ok (.int (kZ r)) A:=by
 unfold yS;rw[Gv];cases r with
 |nil=>exact absurd rfl h|cons i is=>rfl
def GP {r:bK}(h:r≠[]):kZ r∈r:=by
 cases r with
 |nil=>exact absurd rfl h|cons i is=>
  rcases UQ is i with e|e
  ·show yv is i∈_;rw[e];exact aB ..
  ·exact au _ e
def qK (t:bJ):Int:=kZ (t.map kZ)+1
section
def _root_.Mi.qQ.row_ne (h:qQ t){r:bK}(H:r∈t):r≠[]:=λe=>by
 have h1:=h.sq r H;have h2:=h.n1;rw[e,length_nil]at h1;omega
def _root_.Mi.qQ.map_ne (h:qQ t):t.map kZ≠[]:=λe=>by
 have:=h.n1
 rw[List.map_eq_nil_iff]at e;rw[e]at this;simp at this
def ZM (h:qQ t):1<=qK t/\qK t<=8:=by
 obtain⟨r,H,e⟩:=cu.mp (GP h.map_ne)
 have:=h.lo r H _ (GP (h.row_ne H))
 have:=h.n8
 unfold qK;rw[<- e];omega
def Wv (h:qQ t){a b:Nat}(H:a<t.length)(c:b<t.length):0<=at2 t a b/\at2 t a b<8:=by
 have hl:=h.sq _ (yZ H)
 have:(t.getD a []).getD b 0∈t.getD a []:=by
  rw[aa (l:=t.getD a []),ae (by omega)];exact aJ _
 have h1:=h.lo _ (yZ H) _ this
 have:=h.n8
 unfold at2;omega
def Wd (h:q ρ A=.ok ws A1):mQ jA q ρ A=.ok (.tup ws) A1:=(yB h).trans rfl
end
end G
namespace Mi
open PySem L2
def ZD {w:W}{s:Nat}(h:A[n]? =some (.lst ws))(H:ws[s]? =some w):zB (.ref n) (.int (s:Int)) A=.ok w A:=by
 unfold zB;have e:zX (.ref n) A=some ws:=by unfold zX;dsimp only;rw[h]
 rw[e];dsimp only;rw[Xk H]
def jR {o u:O}(h:A[n]? =some o):(A++[u])[n]? =some o:=by
 have:=(ck.mp h).1
 rw[ag this];exact h
def jm {u:O}:(A++[u])[A.length]? =some u:=by simp
noncomputable def JI (μ:Nat->Nat->Int)(a b:Nat)(k:Int):Nat->Nat->Int:=λi j=>if i=a/\j=b then k else μ i j
structure Mu (n:Nat)(μ:Nat->Nat->Int)(c:Nat)(done:Nat->Nat->Prop):Prop where
 dg:∀i,μ i i=0
 sy:∀i j,μ i j=μ j i
 dn:∀i j,i<j->j<n->done i j->1<=μ i j/\μ i j<=(c:Int)
 un:∀i j,i<j->j<n->¬done i j->μ i j=0
 fu:∀k:Nat,1<=k->k<=c->∃i j,i<n/\j<n/\μ i j=(k:Int)
noncomputable def kY (n:Nat)(μ:Nat->Nat->Int):bJ:=(List.range n).map λi=>(List.range n).map (μ i)
def U8 {μ:Nat->Nat->Int}(H:i<n)(h:j<n):at2 (kY n μ) i j=μ i j:=by
 unfold at2 kY;rw[aa (l:=(List.range n).map λi=>(List.range n).map (μ i)),ax,aY H];show((List.range n).map (μ i)).getD j 0=_;rw[aa,ax,aY h]
 rfl
def Mu.tab {c:Nat}{μ:Nat->Nat->Int}{d:Nat->Nat->Prop}(h:Mu n μ c d)(all:∀i j,i<j->j<n->d i j)(n1:1<=n)(n8:n<=8)(z:n=1∨c<n):qQ (kY n μ):=by
 have len:(kY n μ).length=n:=by unfold kY;simp
 have val:∀i j,i<n->j<n->i≠j->1<=μ i j/\μ i j<=(c:Int):=λi j H f ne=>by
  rcases Nat.lt_or_gt_of_ne ne with q|q
  ·exact h.dn i j q f (all i j q f)
  ·rw[h.sy];exact h.dn j i q H (all j i q H)
 have mem:∀r∈kY n μ,∀v∈r,∃i j,i<n/\j<n/\v=μ i j:=λr g v p=>by
  unfold kY at g;obtain⟨i,H,rfl⟩:=cu.mp g;obtain⟨j,f,rfl⟩:=cu.mp p;exact⟨i,j,cj.mp H,cj.mp f,rfl⟩
 have I:∀i j,i<n->j<n->μ i j∈(kY n μ).flatten:=λi j H f=>List.mem_flatten.mpr ⟨_,cu.mpr ⟨i,cj.mpr H,rfl⟩,cu.mpr ⟨j,cj.mpr f,rfl⟩⟩;refine⟨by rw[len];exact n1,by rw[len];exact n8,λr g=>?_,λr g v p=>?_,λa b o l=>?_,λa b o l=>?_,λk y=>?_⟩
 ·rw[len]
  unfold kY at g;obtain⟨i,H,rfl⟩:=cu.mp g;simp
 ·rw[len]
  obtain⟨i,j,H,f,rfl⟩:=mem r g v p
  by_cases q:i=j
  ·subst q;rw[h.dg];omega
  ·have:=val i j H f q
   omega
 ·rw[len]at o l
  rw[U8 o l]
  constructor
  ·intro e
   by_cases q:a=b
   ·exact q
   ·have:=val a b o l q;omega
  ·intro e;subst e;exact h.dg a
 ·rw[len]at o l
  rw[U8 o l,U8 l o];exact h.sy a b
 ·obtain⟨v,p,t⟩:=y
  obtain⟨r,g,s⟩:=List.mem_flatten.mp p;obtain⟨i,j,H,f,rfl⟩:=mem r g v s
  by_cases k0:k=0
  ·subst k0
   have:=I 0 0 (by omega) (by omega)
   rw[h.dg]at this;exact this
  ·by_cases q:i=j
   ·subst q;rw[h.dg]at t;omega
   ·have:=val i j H f q
    obtain⟨x,J,w,u,e⟩:=h.fu k (by omega) (by omega)
    have:=I x J w u
    rw[e]at this;exact this
end Mi
namespace G
open PySem L2 Mi
def Qg {i j:Int}(h1:-(2 ^ 64)<i)(h2:i<2 ^ 64):qx (.int i) (.int j) A=.ok (.int (i * j)) A:=by
 unfold qx;dsimp only;rw[aj];unfold Wz;rw[bj,ah,ai,ai];exact .inl ⟨h1,h2⟩
def Jx {i j:Int}(h:0<j):yL (.int i) (.int j) A=.ok (.int (i%j)) A:=by
 unfold yL Zr;dsimp only;rw[aj];unfold X6;exact aI h
def LU {i j:Int}(h:0<j)(h2:j<1152921504606846976):kE (.int i) (.int j) A=.ok (.int (i/j)) A:=by
 unfold kE Zr;dsimp only;rw[aj];unfold XH;rw[ah,ai,ai];exact⟨h,h2⟩
def mE {c m:Int}(h1:0<m)(h2:m<1000000000000000):Ku [.ref 0,.int m] [.lst [.int c,.bl true]]=.ok (.int (c%m)) [.lst [.int (c/m),.bl true]]:=by
 refine jC ?_;unfold Ul;refine jb (A1:=[.lst [.int (c/m),.bl true]]) ?_;refine(gn (A1:=[.lst [.int c,.bl true]]) rfl).trans ?_;refine(zL (ρ1:=[rO 0,some (.int m),some (.int (c%m)),none]) (A1:=[.lst [.int c,.bl true]]) ?_).trans ?_
 ·refine(jd (w:=.int (c%m)) (A1:=[.lst [.int c,.bl true]]) ?_).trans rfl
  exact(z7 (x:=.int c) (y:=.int m) (A1:=[.lst [.int c,.bl true]]) (A2:=[.lst [.int c,.bl true]]) rfl rfl).trans (Jx h1)
 ·refine(zL (ρ1:=[rO 0,some (.int m),some (.int (c%m)),none]) (A1:=[.lst [.int (c/m),.bl true]]) ?_).trans rfl
  have e:zi kE (zi zB zr zV) zt [rO 0,some (.int m),some (.int (c%m)),none] [.lst [.int c,.bl true]]=.ok (.int (c/m)) [.lst [.int c,.bl true]]:=
   (z7 (x:=.int c) (y:=.int m) (A1:=[.lst [.int c,.bl true]]) (A2:=[.lst [.int c,.bl true]]) rfl rfl).trans (LU h1 (by omega))
  unfold ZK;rw[e,zT]
  rfl
noncomputable def Q7 (c:Int):Int:=(c * 48271+29)%2147483647
noncomputable def gZ (d:Int):Int:=(d * d+39373 * d+7)%2147483629
noncomputable def Zn (e:Int):Int:=(e * e+16807 * e)%2147483587
def Sd (c:Int):0<=Q7 c/\Q7 c<2147483647:=⟨emod_nonneg _ (by decide),bG _ (by decide)⟩
def mF (c:Int):0<=gZ c/\gZ c<2147483629:=⟨emod_nonneg _ (by decide),bG _ (by decide)⟩
def mG {c m:Int}(H:0<=c)(h:c<2147483647)(h1:0<m)(h2:m<1000000000000000):Ku [.ref 0,.int m] [.lst [.int c,.bl false]]=.ok (.int (Zn (gZ (Q7 c))/8%m)) [.lst [.int (Q7 c),.bl false]]:=by
 have i:=Sd c;refine jC ?_;unfold Ul;refine(zL (ρ1:=[rO 0,some (.int m),none,none]) (A1:=[.lst [.int c,.bl false]]) ((yP (A1:=[.lst [.int c,.bl false]]) rfl).trans rfl)).trans ?_;have g:zi yL (zi qv (zi qx (zi zB zr zV) (zW (.int 48271))) (zW (.int 29))) (zW (.int 2147483647)) [rO 0,some (.int m),none,none] [.lst [.int c,.bl false]]=.ok (.int (Q7 c)) [.lst [.int c,.bl false]]:=by
  have em:zi qx (zi zB zr zV) (zW (.int 48271)) [rO 0,some (.int m),none,none] [.lst [.int c,.bl false]]=.ok (.int (c * 48271)) [.lst [.int c,.bl false]]:=
   (z7 (x:=.int c) (y:=.int 48271) (A1:=[.lst [.int c,.bl false]]) (A2:=[.lst [.int c,.bl false]]) rfl rfl).trans (Qg (by omega) (by omega))
  refine(z7 (x:=.int (c * 48271+29)) (y:=.int 2147483647) (A1:=[.lst [.int c,.bl false]]) (A2:=[.lst [.int c,.bl false]]) ((z7 em rfl).trans rfl) rfl).trans ?_;exact Jx (by decide)
 refine(zL (ρ1:=[rO 0,some (.int m),none,none]) (A1:=[.lst [.int (Q7 c),.bl false]]) ?_).trans ?_
 ·unfold ZK
  rw[g,zT]
  rfl
 generalize Q7 c=d at*;have b:zi yL (zi qv (zi qv (zi qx (zi zB zr zV) (zi zB zr zV)) (zi qx (zW (.int 39373)) (zi zB zr zV))) YY) (zW (.int 2147483629)) [rO 0,some (.int m),none,none] [.lst [.int d,.bl false]]=
   .ok (.int (gZ d)) [.lst [.int d,.bl false]]:=by
  have em:zi qx (zi zB zr zV) (zi zB zr zV) [rO 0,some (.int m),none,none] [.lst [.int d,.bl false]]=.ok (.int (d * d)) [.lst [.int d,.bl false]]:=
   (z7 (x:=.int d) (y:=.int d) (A1:=[.lst [.int d,.bl false]]) (A2:=[.lst [.int d,.bl false]]) rfl rfl).trans (Qg (by omega) (by omega))
  have E:zi qx (zW (.int 39373)) (zi zB zr zV) [rO 0,some (.int m),none,none] [.lst [.int d,.bl false]]=.ok (.int (39373 * d)) [.lst [.int d,.bl false]]:=
   (z7 (x:=.int 39373) (y:=.int d) (A1:=[.lst [.int d,.bl false]]) (A2:=[.lst [.int d,.bl false]]) rfl rfl).trans (Qg (by decide) (by decide))
  have s:zi qv (zi qx (zi zB zr zV) (zi zB zr zV)) (zi qx (zW (.int 39373)) (zi zB zr zV)) [rO 0,some (.int m),none,none] [.lst [.int d,.bl false]]=.ok (.int (d * d+39373 * d)) [.lst [.int d,.bl false]]:=
   (z7 em E).trans rfl
  refine(z7 (x:=.int (d * d+39373 * d+7)) (y:=.int 2147483629) (A1:=[.lst [.int d,.bl false]]) (A2:=[.lst [.int d,.bl false]]) ((z7 s rfl).trans rfl) rfl).trans ?_;exact Jx (by decide)
 refine(zL (jd b)).trans ?_;have B:=mF d;generalize gZ d=e at*;have a:zi yL (zi qv (zi qx zP zP) (zi qx (zW (.int 16807)) zP)) (zW (.int 2147483587)) [rO 0,some (.int m),none,some (.int e)] [.lst [.int d,.bl false]]=.ok (.int (Zn e)) [.lst [.int d,.bl false]]:=by
  have em:zi qx zP zP [rO 0,some (.int m),none,some (.int e)] [.lst [.int d,.bl false]]=.ok (.int (e * e)) [.lst [.int d,.bl false]]:=
   (z7 (x:=.int e) (y:=.int e) (A1:=[.lst [.int d,.bl false]]) (A2:=[.lst [.int d,.bl false]]) rfl rfl).trans (Qg (by omega) (by omega))
  have E:zi qx (zW (.int 16807)) zP [rO 0,some (.int m),none,some (.int e)] [.lst [.int d,.bl false]]=.ok (.int (16807 * e)) [.lst [.int d,.bl false]]:=
   (z7 (x:=.int 16807) (y:=.int e) (A1:=[.lst [.int d,.bl false]]) (A2:=[.lst [.int d,.bl false]]) rfl rfl).trans (Qg (by decide) (by decide))
  refine(z7 (x:=.int (e * e+16807 * e)) (y:=.int 2147483587) (A1:=[.lst [.int d,.bl false]]) (A2:=[.lst [.int d,.bl false]]) ((z7 em E).trans rfl) rfl).trans ?_;exact Jx (by decide)
 refine(zL (jd a)).trans ?_;generalize Zn e=f at*;refine jb (jM ?_);refine(z7 (x:=.int (f/8)) (y:=.int m) (A1:=[.lst [.int d,.bl false]]) (A2:=[.lst [.int d,.bl false]]) ?_ rfl).trans (Jx h1);exact(z7 (x:=.int f) (y:=.int 8) (A1:=[.lst [.int d,.bl false]]) (A2:=[.lst [.int d,.bl false]]) rfl rfl).trans (LU (by decide) (by decide))
def jG (n:Nat)(A:Hx):Prop:=∃c b,A[n]? =some (.lst [.int c,.bl b])/\0<=c/\(b=false->c<2147483647)
def Yp (h:jG n A){m:Int}(h1:0<m)(h2:m<1000000000000000):∃r o,yO [.ref n,.int m] A=.ok (.int r) (A.set n o)/\0<=r/\r<m/\jG n (A.set n o):=by
 obtain⟨c,b,d,a,f⟩:=h;have hn:n<A.length:=(ck.mp d).1;have fin:∀(r C:Int),Ku [.ref 0,.int m] [.lst [.int c,.bl b]]=.ok (.int r) [.lst [.int C,.bl b]]->yO [.ref n,.int m] A=.ok (.int r) (A.set n (.lst [.int C,.bl b])):=λr C e=>by
  unfold yO yI;dsimp only;rw[d];dsimp only;have H:(qO [W.int c,W.bl b]&&qO [W.int m])=true:=rfl;rw[aj H,e]
  rfl
 cases b with
 |true=>
  refine⟨c%m,_,fin _ _ (mE h1 h2),emod_nonneg _ (by omega),bG _ h1,c/m,true,aC hn,Int.ediv_nonneg a (by omega),λz=>nomatch z⟩
 |false=>
  exact⟨_,_,fin _ _ (mG a (f rfl) h1 h2),emod_nonneg _ (by omega),bG _ h1,Q7 c,false,aC hn,(Sd c).1,λ_=>(Sd c).2⟩
end G
namespace Mi
open PySem L2
def KI {k:Nat}{xs ys:List W}(h:A[n]? =some (.lst xs))(h2:A[k]? =some (.lst ys))(hl:xs.length+ys.length<=qj):qv (.ref n) (.ref k) A=.ok (.ref A.length) (A++[.lst (xs++ys)]):=by
 unfold qv;dsimp only;rw[h,h2];dsimp only;rw[aj hl]
def Ext (A A':Hx):Prop:=∃l,A'=A++l
def Ext.refl:Ext A A:=⟨[],by simp⟩
def Ext.trans {C:Hx}(a:Ext A B)(b:Ext B C):Ext A C:=let ⟨l,e⟩:=a;let ⟨k,f⟩:=b;⟨l++k,by rw[f,e,aN]⟩
def Ext.one {o:O}:Ext A (A++[o]):=⟨[o],rfl⟩
def Ext.at {A':Hx}{o:O}(x:Ext A A')(h:A[n]? =some o):A'[n]? =some o:=by
 obtain⟨l,rfl⟩:=x
 have:=(ck.mp h).1
 rw[ag this];exact h
def N7 {j:jJ}{ifs:Ev}{N:Nat}{I:Nat->En->List W->Hx->Prop}
  (H:∀i ρ acc A,i<N->I i ρ acc A->∃w ρ1,j.at_ A i=some (some w)/\tw w ρ=some ρ1/\((∃A1 c a A2,ifs ρ1 A=.ok (.bl true) A1/\em ρ1 acc A1=.ok (c,a) A2/\I (i+1) c a A2)∨(∃A1,ifs ρ1 A=.ok (.bl false) A1/\I (i+1) ρ1 acc A1)))
  (e:∀ρ acc A,I N ρ acc A->j.at_ A N=some none):
  ∀(f i:Nat)(ρ:En)(acc:List W)(A:Hx),i+f=N->I i ρ acc A->∃d b A',jn j tw ifs em f i ρ acc A=.ok (d,b) A'/\I N d b A':=by
 intro f
 induction f with
 |zero=>
  intro i ρ acc A h g
  have:i=N:=by omega
  subst this;refine⟨ρ,acc,A,?_,g⟩;unfold jn;rw[e _ _ _ g]
 |succ f n=>
  intro i ρ acc A h g;obtain⟨w,ρ1,h1,h2,o⟩:=H i ρ acc A (by omega) g
  rw[jn,h1];dsimp only;rw[h2];dsimp only;rcases o with ⟨A1,c,a,A2,l,p,E⟩|⟨A1,l,E⟩
  ·rw[l,zT]
   dsimp only;rw[p,zT];exact n (i+1) _ _ _ (by omega) E
  ·rw[l,zT]
   dsimp only;exact n (i+1) _ _ _ (by omega) E
def Gz {nl:Nat}{j:jJ}{ifs:Ev}{N:Nat}{I:Nat->En->List W->Hx->Prop}(hm:mi ρ A=.ok j A1)(f:j.len=N)
  (h:∀i ρ acc A,i<N->I i ρ acc A->∃w ρ1,j.at_ A i=some (some w)/\tw w ρ=some ρ1/\((∃A1 d b A2,ifs ρ1 A=.ok (.bl true) A1/\em ρ1 acc A1=.ok (d,b) A2/\I (i+1) d b A2)∨(∃A1,ifs ρ1 A=.ok (.bl false) A1/\I (i+1) ρ1 acc A1)))
  (H:∀ρ acc A,I N ρ acc A->j.at_ A N=some none)(h0:I 0 (Qo nl cap ρ) [] A1):∃c a A',zU nl cap mi tw ifs em ρ A=.ok a A'/\I N c a A':=by
 obtain⟨c,a,A',e,g⟩:=N7 h H N 0 _ _ _ (by omega) h0
 refine⟨c,a,A',?_,g⟩;unfold zU;rw[hm,zT,f,e]
 rfl
def wk {j:jJ}{st:W->Ex}{N:Nat}{I:Nat->En->Hx->Prop}
  (H:∀i ρ A,i<N->I i ρ A->∃w ρ1 A1,j.at_ A i=some (some w)/\st w ρ A=.ok (.nx ρ1) A1/\I (i+1) ρ1 A1)(d:∀ρ A,I N ρ A->j.at_ A N=some none):
  ∀(f i:Nat)(ρ:En)(A:Hx),i+f=N->I i ρ A->∃a A',yh j st f i ρ A=.ok (.nx a) A'/\I N a A':=by
 intro f
 induction f with
 |zero=>
  intro i ρ A h b
  have:i=N:=by omega
  subst this;exact⟨ρ,A,Ut (d _ _ b),b⟩
 |succ f c=>
  intro i ρ A h b;obtain⟨w,ρ1,A1,h1,h2,e⟩:=H i ρ A (by omega) b
  rw[GL h1 h2];exact c (i+1) _ _ (by omega) e
def GR {acc:List W}{y:W}(h:me ρ A=.ok y A1)(hl:acc.length<qj):zR me ρ acc A=.ok (ρ,acc++[y]) A1:=by
 unfold zR;rw[h,zT,aj hl]
theorem take_succ {l:List α}(h:i<l.length):l.take (i+1)=l.take i++[l[i]]:=by
 rw[List.take_succ,ae h];rfl
def Ext.app {l:Hx}(x:Ext A B):Ext A (B++l):=x.trans ⟨l,rfl⟩
def Ext.len (x:Ext A B):A.length<=B.length:=by obtain⟨l,rfl⟩:=x;simp
def yD {o:O}(h:A[n]? =some o):n<A.length:=(ck.mp h).1
end Mi
namespace G
open PySem L2 Mi
def mH {w:W}(H:A[n]? =some (.lst ws))(h:ws[i]? =some w):((zX (.ref n) A).map λws=>ws[i]?)=some (some w):=by
 rw[kB H,h]
def mI (H:A[n]? =some (.lst ws))(h:ws.length<=i):((zX (.ref n) A).map λws=>ws[i]?)=some none:=by
 rw[kB H,aA h]
theorem G6:∀(l:bK)(m:Int),m<=yv l m/\∀x∈l,x<=yv l m
 |[],m=>⟨Int.le_refl _,λx h=>by cases h⟩|y::l,m=>by
  unfold yv
  split
  ·rename_i a
   obtain⟨h1,h2⟩:=G6 l y;refine⟨by omega,λx H=>?_⟩
   rcases cm.mp H with rfl|H
   ·exact h1
   ·exact h2 x H
  ·rename_i a
   obtain⟨h1,h2⟩:=G6 l m;refine⟨h1,λx H=>?_⟩;rcases cm.mp H with rfl|H
   ·omega
   ·exact h2 x H
theorem OU:∀{l:List α}{k:Nat}{w:α},l[k]? =some w->l.Perm (w::l.eraseIdx k)
 |[],_,_,h=>by simp at h|x::l,0,w,h=>by
  simp at h;subst h;simp
 |x::l,k+1,w,h=>by
  rw[List.getElem?_cons_succ]at h;rw[List.eraseIdx_cons_succ];exact((OU h).cons x).trans (List.Perm.swap w x _)
def C1 {k:Nat}{i:Int}{w:W}(h:A[n]? =some (.lst ws))(hw:ws[k]? =some w)(H:jH i=true)(e:seqIndex? i ws.length=some k):Zf (.ref n) (.int i) A=.ok w (A.set n (.lst (ws.eraseIdx k))):=by
 unfold Zf;dsimp only;rw[h];dsimp only;rw[aj H,e];dsimp only;rw[hw]
def mK {k:Nat}(hl:k<n):seqIndex? (k:Int) n=some k:=by
 have:=PySem.StrLaws.seqIndex_nonneg (i:=(k:Int)) (n:=n) (by omega) (by omega)
 rw[aG]at this;exact this
def BX {k:Nat}{w:W}(h:A[n]? =some (.lst ws))(hw:ws[k]? =some w)(H:k<1000000):Zf (.ref n) (.int (k:Int)) A=.ok w (A.set n (.lst (ws.eraseIdx k))):=
 C1 h hw (G.QT H) (mK (ck.mp hw).1)
theorem Nh {β:Type}(f:α->β):∀(l:List α)(k:Nat),(l.map f).eraseIdx k=(l.eraseIdx k).map f
 |[],_=>rfl|_::_,0=>rfl|a::l,k+1=>by
  rw[aS,List.eraseIdx_cons_succ,List.eraseIdx_cons_succ,aS,Nh f l k]
def Jr {a b:Ev}{y:W}(H:a ρ A=.ok (.ref n) A)(c:A[n]? =some (.lst ws))(h:b ρ A=.ok y A1):jj g a b ρ A=g (.ref n) y A1:=by
 unfold jj;have hl:Ja (.ref n) A=true:=by unfold Ja;dsimp only;rw[c]
 rw[H,zT,aj hl,h,zT]
def KA {y:W}(h:A[n]? =some (.lst ws))(hl:ws.length<1000):jS (.ref n) y A=.ok .non (A.set n (.lst (ws++[y]))):=by
 unfold jS;dsimp only;rw[h];dsimp only;rw[aj (by unfold qj;omega)]
def G8 {us:List W}{c C:Int}{b B:Bool}{w:W}(a:A[n]? =some (.lst [.int c,.bl b]))(H:qO us=true)(h:f (.ref 0::us) [.lst [.int c,.bl b]]=.ok w A1)(h1:A1[0]? =some (.lst [.int C,.bl B]))(hw:w.nr=true):yI f (.ref n::us) A=.ok w (A.set n (.lst [.int C,.bl B])):=by
 unfold yI;dsimp only;rw[a];dsimp only;have h2:(qO [W.int c,W.bl b]&&qO us)=true:=by rw[H];rfl
 rw[aj h2,h];dsimp only;rw[List.head?_eq_getElem?,h1];dsimp only;have d:(qO [W.int C,W.bl B]&&w.nr)=true:=by rw[hw];rfl
 rw[aj d]
noncomputable abbrev iL (l:bP):List W:=l.map λ(a:Nat)=>W.int (a:Int)
def Bn {m:Ev}(h:m ρ A=.ok (.int (n:Int)) A1)(hn:n<=100):Xh m ρ A=.ok (.ref A1.length) (A1++[.lst (iL (List.range n))]):=by
 unfold Xh;rw[h,zT];dsimp only;rw[QT (by omega),aG,aI (by unfold qj;omega)]
 rfl
def GH {m:Ev}{o:List α}{f:α->W}{G:α->W}(h:m ρ A=.ok (.tup (o.map f)) A)(hl:o.length<=qj)(he:∀a∈o,me (some (f a)::cap.map λi=>(ρ[i]?).join) A=.ok (G a) A):
  zU 1 cap (qu m) (zE 0) qa (zR me) ρ A=.ok (o.map G) A:=by
 by_cases h0:o=[]
 ·subst h0
  have e:=gC (cap:=cap) (me:=me) (ρ:=ρ) (A:=A) (N:=0) (item:=λ_=>.non) (g:=λ_=>.non) (QW h) rfl (by unfold qj;omega) (λi H=>by omega) rfl (λi H=>by omega)
  exact e
 ·obtain⟨x,b⟩:∃x,x∈o:=List.exists_mem_of_ne_nil o h0
  have e:=gC (cap:=cap) (me:=me) (ρ:=ρ) (A:=A) (N:=o.length) (item:=λi=>f (o.getD i x)) (g:=λi=>G (o.getD i x)) (QW h) (ak ..) hl
   (λi H=>by show some (o.map f)[i]? =_;rw[ax,ae H,aa,ae H];rfl)
   (by show some (o.map f)[o.length]? =_;rw[aA (by rw[ak];exact aq _)])
   (λi H=>by
    have:o.getD i x=o[i]:=by rw[aa,ae H];rfl
    rw[this];exact he _ (aJ H))
  rw[e]
  congr 1
  apply bD
  ·simp
  ·intro i h1 h2
   have H:i<o.length:=by simpa using h2
   simp[aa,ae H]
def QK {β:Type}(o:List α)(x:α)(f:α->β):o.map f=(List.range o.length).map λi=>f (o.getD i x):=by
 apply bD
 ·simp
 ·intro i h1 h2
  have h:i<o.length:=by simpa using h1
  simp[aa,ae h]
def Xe (q:∀r∈t,r.length=t.length){v:Int}(h:v∈t.flatten):∃a b,a<t.length/\b<t.length/\at2 t a b=v:=by
 obtain⟨r,H,e⟩:=List.mem_flatten.mp h;obtain⟨a,d,g⟩:=bb H;obtain⟨b,c,f⟩:=bb e;refine⟨a,b,d,by rw[<- q r H];exact c,?_⟩
 unfold at2;have E:t.getD a []=r:=by rw[aa,ae d];exact g
 rw[E,aa,ae c];exact f
def mL (H:∀r∈t,r.length=t.length){a b:Nat}(d:a<t.length)(c:b<t.length):∃r∈t,at2 t a b∈r/\at2 t a b∈t.flatten:=by
 have h1:t.getD a []∈t:=yZ d;have h2:at2 t a b∈t.getD a []:=by
  unfold at2;have h:b<(t.getD a []).length:=by rw[H _ h1];exact c
  rw[aa (l:=t.getD a []),ae h];exact aJ _
 exact⟨_,h1,h2,List.mem_flatten.mpr ⟨_,h1,h2⟩⟩
def Mz {r:bK}{x:Int}(h:x∈r):x<=kZ r:=by
 cases r with
 |nil=>cases h|cons i is=>
  show x<=yv is i;rcases cm.mp h with rfl|h
  ·exact(G6 is x).1
  ·exact(G6 is i).2 x h
section
def Wb (h:qQ t){a b:Nat}(d:a<t.length)(c:b<t.length):at2 t a b<qK t:=by
 obtain⟨r,H,h1,_⟩:=mL h.sq d c;have E:=Mz h1;have e:=Mz (cu.mpr ⟨r,H,rfl⟩:kZ r∈t.map kZ);unfold qK;omega
def KP (h:qQ t):qK t-1∈t.flatten:=by
 obtain⟨r,H,e⟩:=cu.mp (GP h.map_ne)
 have:qK t-1=kZ r:=by unfold qK;omega
 rw[this];exact List.mem_flatten.mpr ⟨r,H,GP (h.row_ne H)⟩
def Tj (h:qQ t):qK t<=(t.length:Int):=by
 obtain⟨r,a,H⟩:=List.mem_flatten.mp (KP h)
 have:=h.lo r a _ H
 omega
def TM (h:qQ t){v:Nat}(H:(v:Int)<qK t):∃a b,a<t.length/\b<t.length/\at2 t a b=(v:Int):=by
 by_cases e:(v:Int)=qK t-1
 ·rw[e];exact Xe h.sq (KP h)
 ·exact Xe h.sq (h.fu v ⟨_,KP h,by omega⟩)
noncomputable def yk (p:bP):bK:=0::p.map λ(k:Nat)=>1+(k:Int)
def wO (t:bJ)(p o:bP):bJ:=o.map λa=>o.map λb=>(yk p).getD (at2 t a b).toNat 0
def ML {p:bP}{v:Nat}(h1:1<=v)(h2:v<=p.length):(yk p).getD v 0=1+((p[v-1]'(by omega):Nat):Int):=by
 obtain⟨v,rfl⟩:∃u,v=u+1:=⟨v-1,by omega⟩
 unfold yk;rw[aa,List.getElem?_cons_succ,ax,ae (by omega)]
 rfl
def Nk (h:qQ t){p o:bP}(g:p.Perm (List.range (qK t-1).toNat))(ho:o.Perm (List.range t.length)):qQ (wO t p o)/\(wO t p o).length=t.length:=by
 have l:o.length=t.length:=by rw[ho.length_eq,aM]
 have kb:=ZM h;have K:=Tj h;have z:p.length=(qK t-1).toNat:=by rw[g.length_eq,aM]
 have n1:=h.n1;have H:∀i,o.getD i 0<t.length:=λi=>by
  by_cases hi:i<o.length
  ·rw[aa,ae hi]
   exact cj.mp (ho.mem_iff.mp (aJ hi))
  ·rw[aa,aA (by omega)]
   exact n1
 have s:o.Nodup:=(ho.nodup_iff).mpr nodup_range;have r:∀a,a<t.length->∃i,i<t.length/\o.getD i 0=a:=λa x=>by
  obtain⟨i,hi,e⟩:=bb (ho.mem_iff.mpr (cj.mpr x));exact⟨i,by omega,by rw[aa,ae hi];exact e⟩
 have c:∀q (f:q<p.length),p[q]<p.length:=λq f=>by
  have:=cj.mp (g.mem_iff.mp (aJ f))
  omega
 have M:Mu t.length (λi j=>(yk p).getD (at2 t (o.getD i 0) (o.getD j 0)).toNat 0) p.length (λ_ _=>True):=by
  refine⟨λi=>?_,λi j=>?_,λi j A y _=>?_,λi j _ _ hn=>absurd trivial hn,λk k1 kc=>?_⟩
  ·show(yk p).getD (at2 t (o.getD i 0) (o.getD i 0)).toNat 0=0
   rw[(h.dg _ _ (H i) (H i)).mpr rfl]
   rfl
  ·show(yk p).getD (at2 t (o.getD i 0) (o.getD j 0)).toNat 0=(yk p).getD (at2 t (o.getD j 0) (o.getD i 0)).toNat 0
   rw[h.sy _ _ (H i) (H j)]
  ·show 1<=(yk p).getD (at2 t (o.getD i 0) (o.getD j 0)).toNat 0/\(yk p).getD (at2 t (o.getD i 0) (o.getD j 0)).toNat 0<=(p.length:Int)
   have n:o.getD i 0≠o.getD j 0:=by
    have w:i<o.length:=by omega
    have u:j<o.length:=by omega
    rw[aa,ae w,aa,ae u];intro e;have I:o[i]=o[j]:=e
    have:=(List.getElem_inj s).mp I
    omega
   have d:=h.dg _ _ (H i) (H j);have N:=Wv h (H i) (H j);have L:=Wb h (H i) (H j);have J:at2 t (o.getD i 0) (o.getD j 0)≠0:=λe=>n (d.mp e);rw[ML (by omega) (by omega)]
   have:=c ((at2 t (o.getD i 0) (o.getD j 0)).toNat-1) (by omega)
   omega
  ·obtain⟨q,f,e⟩:=bb (g.mem_iff.mpr (cj.mpr (by omega:k-1<(qK t-1).toNat)))
   obtain⟨a,b,x,B,D⟩:=TM h (v:=q+1) (by omega)
   obtain⟨i,hi,C⟩:=r a x;obtain⟨j,y,E⟩:=r b B;refine⟨i,j,hi,y,?_⟩;show(yk p).getD (at2 t (o.getD i 0) (o.getD j 0)).toNat 0=(k:Int);rw[C,E,D,aG,ML (by omega) (by omega)]
   have:p[q+1-1]'(by omega)=k-1:=e
   rw[this];omega
 have hT:wO t p o=kY t.length (λi j=>(yk p).getD (at2 t (o.getD i 0) (o.getD j 0)).toNat 0):=by
  unfold wO kY;rw[QK o 0,l]
  congr 1
  funext i
  rw[QK o 0 (λb=>(yk p).getD (at2 t (o.getD i 0) b).toNat 0),l]
 refine⟨?_,by unfold wO;rw[ak,l]⟩
 rw[hT];exact M.tab (λ_ _ _ _=>trivial) n1 h.n8 (.inr (by omega))
end
end G
namespace Mi
open PySem L2
def mM {r b:Nat}{v:W}(h:A[r]? =some (.lst ws))(H:b<ws.length):k9 (.ref r) (.int (b:Int)) v A=.ok () (A.set r (.lst (ws.set b v))):=by
 have e:gT ws.length (b:Int)=some b:=by unfold gT;rw[aj (by omega),aj (by omega),aG]
 unfold k9;dsimp only;rw[h];dsimp only;rw[e]
structure Kp (n:Nat)(A B:Hx):Prop where
 len:A.length<=B.length
 at_:∀i,i<A.length->i≠n->B[i]? =A[i]?
section
variable {C:Hx}
theorem Kp.trans (a:Kp n A B)(b:Kp n B C):Kp n A C:=⟨a4 a.len b.len,λi h1 h2=>(b.at_ i (aE h1 a.len) h2).trans (a.at_ i h1 h2)⟩
theorem Kp.set {o:O}:Kp n A (A.set n o):=⟨by rw[length_set];exact aq _,λi _ h=>az (Ne.symm h)⟩
def Kp.ext (x:Ext A B):Kp n A B:=by
 obtain⟨l,rfl⟩:=x;exact⟨by simp,λi h _=>ag h⟩
def Kp.get (a:Kp n A B){o:O}(h:A[i]? =some o)(hn:i≠n):B[i]? =some o:=by rw[a.at_ i (yD h) hn];exact h
end
end Mi
namespace G
open PySem L2 Mi
section
abbrev Sq (t:bJ):Prop:=∀r∈t,r.length=t.length
end
def YS (t:bJ):Bool:=decide (1<=t.length)&&(decide (t.length<=8)&&((t.all λr=>r.length==t.length&&r.all λv=>decide (0<=v)&&decide (v<(t.length:Int)))&&
 (((List.range t.length).all λa=>(List.range t.length).all λb=>(decide (at2 t a b=0)==decide (a=b))&&decide (at2 t a b=at2 t b a))&&(List.range 8).all λk=>!(t.flatten.any λv=>decide ((k:Int)<v)) || t.flatten.contains (k:Int))))
def KR (h:YS t=true):qQ t:=by
 unfold YS at h;rw[ah,ah,ah,ah,ai,ai]at h;obtain⟨n1,n8,i,s,hf⟩:=h;have rw_:∀r∈t,r.length=t.length/\∀v∈r,0<=v/\v<(t.length:Int):=λr hm=>by
  have:=cn.mp i r hm
  rw[ah,aH]at this;refine⟨this.1,λv d=>?_⟩
  have:=cn.mp this.2 v d
  rw[ah,ai,ai]at this;exact this
 have at_:∀a b,a<t.length->b<t.length->(decide (at2 t a b=0)==decide (a=b))=true/\at2 t a b=at2 t b a:=λa b c H=>by
  have:=cn.mp (cn.mp s a (cj.mpr c)) b (cj.mpr H)
  rw[ah,ai]at this;exact this
 refine⟨n1,n8,λr hm=>(rw_ r hm).1,λr hm=>(rw_ r hm).2,λa b c H=>?_,λa b c H=>(at_ a b c H).2,λk j=>?_⟩
 ·have:=aH.mp (at_ a b c H).1
  by_cases q:a=b
  ·rw[aI q]at this;exact⟨λ_=>q,λ_=>of_decide_eq_true this⟩
  ·rw[aK q]at this;exact⟨λz=>absurd z (of_decide_eq_false this),λz=>absurd z q⟩
 ·obtain⟨v,d,f⟩:=j
  obtain⟨r,hm,e⟩:=List.mem_flatten.mp d
  have:=(rw_ r hm).2 v e
  have g:=cn.mp hf k (cj.mpr (by omega))
  rw[bj]at g;rcases g with z|z
  ·exfalso
   have:(t.flatten.any λv=>decide ((k:Int)<v))=true:=List.any_eq_true.mpr ⟨v,d,aI f⟩
   rw[this]at z;cases z
  ·exact List.contains_iff_mem.mp z
def gN (t:bJ):((zo t).nr&&true)=true:=by rw[ZE];rfl
def L9 {m:Ev}{w:W}{ty c:Ty}(h:m ρ A=.ok w A1)(H:kM w A1=some ty):kQ c m ρ A=.ok (.bl (wa ty c)) A1:=by
 unfold kQ;rw[h,zT,H]
def mO (h:ρ[i]? =some (some (.tup ws))):mQ qc (zN (qh i)) ρ A=.ok (.int ws.length) A:=by
 rw[yB (kx (w:=.tup ws) (A1:=A) (zy h) rfl)]
 rfl
def C8 (i:Int)(A:Hx):Kx [.int i] A=.ok (.bl true) A:=by
 unfold Kx Uw;exact jC (w:=.bl true) (A1:=A) rfl
def mP {r:bK}(hl:r.length<=8)(A:Hx):Yd [zu r,.int r.length] A=.ok (.bl true) A:=by
 unfold Yd Gx;refine jC ?_;unfold Up;refine jb (jM ?_);refine(Ys (A1:=A) rfl).trans ?_;have e:mQ qc (zN zr) [some (zu r),some (.int r.length)] A=.ok (.int r.length) A:=by
  rw[yB (kx (w:=zu r) (A1:=A) (zy rfl) rfl)];unfold qc;rw[ak]
 refine(Ys (A1:=A) ((z7 e (zy (i:=1) rfl)).trans ((gU _ _ _).trans (by rw[aI rfl])))).trans ?_
 have E:=GO (cap:=[]) (A:=A) (ρ:=[some (zu r),some (.int r.length)]) (ws:=r.map W.int) (me:=zH Kx (zh zr zm)) (g:=λ_=>.bl true) (zy (i:=0) rfl) (by rw[ak];unfold qj;omega) (λw hw=>by
  obtain⟨i,_,rfl⟩:=cu.mp hw;exact(jt (ws:=[.int i]) (A1:=A) rfl).trans (C8 i A))
 exact(yB E).trans (Xj (p:=λ_=>true) λ_ _=>rfl)
def mR {r:bK}(hl:r.length<=8)(H:∀v∈r,0<=v/\v<r.length)(A:Hx):Z0 [zu r,.int r.length,.int r.length] A=.ok (.bl true) A:=by
 unfold Z0 W9;refine jC ?_;unfold VA;refine jb (jM ?_);refine(Ys (A1:=A) ((jt (ws:=[zu r,.int r.length]) (A1:=A) rfl).trans (mP hl A))).trans ?_;have e:=GO (cap:=[2]) (A:=A) (ρ:=[some (zu r),some (.int r.length),some (.int r.length)]) (ws:=r.map W.int) (me:=wu QB WQ (zW (.int 0)) (qh 0) (qh 1)) (g:=λ_=>.bl true) (zy (i:=0) rfl) (by rw[ak];unfold qj;omega) (λw hw=>by
  obtain⟨v,h,rfl⟩:=cu.mp hw;obtain⟨h1,h2⟩:=H v h;unfold wu;rw[qy,zT,zy (i:=0) (w:=.int v) rfl,zT];show R.bind (R.ok (W.bl (decide ((0:Int)<=v))) A) _=_;rw[aI h1,zT];dsimp only;rw[zy (i:=1) (w:=.int r.length) rfl,zT];show R.ok (W.bl (decide (v<(r.length:Int)))) A=_;rw[aI h2])
 exact(yB e).trans (Xj (p:=λ_=>true) λ_ _=>rfl)
def mS (h:qQ t)(A:Hx):UE [zo t] A=.ok (.bl true) A:=by
 refine Yw (A1:=[]) (gN t) rfl (jC ?_);unfold Nw;obtain⟨d,e,_⟩:=Nx (A:=[]) (N:=t.length) (item:=λi=>.tup [.int i,zu (t.getD i [])]) (I:=λρ=>∃g Y y y4,ρ=[some (zo t),g,Y,y,y4])
  (j:=kH (zo t) (t.map zu).length) (st:=turn (ji 1 2) (zj (qF (kD zK) (ji 3 4) (zj (jf (gQ (zi jo (zi jB qd zV) (zi jB zt zP)) (zi jo (zi zB (zi zB zr zP) zt) qd)) yU zx) zx)) zx))
  (λi n=>YC (Wg n)) (by have:=Yr (A:=[]) (ws:=t.map zu);rw[ak]at this;rw[ak];exact this) (λa f ρ H=>by
   obtain⟨g,Y,y,y4,rfl⟩:=H;have l:=h.sq _ (yZ f);obtain⟨o,E,p,Z,r⟩:=Nx (A:=[]) (N:=t.length) (item:=λi=>.tup [.int i,.int ((t.getD a []).getD i 0)]) (I:=λρ=>∃y y4,ρ=[some (zo t),some (.int a),some (zu (t.getD a [])),y,y4])
    (j:=kH (zu (t.getD a [])) ((t.getD a []).map W.int).length) (st:=turn (ji 3 4) (zj (jf (gQ (zi jo (zi jB qd zV) (zi jB zt zP)) (zi jo (zi zB (zi zB zr zP) zt) qd)) yU zx) zx))
    (λi n=>YC (int_at (by omega)))
    (by have:=Yr (A:=[]) (ws:=(t.getD a []).map W.int);rw[ak,l]at this;rw[ak,l];exact this)
    (λb c ρ H=>by
     obtain⟨y,y4,rfl⟩:=H;refine⟨[some (zo t),some (.int a),some (zu (t.getD a [])),some (.int b),some (.int ((t.getD a []).getD b 0))],?_,_,_,rfl⟩;refine(yz rfl).trans ?_;refine(zL ((yP (A1:=[]) ?_).trans rfl)).trans rfl;have v:zi jo (zi jB qd zV) (zi jB zt zP) [some (zo t),some (.int a),some (zu (t.getD a [])),some (.int b),some (.int ((t.getD a []).getD b 0))] []=.ok (.bl false) []:=by
      refine(z7 ((z7 (zy (i:=4) rfl) (qy (w:=.int 0))).trans (gU _ _ _)) ((z7 (zy (i:=1) rfl) (zy (i:=3) rfl)).trans (gU _ _ _))).trans ((my _ _ _).trans ?_);have hd:(t.getD a []).getD b 0=0↔a=b:=h.dg a b f c
      have:decide ((t.getD a []).getD b 0=0)=decide ((a:Int)=(b:Int)):=by
       by_cases q:a=b
       ·rw[aI (hd.mpr q),aI (by omega)]
       ·rw[aK (λz=>q (hd.mp z)),aK (by omega)]
      rw[this];simp
     have E:zi jo (zi zB (zi zB zr zP) zt) qd [some (zo t),some (.int a),some (zu (t.getD a [])),some (.int b),some (.int ((t.getD a []).getD b 0))] []=.ok (.bl false) []:=by
      have u:=h.sq _ (yZ c);refine(z7 ((z7 ((z7 (zy (i:=0) rfl) (zy (i:=3) rfl)).trans (Jw c)) (zy (i:=1) rfl)).trans (Qf (by omega))) (zy (i:=4) rfl)).trans ((Ht _ _ _).trans ?_)
      have s:(t.getD b []).getD a 0=(t.getD a []).getD b 0:=(h.sy a b f c).symm;rw[s,aI rfl]
      rfl
     exact(IE v).trans E) t.length 0 [some (zo t),some (.int a),some (zu (t.getD a [])),y,y4] (by omega) ⟨_,_,rfl⟩
   refine⟨[some (zo t),some (.int a),some (zu (t.getD a [])),p,Z],?_,_,_,_,_,rfl⟩;refine(yz rfl).trans ?_;rw[r]at E;have hlen:((t.getD a []).map W.int).length=t.length:=by rw[ak,l]
   refine(zL ((ym (Yf (zy (i:=2) rfl))).trans ?_)).trans rfl;show yh (kH (zu (t.getD a [])) ((t.getD a []).map W.int).length) _ ((t.getD a []).map W.int).length 0 _ _=_;rw[hlen]at E ⊢;exact E) t.length 0 [some (zo t),none,none,none,none] (by omega) ⟨_,_,_,_,rfl⟩
 refine(zL (ρ1:=d) (A1:=[]) ((ym (Yf (zy (i:=0) rfl))).trans ?_)).trans (jb rfl);show yh (kH (zo t) (t.map zu).length) _ (t.map zu).length 0 _ _=_;have hlen:(t.map zu).length=t.length:=ak ..;rw[hlen]at e ⊢;exact e
def mT (h:qQ t)(A:Hx):Vv [zo t] A=.ok (.bl true) A:=by
 have o:=mC h;have c:t.flatten≠[]:=by
  intro e;have h1:=h.n1;have b:=h.sq _ (yZ (t:=t) (a:=0) (by omega))
  have:t.getD 0 []=[]:=by
   have:=List.flatten_eq_nil_iff.mp e _ (yZ (t:=t) (a:=0) (by omega))
   exact this
  rw[this]at b;simp at b;omega
 obtain⟨v0,l,E⟩:=List.exists_cons_of_ne_nil c;refine Yw (A1:=[.lst (t.flatten.map W.int)]) (gN t) rfl (jC ?_);unfold RC;refine(zL (jd (ko (mB (zy rfl) (by unfold qj;omega))))).trans (jb (jM ?_))
 generalize hB:[O.lst (t.flatten.map W.int)]=B;have s:zX (.ref 0) B=some (t.flatten.map W.int):=by rw[<- hB];rfl
 have em:mQ yS (zN zt) [some (zo t),rO 0] B=.ok (.int (yv l v0)) B:=by
  rw[yB (kx (w:=.ref 0) (A1:=B) (zy rfl) s)];unfold yS;rw[Gv,E]
 have H:yv l v0∈t.flatten:=by
  rw[E];rcases UQ l v0 with e|e
  ·rw[e];exact aB ..
  ·exact au _ e
 have f:0<=yv l v0/\yv l v0<8:=by
  obtain⟨r,b,v⟩:=List.mem_flatten.mp H
  have:=h.lo r b _ v
  have:=h.n8
  omega
 generalize yv l v0=M at em H f;obtain⟨K,rfl⟩:=a5 f.1;have q:=gC (cap:=[1]) (me:=zi Ro zr zt) (ρ:=[some (zo t),rO 0]) (A:=B) (N:=K) (j:=ye 0 K) (item:=λi=>.int (0+i)) (g:=λ_=>.bl true)
  ((wm em (by unfold jH;simp;omega)).trans (by rw[aG])) rfl (by unfold qj;omega) (λi d=>kf d) (yY (by omega))
  (λi d=>by
   refine(z7 (zy (i:=0) (w:=.int (0+i)) rfl) (zy (i:=1) (w:=.ref 0) rfl)).trans ?_;show Q5 false _ _ _=_;unfold Q5;rw[s];dsimp only;have hf:(yC (.int (0+(i:Int)))&&(t.flatten.map W.int).all yC)=true:=by
    have:(t.flatten.map W.int).all yC=true:=cn.mpr λw hw=>by obtain⟨x,_,rfl⟩:=cu.mp hw;rfl
    rw[this];rfl
   rw[aj hf];have n:YW (.int (0+(i:Int))) (t.flatten.map W.int)=true:=by
    unfold YW;refine List.any_eq_true.mpr ⟨.int i,cu.mpr ⟨(i:Int),h.fu i ⟨_,H,by omega⟩,rfl⟩,?_⟩
    show((i:Int)==0+(i:Int))=true;rw[Int.zero_add];exact bH _
   rw[n]
   rfl)
 refine(yB q).trans ?_;exact Xj (p:=λ_=>true) λ_ _=>rfl
def mU (h:qQ t)(A:Hx):Zy [zo t] A=.ok (.bl true) A:=by
 have n1:=h.n1;have n8:=h.n8;unfold Zy Kz;refine jC ?_;unfold Gy;have e:∀ρ:En,mQ qc (zN (qh 0)) (some (zo t)::ρ) A=.ok (.int t.length) A:=λρ=>by
  rw[yB (kx (w:=zo t) (A1:=A) (zy rfl) rfl)];unfold qc;rw[ak]
 refine(zL (ρ1:=[some (zo t),none]) (A1:=A) ((yP (A1:=A) ?_).trans rfl)).trans ?_
 ·refine(IE (A1:=A) rfl).trans ?_
  refine gD (k:=true) ?_;show wu QB QB (zW (.int 1)) (mQ qc (zN (qh 0))) (zW (.int 8)) [some (zo t),none] A=_;unfold wu;rw[qy,zT,e,zT];show R.bind (R.ok (W.bl (decide ((1:Int)<=t.length))) A) _=_;rw[aI (by omega),zT]
  dsimp only;rw[qy,zT];show R.ok (W.bl (decide ((t.length:Int)<=8))) A=_;rw[aI (by omega)]
 refine(zL (jd (e _))).trans ?_;have E:=GO (cap:=[1]) (A:=A) (ρ:=[some (zo t),some (.int t.length)]) (ws:=t.map zu) (me:=zH Z0 (zh (qh 0) (zh (qh 1) (zh (qh 1) zm)))) (g:=λ_=>.bl true) (zy (i:=0) rfl) (by rw[ak];unfold qj;omega) (λw hw=>by
  obtain⟨r,H,rfl⟩:=cu.mp hw;have hl:=h.sq r H;refine(jt (ws:=[zu r,.int t.length,.int t.length]) (A1:=A) rfl).trans ?_;rw[<- hl];exact mR (by omega) (λv a=>by have:=h.lo r H v a;omega) A)
 refine(zL (ρ1:=[some (zo t),some (.int t.length)]) (A1:=A) ((yP (A1:=A) (gD (k:=true) ((yB E).trans (Xj (p:=λ_=>true) λ_ _=>rfl)))).trans rfl)).trans (jb (jM ?_));refine(Ys (A1:=A) ((jt (ws:=[zo t]) (A1:=A) rfl).trans (mS h A))).trans ?_;exact(jt (ws:=[zo t]) (A1:=A) rfl).trans (mT h A)
end G
namespace Mi
open PySem L2
theorem OO:∀(l m:bK),PyData.eqvAll (l.map PyData.int) (m.map PyData.int)=decide (l=m)
 |[],[]=>by simp[PyData.eqvAll]|[],_::_=>by simp[PyData.eqvAll]|_::_,[]=>by simp[PyData.eqvAll]|a::l,b::m=>by
  simp only[aS,PyData.eqvAll,OO l m,PyData.eqv];rw[Bool.eq_iff_iff];simp
def Ky (A B:Hx):Prop:=∀w ty,kM w A=some ty->kM w B=some ty
def Ext.ky (x:Ext A B):Ky A B:=λw ty h=>by
 cases w with
 |ref n=>
  unfold kM at h ⊢;dsimp only at h ⊢;cases e:A[n]? with
  |none=>rw[e]at h;cases h|some o=>rw[e]at h;rw[x.at e];exact h
 |_=>exact h
def Ky.trans {C:Hx}(a:Ky A B)(b:Ky B C):Ky A C:=λw ty h=>b w ty (a w ty h)
section
def L5:kM (.ref A.length) (A++[.lst ws])=some .lst:=by
 unfold kM;dsimp only;rw[jm]
end
structure Kn (n:Nat)(A B:Hx):Prop where
 kp:Kp n A B
 st:G.jG n B
def _root_.G.jG.ty (h:G.jG n A):kM (.ref n) A=some .lst:=by
 obtain⟨c,b,e,_⟩:=h;unfold kM;dsimp only;rw[e]
def _root_.G.jG.lt (h:G.jG n A):n<A.length:=by
 obtain⟨c,b,e,_⟩:=h;exact yD e
def _root_.G.jG.ext (h:G.jG n A)(x:Ext A B):G.jG n B:=by
 obtain⟨c,b,e,r⟩:=h;exact⟨c,b,x.at e,r⟩
def Kn.ky (s:G.jG n A)(k:Kn n A B):Ky A B:=λw ty h=>by
 cases w with
 |ref i=>
  by_cases q:i=n
  ·subst q
   rw[s.ty]at h;rw[k.st.ty];exact h
  ·unfold kM at h ⊢
   dsimp only at h ⊢
   by_cases z:i<A.length
   ·rw[k.kp.at_ i z q];exact h
   ·rw[aA (by omega)]at h;cases h
 |_=>exact h
theorem Kn.trans {C:Hx}(a:Kn n A B)(b:Kn n B C):Kn n A C:=⟨a.kp.trans b.kp,b.st⟩
theorem Kn.ext (s:G.jG n A)(x:Ext A B):Kn n A B:=⟨Kp.ext x,s.ext x⟩
end Mi
namespace G
open PySem L2 Mi
def Lj (h:jG n A){m:Int}(h1:0<m)(h2:m<1000000000000000):∃(r:Nat) (B:Hx),yO [.ref n,.int m] A=.ok (.int r) B/\(r:Int)<m/\Kn n A B/\B.length=A.length:=by
 obtain⟨r,o,e,a,b,s⟩:=Yp h h1 h2;exact⟨r.toNat,A.set n o,by rw[e,Int.toNat_of_nonneg a],by omega,⟨Kp.set,s⟩,length_set ..⟩
def mV {m:Int}(h:jG n A)(h0:ρ[0]? =some (rO n))(hm:me ρ A=.ok (.int m) A)(h1:0<m)(h2:m<1000000000000000):∃(r:Nat) (B:Hx),zH yO (zh zr (zh me zm)) ρ A=.ok (.int r) B/\(r:Int)<m/\Kn n A B/\B.length=A.length:=by
 obtain⟨r,B,e,a⟩:=Lj h h1 h2;exact⟨r,B,(jt (zS (zy h0) (zS hm qE))).trans e,a⟩
def mW {ty:Ty}(h:ty≠.tup):wa ty .tup=false:=by
 cases ty<;>first|rfl|exact absurd rfl h
def wH (A:Hx)(w:W):Prop:=∀B,Ky A B->Zy [w] B=.ok (.bl false) B
def wH.mono {w:W}(k:Ky A B)(h:wH A w):wH B w:=λC q=>h C (k.trans q)
def ID {w:W}{ty:Ty}(h:kM w A=some ty)(hn:ty≠.tup):wH A w:=λB k=>by
 unfold Zy Kz;refine jC ?_;unfold Gy;have e:kQ .tup zr [some w,none] B=.ok (.bl false) B:=(L9 (zy rfl) (k _ _ h)).trans (by rw[mW hn])
 have E:gQ (yi (kQ .tup zr)) (yi (wu QB QB qp (mQ qc (zN zr)) JS)) [some w,none] B=.ok (.bl true) B:=by
  unfold gQ;rw[gD e,zT]
  rfl
 exact jb ((gn E).trans (jb (jM qy)))
def ET (m:Ev)(ρ:En):Prop:=∀A,∃w A1,m ρ A=.ok w A1/\Ext A A1/\wH A1 w
def AT (a:Ea)(ρ:En)(k:Nat):Prop:=∀A,∃ws A1,a ρ A=.ok ws A1/\Ext A A1/\ws.length=k/\∀w∈ws,wH A1 w
section
variable {m:Ev}{a:Ea}{k:Nat}{w:W}
def L6:AT zm ρ 0:=λA=>⟨[],A,rfl,Ext.refl,rfl,λ_ h=>by cases h⟩
def wt (h:ET m ρ)(t:AT a ρ k):AT (zh m a) ρ (k+1):=λA=>by
 obtain⟨w,A1,E,x1,h1⟩:=h A;obtain⟨ws,A2,e,x2,l,h2⟩:=t A1;refine⟨w::ws,A2,zS E e,x1.trans x2,by rw[bo,l],λy H=>?_⟩
 rcases cm.mp H with rfl|H
 ·exact h1.mono x2.ky
 ·exact h2 y H
def gG (h:∀A,m ρ A=.ok w A)(hf:∀B,Zy [w] B=.ok (.bl false) B:=by intro B;kernel_rfl):ET m ρ:=λA=>⟨w,A,h A,Ext.refl,λB _=>hf B⟩
def mX:ET XY ρ:=λA=>⟨.ref A.length,A++[.dct []],rfl,Ext.one,ID (ty:=.dct) (by unfold kM;dsimp only;rw[jm]) (by decide)⟩
end
section
variable {a:Ea}{k:Nat}
structure TL (A:Hx)(r k:Nat)(B:Hx):Prop where
 at_:∃ws,B[r]? =some (.lst ws)/\ws.length=k/\∀w∈ws,wH B w
 nw:A.length<=r
 ext:Ext A B
def mY (h:AT a ρ k)(A:Hx):∃r B,qi a ρ A=.ok (.ref r) B/\TL A r k B:=by
 obtain⟨ws,A1,e,x,hl,hw⟩:=h A;exact⟨_,_,j6 e,⟨ws,jm,hl,λw H=>(hw w H).mono Ext.one.ky⟩,x.len,x.app⟩
def mZ {r:Nat}(t:TL A r j B)(h:AT a ρ k)(c:ρ[i]? =some (rO r))(hl:j+k<=100):∃b C,zi qv (qh i) (qi a) ρ B=.ok (.ref b) C/\TL A b (j+k) C:=by
 obtain⟨ws,e,l,hw⟩:=t.at_;obtain⟨us,d,E,x1,L,u⟩:=h B;have x2:Ext B (d++[.lst us]):=x1.app;refine⟨_,_,(z7 (zy c) (j6 E)).trans (KI (x2.at e) jm (by unfold qj;omega)),⟨ws++us,jm,by rw[av,l,L],λw H=>?_⟩,?_,(t.ext.trans x2).app⟩
 ·rcases cx.mp H with q|q
  ·exact(hw w q).mono (x2.app).ky
  ·exact(u w q).mono (Ext.one.trans Ext.one).ky
 ·have:=t.ext.len
  have:=x2.len
  omega
def m3 {r:Nat}{m:Int}{mm:Ev}(s:jG n A)(t:TL A r k B)(a:ρ[i]? =some (rO r))(h0:ρ[0]? =some (rO n))(hm:∀A,mm ρ A=.ok (.int m) A)(b:(k:Int)=m)(h1:0<m)(h2:m<1000):∃w C,zi zB (qh i) (zH yO (zh zr (zh mm zm))) ρ B=.ok w C/\wH C w/\Kn n A C:=by
 obtain⟨ws,e,l,hw⟩:=t.at_;have sB:=s.ext t.ext;obtain⟨j,C,E,c,kn,_⟩:=mV sB h0 (hm B) h1 (by omega)
 have h:j<ws.length:=by omega
 have H:r≠n:=by have:=s.lt;have:=t.nw;omega
 refine⟨ws[j],C,(z7 (zy a) E).trans (ZD (kn.kp.get e H) (ae h)),(hw _ (aJ h)).mono (kn.ky sB),(Kn.ext s t.ext).trans kn⟩
end
section
variable {N a:Nat}
def CF (g:t.length<=8)(H:Sq t){m:Ev}{c:Hx}(h1:m ρ c=.ok (zo t) B):qY (zU 1 [] (qu m) (zE 0) qa (zR (qY (zN zr)))) ρ c=
  .ok (.ref (B.length+t.length)) (B++(t.map λr=>O.lst (r.map W.int))++[O.lst ((List.range t.length).map λi=>W.ref (B.length+i))]):=by
 obtain⟨b,d,j,e,⟨z,g1⟩,g2,g3⟩:=Gz (nl:=1) (cap:=[]) (tw:=zE 0) (ifs:=zW (.bl true)) (em:=zR (qY (zN zr))) (ρ:=ρ) (A:=c) (N:=t.length)
  (I:=λp b a C=>(∃z,b=[z])/\C=B++((t.take p).map λr=>O.lst (r.map W.int))/\a=(List.range p).map λi=>W.ref (B.length+i)) (QW h1) (by simp)
  (λp b a C h ⟨⟨z,f1⟩,f2,f⟩=>by
   subst f1 f2 f;refine⟨zu t[p],[some (zu t[p])],?_,rfl,.inl ⟨_,_,_,_,rfl,GR (ko (kx (w:=zu t[p]) (ws:=t[p].map W.int) (zy rfl) rfl)) ?_,⟨_,rfl⟩,?_,?_⟩⟩
   ·show some (t.map zu)[p]? =_
    rw[ax,ae h];rfl
   ·simp;unfold qj;omega
   ·rw[take_succ h,aO,aN];rfl
   ·rw[a6,aO,av,ak,bC,Nat.min_eq_left (bz h)];rfl)
  (λb a C _=>by show some (t.map zu)[t.length]? =_;rw[aA (by simp)]) ⟨⟨none,rfl⟩,by simp,by simp⟩
 rw[ko e,g2,g3,take_length];simp
end
def Ah {c:En}{j:jJ}{N:Nat}{u v g:Nat->W}(t:∀i,i<N->j.at_ A i=some (some (.tup [u i,v i])))(H:j.at_ A N=some none)(he:∀i,i<N->me (some (u i)::some (v i)::c) A=.ok (g i) A):
  ∀(f i:Nat)(x y:Option W)(acc:List W),i+f=N->acc.length+f<=qj->∃ρ,jn j (ji 0 1) (zW (.bl true)) (zR me) f i (x::y::c) acc A=.ok (ρ,acc++(List.range' i f).map g) A:=by
 intro f
 induction f with
 |zero=>
  intro i x y acc h hl
  have:i=N:=by omega
  subst this;refine⟨x::y::c,?_⟩;unfold jn;rw[H];simp
 |succ f I=>
  intro i x y acc h hl;obtain⟨ρ,e⟩:=I (i+1) (some (u i)) (some (v i)) (acc++[g i]) (by omega) (by rw[av,aW];omega)
  refine⟨ρ,?_⟩;rw[jn,t i (by omega)]
  dsimp only;rw[show ji 0 1 (.tup [u i,v i]) (x::y::c)=some (some (u i)::some (v i)::c) from rfl]
  dsimp only[zW];rw[zT];dsimp only;have E:zR me (some (u i)::some (v i)::c) acc A=.ok (some (u i)::some (v i)::c,acc++[g i]) A:=by
   unfold zR;rw[he i (by omega),zT,aj (by omega)]
  rw[E,zT];rw[e,aN,range'_succ,aS]
  rfl
def Cc {j:jJ}{N:Nat}{u v g:Nat->W}(hm:mi ρ A=.ok j A)(b:j.len=N)(d:N<=1000)(H:∀i,i<N->j.at_ A i=some (some (.tup [u i,v i])))(h:j.at_ A N=some none)
  (he:∀i,i<N->me (some (u i)::some (v i)::cap.map λi=>(ρ[i]?).join) A=.ok (g i) A):zU 2 cap mi (ji 0 1) qa (zR me) ρ A=.ok ((List.range N).map g) A:=by
 obtain⟨a,e⟩:=Ah (A:=A) (c:=cap.map λi=>(ρ[i]?).join) H h he N 0 none none [] (by omega) (by unfold qj;simp;omega)
 unfold zU;rw[hm,zT,b];show R.bind (R.nox (jn j _ _ _ N 0 (none::none::cap.map λi=>(ρ[i]?).join) [] A)) _=_;rw[e,<- range_eq_range',bf]
 rfl
def K5 {r:R α}{a:α}(h:r=.ok a A):r.nox=.ok a A:=by rw[h];rfl
def m4 {m:Ex}{w:W}(h:m (ws.map some++List.replicate (n-ws.length) none) A=.ok (.rt w) A1):kK n m ws A=.ok w A1:=by unfold kK;rw[h];rfl
def U2 {m:Ex}(h:m (ws.map some++List.replicate (n-ws.length) none) A=.ok (.nx ρ) A1):kK n m ws A=.ok .non A1:=by unfold kK;rw[h];rfl
def ZA {m1 m2:Ex}(h:m1 ρ A=.exc x A1):zj m1 m2 ρ A=.exc x A1:=by unfold zj;rw[h,NW]
def Ta {m:Ev}(h:m ρ A=.exc x A1):jx m ρ A=.exc x A1:=by unfold jx;rw[h,NW]
def Jq {m:Ex}(h:m (ws.map some++List.replicate (n-ws.length) none) A=.exc x A1):kK n m ws A=.exc x A1:=by unfold kK;rw[h];rfl
def m5 {m M:Ev}{us vs:List W}(h:m ρ A=.ok (.tup us) A)(h':M ρ A=.ok (.tup vs) A):wA m M ρ A=.ok (Qq (.tup us) (.tup vs) us.length) A:=by
 unfold wA;rw[h,zT,h',zT]
 rfl
def Bb {a:Ea}{xs ys:List W}{r:Nat}{u e:Option W}(H:A[r]? =some (.lst xs))(h:a [u,e,none,rO r] A=.ok ys A)(hl:xs.length+ys.length<=100):
  zM 3 (zi qv zP (qi a)) [u,e,none,rO r] A=.ok (.nx [u,e,none,rO (A.length+1)]) (A++[.lst ys]++[.lst (xs++ys)]):=by
 refine(jd ((z7 (zy (i:=3) rfl) (j6 h)).trans (KI (jR H) jm (by unfold qj;omega)))).trans ?_
 rw[av,aW]
 rfl
def KN {a:Ea}{xs ys zs:List W}{L:Hx}{u e:Option W}(b:L[j]? =some (.lst xs))(H:∀m A,a [u,e,none,m] A=.ok ys A)(hl:xs.length+ys.length<=100)(h:xs++ys=zs):
  zM 3 (zi qv zP (qi a)) [u,e,none,rO (A.length+j)] (A++L)=.ok (.nx [u,e,none,some (.ref (A.length+(L.length+1)))]) (A++(L++[.lst ys,.lst zs])):=by
 have c:(A++L)[A.length+j]? =some (.lst xs):=by rw[ar (by omega),show A.length+j-A.length=j by omega];exact b
 rw[Bb c (H _ _) hl,h,av,aN,aN,Nat.add_assoc]
 rfl
noncomputable def qo (i a n:Nat):List W:=(List.range' a n).map λk=>W.bl (decide (k=i))
def G9 {us:List W}{k:Nat}(hn:qO us=true)(h:f us []=.ok (.ref k) A1)(H:A1[k]? =some (.lst ws))(hw:qO ws=true):iso f us A=.ok (.ref A.length) (A++[.lst ws]):=by
 unfold iso;rw[aj hn,h];dsimp only;rw[H];dsimp only;rw[aj hw]
end G
namespace Mi
open PySem L2
section
variable {j:jJ}{c:En}{f:Nat}{x:Option W}{w y:W}{acc:List W}{m:Ev}
def Kv (h:n<1000000):jH (n:Int)=true:=by
 unfold jH;rw[ah,ai,ai];omega
def BM (h:j.at_ A i=some none):jn j (zE 0) (zW (.bl true)) (zR me) f i ρ acc A=.ok (ρ,acc) A:=by
 cases f<;>(unfold jn;rw[h])
def Bv (h:j.at_ A i=some (some w))(he:me (some w::c) A=.ok y A1)(hl:acc.length<qj):jn j (zE 0) (zW (.bl true)) (zR me) (f+1) i (x::c) acc A=jn j (zE 0) (zW (.bl true)) (zR me) f (i+1) (some w::c) (acc++[y]) A1:=by
 rw[jn,h];dsimp only[zE,List.set,zW];rw[zT];dsimp only;have e:zR me (some w::c) acc A=.ok (some w::c,acc++[y]) A1:=by
  unfold zR;rw[he,zT,aj hl]
 rw[e,zT]
def LR (h:m ρ A=.ok (.ref n) A1)(H:A1[n]? =some (.lst ws)):qu m ρ A=.ok ⟨λA i=>(zX (.ref n) A).map λws=>ws[i]?,ws.length⟩ A1:=by
 unfold qu WM;rw[h,zT];have e:zX (.ref n) A1=some ws:=by unfold zX;dsimp only;rw[H]
 rw[e]
def Wl (h:A[n]? =some (.lst ws)):((zX (.ref n) A).map λws=>ws[i]?)=some ws[i]?:=by
 have e:zX (.ref n) A=some ws:=by unfold zX;dsimp only;rw[h]
 rw[e];rfl
def O6 {g:W->Option PyData}{d:PyData}{ds:List PyData}(h:g w=some d)(r:yH g ws=some ds):yH g (w::ws)=some (d::ds):=by
 unfold yH;rw[h,r]
def Xc {k:Nat}{v:Int}(h:A[n]? =some (.lst [.int v])):qL A (k+1) (.ref n)=some (.list [.int v]):=by
 unfold qL;have e:zX (.ref n) A=some [.int v]:=by unfold zX;dsimp only;rw[h]
 rw[e];cases k<;>rfl
def NV {k:Nat}{ds:List PyData}(h:A[n]? =some (.lst ws))(hd:yH (qL A k) ws=some ds):qL A (k+1) (.ref n)=some (.list ds):=by
 unfold qL;have e:zX (.ref n) A=some ws:=by unfold zX;dsimp only;rw[h]
 rw[e];dsimp only;rw[hd]
 rfl
def IC {a b:W}{d:PyData}(c:qL A 8 a=some d)(H:qL A 8 b=some d)(h:PyData.eqv d d=true):jo a b A=.ok (.bl false) A:=by
 show wU true a b A=_;unfold wU;rw[c,H];dsimp only;rw[aj rfl,h]
 rfl
end
end Mi
namespace G
open PySem L2 Mi
section
def m6 (a:A[0]? =some (.ro (ns.map W.int)))(k:Nat):∃x:Int,Gh [.ref 0,.int k] A=.ok (.int x) A:=by
 have H:zX (.ref 0) A=some (ns.map W.int):=by unfold zX;dsimp only;rw[a]
 have hl:mQ qc (zN zr) [rO 0,some (.int k)] A=.ok (.int ns.length) A:=by
  rw[yB (kx (w:=.ref 0) (A1:=A) (zy rfl) H)];unfold qc;rw[ak]
 have e:zi WQ zt (mQ qc (zN zr)) [rO 0,some (.int k)] A=.ok (.bl (decide ((k:Int)<ns.length))) A:=(z7 (zy (w:=.int k) rfl) hl).trans rfl
 by_cases h:k<ns.length
 ·refine⟨ns[k],jC ?_⟩
  unfold VR;rw[aI (by omega)]at e
  refine jb ((gn e).trans (jb (jM ?_)));refine(z7 (x:=.ref 0) (y:=.int k) (A1:=A) (A2:=A) (zy rfl) (zy rfl)).trans ?_;unfold zB;rw[H];dsimp only;rw[Xk (v:=.int ns[k]) (by rw[ax,ae h];rfl)]
 ·refine⟨0,jC ?_⟩
  unfold VR;rw[aK (by omega)]at e
  exact(zL ((yP e).trans rfl)).trans rfl
def m7 (H:A[0]? =some (.ro (ns.map W.int)))(k:Nat):∃o,Ya [.ref 0,.int k] A=.ok (.ref A.length) (A++[o])/\jG A.length (A++[o]):=by
 obtain⟨x,e⟩:=m6 H k;have a:zM 2 (zH Gh (zh zr (zh zt zm))) [rO 0,some (.int k),none] A=.ok (.nx [rO 0,some (.int k),some (.int x)]) A:=by
  refine(jd (w:=.int x) (A1:=A) ?_).trans rfl;rw[jt (ws:=[.ref 0,.int k]) (A1:=A) rfl];exact e
 have E:zi Rl zK (zi X0 SN (zW (.int 18))) [rO 0,some (.int k),some (.int x)] A=.ok (.bl (decide ((1000000000000000000:Int)<=x))) A:=(z7 (x:=.int x) (y:=.int 1000000000000000000) (A1:=A) (A2:=A) (zy rfl) rfl).trans rfl
 by_cases h:(1000000000000000000:Int)<=x
 ·refine⟨.lst [.int (x-1000000000000000000),.bl true],jC ?_,x-1000000000000000000,true,jm,by omega,λz=>nomatch z⟩
  unfold Ue;rw[aI h]at E;refine(zL a).trans (jb ((gn E).trans (jb (jM (j6 ?_)))))
  rfl
 ·refine⟨.lst [.int (x%2147483647),.bl false],jC ?_,x%2147483647,false,jm,emod_nonneg _ (by decide),λ_=>bG _ (by decide)⟩
  unfold Ue;rw[aK h]at E;refine(zL a).trans ((zL ((yP E).trans rfl)).trans (jb (jM (j6 ?_))));refine zS (A1:=A) (A2:=A) ((z7 (x:=.int x) (y:=.int 2147483647) (A1:=A) (A2:=A) (zy rfl) rfl).trans (Jx (by decide))) rfl
variable {w:W}
def m8 (h:qQ t)(A:Hx):Zy [zo t] A=.ok (.bl true) A:=mU h A
def m9 (h:wH A w):Zy [w] A=.ok (.bl false) A:=h A λ_ _ z=>z
def Ng (h:qQ t)(A:Hx):Y8 [zo t] A=.ok .non A:=by
 refine U2 (ρ:=[some (zo t)]) ?_;unfold VG;refine(zL (ρ1:=[some (zo t)]) (A1:=A) ((yP (A1:=A) ?_).trans rfl)).trans rfl;exact K5 (gD (k:=true) ((jt (ws:=[zo t]) (A1:=A) rfl).trans (m8 h A)))
def Aa (h:wH A w):Y8 [w] A=.exc "NoTable" A:=by
 refine Jq ?_;unfold VG;exact ZA ((gn (A1:=A) (K5 (gD (k:=false) ((jt (ws:=[w]) (A1:=A) rfl).trans (m9 h))))).trans (ZA rfl))
variable {a b:Nat}
def XN {a b:Ev}{p q:Bool}(h1:a ρ A=.ok (.bl p) A)(h2:b ρ A=.ok (.bl q) A):j0 a b ρ A=.ok (.bl (p&&q)) A:=by
 cases p with
 |true=>exact(Ys h1).trans h2|false=>exact K8 h1
def nc (h:qQ t)(a:ρ[i]? =some (some (zo t))):mQ yS (zU 1 [] (qu (qh i)) (zE 0) qa (zR (mQ yS (zN zr)))) ρ A=.ok (.int (qK t-1)) A:=by
 have n8:=h.n8;have e:=GH (cap:=[]) (A:=A) (ρ:=ρ) (o:=t) (f:=zu) (m:=qh i) (me:=mQ yS (zN zr)) (G:=λr=>.int (kZ r)) (zy a) (by unfold qj;omega) (λr H=>(yB (kx (w:=zu r) (ws:=r.map W.int) (A1:=A) (zy rfl) rfl)).trans (UX (h.row_ne H)))
 have em:(t.map λr=>W.int (kZ r))=(t.map kZ).map W.int:=by rw[a3];rfl
 rw[em]at e;refine((yB e).trans (UX h.map_ne)).trans ?_
 have:qK t-1=kZ (t.map kZ):=by unfold qK;omega
 rw[this]
def KZ (h:qQ t)(A:Hx):QM [zo t] A=.ok (.int (qK t)) A:=by
 refine Yw (A1:=[]) (gN t) rfl (jC ?_);unfold Oc;refine jb (jM ((z7 (nc h rfl) qy).trans ?_));show R.ok (W.int (qK t-1+1)) []=_
 congr 2
 omega
def len_tab (h:ρ[i]? =some (some (zo t))):mQ qc (zN (qh i)) ρ A=.ok (.int (t.length:Int)) A:=by
 have:=mO (ws:=t.map zu) (A:=A) h
 rw[ak]at this;exact this
variable {N:Nat}
def nh {g:Nat->Int}{k:Int}(h:b<N):((List.range N).map λj=>W.int (g j)).set b (.int k)=(List.range N).map λj=>W.int (if j=b then k else g j):=by
 apply ext_getElem?
 intro i
 by_cases hi:i<N
 ·by_cases q:b=i
  ·subst q
   rw[aC (by simpa using hi),ax,aY hi]
   simp
  ·rw[az q,ax,ax,aY hi]
   simp[Ne.symm q]
 ·rw[aA (by simp;omega),aA (by simp;omega)]
end
structure LC (K:Nat)(μ:Nat->Nat->Int)(C:Hx):Prop where
 top:C[2 * K]? =some (.lst ((List.range K).map λi=>W.ref (2 * i+1)))
 row:∀i,i<K->C[2 * i+1]? =some (.lst ((List.range K).map λj=>W.int (μ i j)))
section
variable {K a b:Nat}{μ:Nat->Nat->Int}{C:Hx}
def LC.put (h:LC K μ C)(f:i<K)(e:j<K)(k:Int):∃b,k9 (.ref (2 * i+1)) (.int (j:Int)) (.int k) C=.ok () b/\LC K (JI μ i j k) b:=by
 have r:=h.row i f;have H:=yD r;refine⟨_,mM r (by simp;omega),?_,λc d=>?_⟩
 ·rw[az (by omega)];exact h.top
 ·by_cases q:c=i
  ·subst q
   rw[aC H,nh e]
   congr 3
   funext a
   unfold JI
   by_cases z:a=j
   ·rw[aj z,aj ⟨rfl,z⟩]
   ·rw[ao z,ao (by rintro⟨_,w⟩;exact z w)]
  ·rw[az (by omega),h.row c d]
   congr 3
   funext a
   unfold JI;rw[ao (by rintro⟨w,_⟩;exact q w)]
def LC.aug (h:LC K μ C){mo mi:Ev}(ho:mo ρ C=.ok (.ref (2 * i+1)) C)(b:mi ρ C=.ok (.int (j:Int)) C)(a:i<K)(H:j<K):∃c,Wq mo mi qp ρ C=.ok (.nx ρ) c/\LC K (JI μ i j (μ i j+1)) c:=by
 obtain⟨c,e,l⟩:=h.put a H (μ i j+1);refine⟨c,?_,l⟩;unfold Wq;rw[ho,zT,b,zT];dsimp only;rw[aj (by omega),h.row i a]
 dsimp only;rw[aG,ax,aY H];show R.bind (k9 (.ref (2 * i+1)) (.int (j:Int)) (.int (μ i j+1)) C) _=_;rw[e,zT]
def LC.ix (h:LC K μ C){m mi:Ev}(hm:m ρ C=.ok (.ref (2 * K)) C)(H:mi ρ C=.ok (.int (i:Int)) C)(a:i<K):zi zB m mi ρ C=.ok (.ref (2 * i+1)) C:=
 (z7 hm H).trans (ZD h.top (by rw[ax,aY a];rfl))
def rep1 (w:W):∀n:Nat,(List.replicate n [w]).flatten=(List.range n).map λ_=>w:=λn=>by
 rw[List.map_const',aM]
 induction n with
 |zero=>rfl|succ n i=>rw[ba,a9,i];rfl
def ni (f:K<=8){x0 x1 x2 x4:Option W}{l:List (Option W)}:∃C,qY (zU 1 [3] (qN zP) (zE 0) qa (zR (zi qx (qi (zh zV zm)) zt))) (x0::x1::x2::iO K::x4::l) []=.ok (.ref (2 * K)) C/\LC K (λ_ _=>0) C:=by
 have hm:=wm (m:=qh 3) (ρ:=x0::x1::x2::iO K::x4::l) (A:=[]) (k:=(K:Int)) rfl (QT (by omega))
 rw[aG]at hm;obtain⟨d,acc,B,e,_,hB,h⟩:=Gz (nl:=1) (cap:=[3]) (tw:=zE 0) (ifs:=zW (.bl true)) (em:=zR (zi qx (qi (zh zV zm)) zt)) (N:=K)
  (I:=λi ρ acc B=>(∃y,ρ=[y,iO K])/\(B.length=2 * i/\∀c,c<i->B[2 * c+1]? =some (.lst ((List.range K).map λj=>W.int 0)))/\acc=(List.range i).map λc=>W.ref (2 * c+1)) hm rfl
  (λi ρ acc B a ⟨⟨y,H⟩,⟨hl,hB⟩,h⟩=>by
   subst H h;refine⟨_,_,kf a,rfl,.inl ⟨B,_,_,B++[.lst [.int 0]]++[.lst ((List.range K).map λj=>W.int 0)],rfl,GR (y:=.ref (2 * i+1)) ?_ (by rw[ak,aM];unfold qj;omega),⟨_,rfl⟩,⟨by simp;omega,λc b=>?_⟩,by rw[a6,aO];rfl⟩⟩
   ·refine(z7 (j6 (zS qy qE)) (zy (i:=1) (w:=.int (K:Int)) rfl)).trans ?_
    unfold qx;dsimp only;rw[jm];dsimp only;rw[aj (by rw[QT (by omega),aG];simp;unfold qj;omega),aG,av,hl,rep1]
    rfl
   ·by_cases q:c=i
    ·subst q
     rw[ar (by simp;omega)]
     simp[hl]
    ·rw[ag (by simp;omega),ag (by omega)]
     exact hB c (by omega))
  (λρ acc B _=>yY (by omega)) ⟨⟨none,rfl⟩,⟨rfl,λc b=>absurd b (Nat.not_lt_zero _)⟩,rfl⟩
 subst h;refine⟨B++[.lst ((List.range K).map λc=>W.ref (2 * c+1))],?_,?_,λi a=>?_⟩
 ·rw[ko e,hB.1]
 ·rw[<- hB.1];exact jm
 ·exact jR (hB.2 i a)
def nj {m:Ev}{k:Nat}(h:m ρ A=.ok (.ref k) A)(a:A[k]? =some (.lst ws))(hl:ws.length<=qj){g:W->W}(he:∀w∈ws,me (some w::cap.map λi=>(ρ[i]?).join) A=.ok (g w) A):
  zU 1 cap (qu m) (zE 0) qa (zR me) ρ A=.ok (ws.map g) A:=by
 have e:=gC (cap:=cap) (me:=me) (ρ:=ρ) (A:=A) (N:=ws.length) (item:=λi=>ws.getD i .non) (g:=λi=>g (ws.getD i .non)) (Z8 h a) rfl hl
  (λi H=>(kB a).trans (by rw[ae H,aa,ae H];rfl))
  ((kB a).trans (by rw[aA (aq _)]))
  (λi H=>by
   have:ws.getD i .non=ws[i]:=by rw[aa,ae H];rfl
   rw[this];exact he _ (aJ H))
 rw[e]
 congr 1
 apply bD
 ·simp
 ·intro i h1 h2
  have H:i<ws.length:=by simpa using h2
  simp[aa,ae H]
theorem LC.tup (h:LC K μ C)(d:K<=8){i:Nat}(b:ρ[i]? =some (rO (2 * K))):mQ jA (zU 1 [] (qu (qh i)) (zE 0) qa (zR (mQ jA (zN zr)))) ρ C=.ok (zo (kY K μ)) C:=by
 have e:=nj (cap:=[]) (ws:=(List.range K).map λi=>W.ref (2 * i+1)) (me:=mQ jA (zN zr)) (zy b) h.top (by simp;unfold qj;omega) (g:=λw=>match w with|.ref n=>(match C[n]? with|some (.lst ws)=>.tup ws|_=>.non)|_=>.non) (λw hw=>by
  obtain⟨c,a,rfl⟩:=cu.mp hw;have H:=h.row c (cj.mp a);dsimp only;rw[H];exact Wd (kx (w:=.ref (2 * c+1)) (A1:=C) (zy rfl) (by unfold zX;dsimp only;rw[H])))
 rw[Wd e]
 congr 1
 unfold zo kY;rw[a3,a3]
 congr 1
 refine aX λc a=>?_;have H:=h.row c (cj.mp a);show(match C[2 * c+1]? with|some (.lst ws)=>W.tup ws|_=>.non)=zu ((List.range K).map (μ c))
 rw[H];unfold zu;rw[a3]
 rfl
def shr (t:bJ)(a b:Nat):Nat->Nat->Nat->Int
 |0=>λ_ _=>0|n+1=>JI (shr t a b n) (at2 t a n).toNat (at2 t b n).toNat (shr t a b n (at2 t a n).toNat (at2 t b n).toNat+1)
def jY (t:bJ)(K a b:Nat):bJ:=kY K (shr t a b t.length)
def TN (h:qQ t)(d:qK t=(K:Int))(c:a<t.length)(H:b<t.length):((at2 t a b).toNat:Int)=at2 t a b/\(at2 t a b).toNat<K:=by
 have h1:=Wv h c H;have h2:=Wb h c H;omega
def UB (h:qQ t)(g:qK t=(K:Int))(d:a<t.length)(c:b<t.length)(A:Hx):g9 [zo t,.int (a:Int),.int (b:Int)] A=.ok (zo (jY t K a b)) A:=by
 have n8:=h.n8;have kb:=ZM h;have f:((t.getD a []).map W.int).length=t.length:=by rw[ak,h.sq _ (yZ d)]
 have u:((t.getD b []).map W.int).length=t.length:=by rw[ak,h.sq _ (yZ c)]
 obtain⟨C,v,r⟩:=ni (K:=K) (by omega) (x0:=some (zo t)) (x1:=iO a) (x2:=iO b) (x4:=none) (l:=[none,none])
 obtain⟨i,B,E,L,y,y6,H⟩:=wk (j:=Qq (.tup ((t.getD a []).map W.int)) (.tup ((t.getD b []).map W.int)) ((t.getD a []).map W.int).length) (st:=turn (ji 5 6) (zj (Wq (zi zB qd jq) jZ qp) zx)) (N:=t.length)
  (I:=λn ρ B=>LC K (shr t a b n) B/\∃y y6,ρ=[some (zo t),iO a,iO b,iO K,rO (2 * K),y,y6])
  (λn ρ B hn ⟨l,y,y6,H⟩=>by
   subst H;obtain⟨p,q⟩:=TN h g d hn;obtain⟨o,Q⟩:=TN h g c hn;obtain⟨w,e,s⟩:=l.aug (ρ:=[some (zo t),iO a,iO b,iO K,rO (2 * K),some (.int (at2 t a n)),some (.int (at2 t b n))]) (mo:=zi zB qd jq) (mi:=qh 6) (l.ix (zy rfl) (zy (by rw[p];rfl)) q) (zy (by rw[o];rfl)) q Q
   refine⟨.tup [.int (at2 t a n),.int (at2 t b n)],_,w,?_,(yz rfl).trans ((zL e).trans jk),s,_,_,rfl⟩;show some (zip2 ((t.getD a []).map W.int)[n]? ((t.getD b []).map W.int)[n]?)=_;rw[int_at (by rw[h.sq _ (yZ d)];exact hn),int_at (by rw[h.sq _ (yZ c)];exact hn)]
   rfl)
  (λρ B _=>by
   show some (zip2 ((t.getD a []).map W.int)[t.length]? ((t.getD b []).map W.int)[t.length]?)=_;rw[aA (by omega),aA (by omega)]
   rfl) t.length 0 [some (zo t),iO a,iO b,iO K,rO (2 * K),none,none] C (by omega) ⟨r,_,_,rfl⟩
 subst H;refine Yw (A1:=B) (gN t) (ZE _) (jC ?_);unfold Pn;refine(zL (jd (cv rfl ((KZ h []).trans (by rw[g]))))).trans ?_
 refine(zL (jd v)).trans ?_;refine(zL (ρ1:=[some (zo t),iO a,iO b,iO K,rO (2 * K),y,y6]) (A1:=B) ((ym (m5 (bv rfl rfl (Jw d)) (bv rfl rfl (Jw c)))).trans ?_)).trans (jb (jM (L.tup (by omega) rfl)))
 have:(Qq (.tup ((t.getD a []).map W.int)) (.tup ((t.getD b []).map W.int)) ((t.getD a []).map W.int).length).len=t.length:=f
 rw[this];exact E
variable {w:W}
def Mq {m:Ev}{a:En}{w:W}(h:m ρ A=.ok w A1)(h':tw w ρ=some a):Qy m tw ρ A=.ok (.nx a) A1:=by
 unfold Qy;rw[h,zT,h']
end
def wI (t:bJ)(a b:Nat):List (Int×Int):=(List.range t.length).map λc=>(at2 t a c,at2 t b c)
def K4 (t:bJ):Prop:=∀a b c e,a<t.length->b<t.length->c<t.length->e<t.length->at2 t a b=at2 t c e->(wI t a b).Perm (wI t c e)
def SH (t:bJ)(k:Int):Nat:=((List.range (t.length * t.length)).find? λm=>decide (at2 t (m/t.length) (m%t.length)=k)).getD 0
def Tf (t:bJ):Bool:=(List.range t.length).all λa=>(List.range t.length).all λb=>let m:=SH t (at2 t a b);(wI t a b).isPerm (wI t (m/t.length) (m%t.length))
def Bc (h:Tf t=true):K4 t:=λa b c e j i g he f=>by
 unfold Tf at h;rw[aT]at h;have h1:=h a (cj.mpr j);rw[aT]at h1;have h2:=List.isPerm_iff.mp (h1 b (cj.mpr i));have d:=h c (cj.mpr g);rw[aT]at d;have H:=List.isPerm_iff.mp (d e (cj.mpr he));rw[<- f]at H;exact h2.trans H.symm
section
variable {p o:bP}
def NQ (ho:o.Perm (List.range t.length)){a b:Nat}(c:a<t.length)(H:b<t.length):at2 (wO t p o) a b=(yk p).getD (at2 t (o.getD a 0) (o.getD b 0)).toNat 0:=by
 have h:o.length=t.length:=by rw[ho.length_eq,aM]
 unfold at2 wO;rw[aa (l:=List.map _ o),ax,ae (by omega)]
 show(List.map _ o).getD b 0=_;rw[aa,ax,ae (by omega)]
 show(yk p).getD (at2 t _ _).toNat 0=_;unfold at2;rw[aa (l:=o) (i:=a),ae (by omega),aa (l:=o) (i:=b),ae (by omega)]
 rfl
def An {u v:bJ}{f:Int->Int}(hl:u.length=v.length)(ho:o.Perm (List.range v.length))(j:∀a b,a<v.length->b<v.length->at2 u a b=f (at2 v (o.getD a 0) (o.getD b 0)))
  (hf:∀a b c e,a<v.length->b<v.length->c<v.length->e<v.length->f (at2 v a b)=f (at2 v c e)->at2 v a b=at2 v c e)(s:K4 v):K4 u:=by
 have l:o.length=v.length:=by rw[ho.length_eq,aM]
 have h:∀i,i<v.length->o.getD i 0<v.length:=λi p=>by
  rw[aa,ae (by omega)]
  exact cj.mp (ho.mem_iff.mp (aJ _))
 have r:∀a b,a<v.length->b<v.length->(wI u a b).Perm ((wI v (o.getD a 0) (o.getD b 0)).map λq=>(f q.1,f q.2)):=λa b g d=>by
  unfold wI;rw[hl,a3];have n:(List.range v.length).map (λc=>(at2 u a c,at2 u b c))=(List.range v.length).map λc=>(f (at2 v (o.getD a 0) (o.getD c 0)),f (at2 v (o.getD b 0) (o.getD c 0))):=aX λc H=>by
   rw[j a c g (cj.mp H),j b c d (cj.mp H)]
  rw[n];have E:=QK o 0 λc=>(f (at2 v (o.getD a 0) c),f (at2 v (o.getD b 0) c));rw[l]at E;rw[<- E];exact ho.map _
 intro a b c e g d H he q;rw[hl]at g d H he;rw[j a b g d,j c e H he]at q
 have:=s _ _ _ _ (h a g) (h b d) (h c H) (h e he) (hf _ _ _ _ (h a g) (h b d) (h c H) (h e he) q)
 exact(r a b g d).trans ((this.map _).trans (r c e H he).symm)
variable {a b c e K:Nat}
theorem Ye (h:qQ t)(d:a<t.length)(H:b<t.length):∀n,n<=t.length->∀i j:Nat,shr t a b n i j=((((List.range n).map λc=>(at2 t a c,at2 t b c)).count ((i:Int),(j:Int)):Nat):Int)
 |0,_,i,j=>rfl|n+1,hn,i,j=>by
  have I:=Ye h d H n (by omega)
  have k1:=(Wv h d (show n<t.length by omega)).1
  have k2:=(Wv h H (show n<t.length by omega)).1
  rw[a6,aO,List.count_append,List.map_singleton,List.count_singleton];show JI (shr t a b n) (at2 t a n).toNat (at2 t b n).toNat (shr t a b n (at2 t a n).toNat (at2 t b n).toNat+1) i j=_;unfold JI
  by_cases q:i=(at2 t a n).toNat/\j=(at2 t b n).toNat
  ·rw[aj q,<- q.1,<- q.2,I,aj (by rw[aH];ext<;>simp<;>omega)]
   omega
  ·rw[ao q,I,ao (by
    rw[aH];intro z;injection z with e Z
    exact q ⟨by omega,by omega⟩)]
   omega
def NL (h:qQ t)(s:K4 t)(f:a<t.length)(d:b<t.length)(H:c<t.length)(he:e<t.length)(q:at2 t a b=at2 t c e):jY t K a b=jY t K c e:=by
 unfold jY kY;refine aX λi _=>aX λj _=>?_;rw[Ye h f d _ (aq _),Ye h H he _ (aq _)]
 have:=(s a b c e f d H he q).count_eq ((i:Int),(j:Int))
 unfold wI at this;rw[this]
end
def KC {j:jJ}{st:W->Ex}{N:Nat}{I:Nat->En->Hx->Prop}{Q:W->Hx->Prop}
  (H:∀i ρ A,i<N->I i ρ A->∃w,j.at_ A i=some (some w)/\((∃ρ1 A1,st w ρ A=.ok (.nx ρ1) A1/\I (i+1) ρ1 A1)∨∃r A1,st w ρ A=.ok (.rt r) A1/\Q r A1))(d:∀ρ A,I N ρ A->j.at_ A N=some none):
  ∀(f i:Nat)(ρ:En)(A:Hx),i+f=N->I i ρ A->(∃a A',yh j st f i ρ A=.ok (.nx a) A'/\I N a A')∨∃r A',yh j st f i ρ A=.ok (.rt r) A'/\Q r A':=by
 intro f
 induction f with
 |zero=>
  intro i ρ A h b
  have:i=N:=by omega
  subst this;exact .inl ⟨ρ,A,Ut (d _ _ b),b⟩
 |succ f g=>
  intro i ρ A h b;obtain⟨w,h1,h2|h2⟩:=H i ρ A (by omega) b
  ·obtain⟨ρ1,A1,h2,c⟩:=h2
   rcases g (i+1) ρ1 A1 (by omega) c with ⟨a,A',e,q⟩|⟨r,A',e,q⟩
   ·exact .inl ⟨a,A',(GL h1 h2).trans e,q⟩
   ·exact .inr ⟨r,A',(GL h1 h2).trans e,q⟩
  ·obtain⟨r,A1,h2,c⟩:=h2
   refine .inr ⟨r,A1,?_,c⟩;unfold yh;rw[h1];dsimp only;rw[h2]
   rfl
noncomputable def YK (r:bK):PyData:=.tuple (r.map .int)
def Sv (t:bJ):PyData:=.tuple (t.map YK)
theorem GQ {f:W->Option PyData}{g:α->W}{h:α->PyData}(e:∀a,f (g a)=some (h a)):∀l:List α,yH f (l.map g)=some (l.map h)
 |[]=>rfl|a::l=>by
  rw[aS,yH,e a,GQ e l]
  rfl
def nk (A:Hx)(n:Nat)(r:bK):qL A (n+1) (zu r)=some (YK r):=by
 show(yH (qL A n) (r.map W.int)).map PyData.tuple=_;rw[GQ (h:=PyData.int) (λi=>by cases n<;>rfl)]
 rfl
def Mj (A:Hx)(n:Nat)(t:bJ):qL A (n+2) (zo t)=some (Sv t):=by
 show(yH (qL A (n+1)) (t.map zu)).map PyData.tuple=_;rw[GQ (h:=YK) (nk A n)]
 rfl
section
variable {k:Nat}{w:W}{kvs:List (Key×W)}
theorem NU {k:Key}{w:W}:∀{kvs:List (Key×W)},yR k kvs=some w->(k,w)∈kvs
 |[],h=>by cases h|(j,u)::r,h=>by
  have h:(if j=k then some u else yR k r)=some w:=h
  by_cases q:j=k
  ·rw[aj q]at h;cases h;subst q;exact aB ..
  ·rw[ao q]at h;exact au _ (NU h)
def MW {us:List W}{k:Nat}(hn:qO us=true)(h:f us []=.ok (.ref k) A1)(H:A1[k]? =some (.dct kvs))(hw:qO (kvs.map (·.2))=true):iso f us A=.ok (.ref A.length) (A++[.dct kvs]):=by
 unfold iso;rw[aj hn,h];dsimp only;rw[H];dsimp only;rw[aj hw]
end
theorem OM:∀s t:bJ,PyData.eqvAll (s.map YK) (t.map YK)=decide (s=t)
 |[],[]=>by simp[PyData.eqvAll]|[],_::_=>by simp[PyData.eqvAll]|_::_,[]=>by simp[PyData.eqvAll]|a::l,b::m=>by
  simp only[aS,PyData.eqvAll,OM l m,YK,PyData.eqv,OO];rw[Bool.eq_iff_iff];simp
def nq (s t:bJ)(A:Hx):jo (zo s) (zo t) A=.ok (.bl (!decide (s=t))) A:=by
 show wU true _ _ A=_;unfold wU;rw[Mj A 6 s,Mj A 6 t];dsimp only;rw[aj rfl,Sv,Sv,PyData.eqv,OM]
noncomputable def Hd (a b c e:Nat):W:=.tup [.int (a:Int),.int (b:Int),.int (c:Int),.int (e:Int)]
noncomputable def pre (n a b:Nat):List (Nat×Nat):=((List.range a).flatMap λx=>(List.range n).map λy=>(x,y))++(List.range b).map λy=>(a,y)
def yV (n:Nat):List (Nat×Nat):=pre n n 0
section
variable {a b c e:Nat}
def Sa:pre n a (b+1)=pre n a b++[(a,b)]:=by
 unfold pre;rw[a6,aO,<- aN]
 rfl
def XO:pre n a n=pre n (a+1) 0:=by
 unfold pre;rw[a6,aZ];simp
def nt {x y:Nat}:(x,y)∈pre n a b↔(x<a/\y<n)∨(x=a/\y<b):=by
 unfold pre;rw[List.mem_append,List.mem_flatMap]
 constructor
 ·rintro(⟨z,h1,h2⟩|h)
  ·obtain⟨u,c,H⟩:=cu.mp h2
   cases H;exact .inl ⟨cj.mp h1,cj.mp c⟩
  ·obtain⟨u,c,H⟩:=cu.mp h
   cases H;exact .inr ⟨rfl,cj.mp c⟩
 ·rintro(⟨h1,h2⟩|⟨rfl,h⟩)
  ·exact .inl ⟨x,cj.mpr h1,cu.mpr ⟨y,cj.mpr h2,rfl⟩⟩
  ·exact .inr (cu.mpr ⟨y,cj.mpr h,rfl⟩)
def Jv {x y:Nat}:(x,y)∈yV n↔x<n/\y<n:=by
 unfold yV;rw[nt];omega
def nu (h:a<=n):∃r,yV n=pre n a 0++r:=by
 obtain⟨d,rfl⟩:∃d,n=a+d:=⟨n-a,by omega⟩
 have:∀d m,∃r,pre m (a+d) 0=pre m a 0++r:=by
  intro d
  induction d with
  |zero=>intro m;exact⟨[],by simp⟩|succ d i=>
   intro m;obtain⟨r,H⟩:=i m;refine⟨r++(List.range m).map λy=>(a+d,y),?_⟩;rw[<- Nat.add_assoc,<- XO,<- aN,<- H];unfold pre;simp
 exact this d _
def nv (h:a<n)(H:b<=n):∃r,pre n (a+1) 0=pre n a b++r:=by
 rw[<- XO];obtain⟨d,rfl⟩:∃d,n=b+d:=⟨n-b,by omega⟩
 refine⟨(List.range d).map λy=>(a,b+y),?_⟩;unfold pre;rw[List.range_add,aO,aN,a3];simp
def pre_split (h:c<n)(he:e<n):∃r,yV n=pre n c e++(c,e)::r:=by
 obtain⟨f,h1⟩:=nu (n:=n) (a:=c+1) h;obtain⟨d,h2⟩:=nv (n:=n) (a:=c) (b:=e+1) h he;exact⟨d++f,by rw[h1,h2,Sa];simp⟩
def ny:(pre n a b).length=a * n+b:=by
 unfold pre;rw[av,ak,aM,List.length_flatMap]
 congr 1
 rw[aX (g:=λ_=>n) (λx _=>by rw[ak,aM])]
 rw[List.map_const',List.sum_replicate_nat,aM]
variable {w:W}{acc L:List (Nat×Nat)}{p q:Nat×Nat}
abbrev jX (t:bJ)(p:Nat×Nat):Int:=at2 t p.1 p.2
def Qt (t:bJ)(acc:List (Nat×Nat))(p:Nat×Nat):List (Nat×Nat):=if acc.any (λq=>decide (jX t q=jX t p)) then acc else acc++[p]
def yq (t:bJ)(L:List (Nat×Nat)):List (Nat×Nat):=L.foldl (Qt t) []
def K6:yq t (L++[p])=Qt t (yq t L) p:=by
 unfold yq;rw[List.foldl_append]
 rfl
def snoc_ind {P:List α->Prop}(h0:P [])(h1:∀l a,P l->P (l++[a])):∀l,P l:=λl=>by
 have:∀l:List α,P l.reverse:=λl=>by
  induction l with
  |nil=>exact h0|cons a l i=>rw[reverse_cons];exact h1 _ _ i
 have:=this l.reverse
 rwa[List.reverse_reverse]at this
def nz:(yq t L).length<=L.length:=by
 refine snoc_ind (P:=λL=>(yq t L).length<=L.length) (aq _) (λl p i=>?_) L;rw[K6,av,aW];unfold Qt
 split
 ·omega
 ·rw[av,aW];omega
def UK:∀p∈yq t L,p∈L:=by
 refine snoc_ind (P:=λL=>∀p∈yq t L,p∈L) (λ_ h=>h) (λl p i=>?_) L;intro q H;rw[K6]at H;unfold Qt at H
 split at H
 ·exact a8 _ (i q H)
 ·rcases cx.mp H with h|h
  ·exact a8 _ (i q h)
  ·exact aR _ h
def nA:∀p∈L,∃q∈yq t L,jX t q=jX t p:=by
 refine snoc_ind (P:=λL=>∀p∈L,∃q∈yq t L,jX t q=jX t p) (λ_ h=>by cases h) (λl p i=>?_) L
 intro q H;rw[K6];unfold Qt;rcases cx.mp H with h|h
 ·obtain⟨r,h1,h2⟩:=i q h
  split
  ·exact⟨r,h1,h2⟩
  ·exact⟨r,a8 _ h1,h2⟩
 ·rw[cw.mp h]
  split
  ·rename_i a
   obtain⟨r,h1,h2⟩:=List.any_eq_true.mp a;exact⟨r,h1,of_decide_eq_true h2⟩
  ·exact⟨p,aR _ (cw.mpr rfl),rfl⟩
def nB {γ:Type}{f:Nat×Nat->List γ}:(∀p∈L,∀q∈L,jX t p=jX t q->f p=[]->f q=[])->((yq t L).flatMap f).head? =(L.flatMap f).head?:=by
 refine snoc_ind (P:=λL=>(∀p∈L,∀q∈L,jX t p=jX t q->f p=[]->f q=[])->((yq t L).flatMap f).head? =(L.flatMap f).head?) (λ_=>rfl) (λl p i hf=>?_) L;have i:=i λx a y H=>hf x (a8 _ a) y (a8 _ H);rw[K6,aZ,head?_append,<- i];unfold Qt
 split
 ·rename_i b
  obtain⟨r,h1,h2⟩:=List.any_eq_true.mp b;cases h:((yq t l).flatMap f).head? with
  |some x=>rfl|none=>
   rw[List.head?_eq_none_iff,List.flatMap_eq_nil_iff]at h
   have:=hf r (a8 _ (UK r h1)) p (aR _ (cw.mpr rfl)) (of_decide_eq_true h2) (h r h1)
   simp[this]
 ·rw[aZ,head?_append]
def yf (t:bJ)(p:Nat×Nat):Key×W:=(.inl (jX t p),.tup [.int (p.1:Int),.int (p.2:Int)])
theorem U5 {v:Int}:∀acc:List (Nat×Nat),(yR (.inl v) (acc.map (yf t))).isSome=acc.any λq=>decide (jX t q=v)
 |[]=>rfl|q::l=>by
  show(if (Sum.inl (jX t q):Key)=.inl v then some _ else yR (.inl v) (l.map (yf t))).isSome=(decide (jX t q=v) || l.any λq=>decide (jX t q=v))
  by_cases h:jX t q=v
  ·rw[aj (by rw[h]),aI h];rfl
  ·rw[ao (λe=>h (by injection e)),aK h,U5 l,Bool.false_or]
def nC {x3:Option W}(hl:acc.length<1000):
  ∃w,Yu Qb zt jq (qb (zh zK (zh qd zm))) [some (zo t),rO 0,iO a,x3,iO b,some (.int (at2 t a b))] [.dct (acc.map (yf t))]=.ok w [.dct ((Qt t acc (a,b)).map (yf t))]:=by
 have E:Yu Qb zt jq (qb (zh zK (zh qd zm))) [some (zo t),rO 0,iO a,x3,iO b,some (.int (at2 t a b))] [.dct (acc.map (yf t))]=Qb (.ref 0) (.int (at2 t a b)) (.tup [.int (a:Int),.int (b:Int)]) [.dct (acc.map (yf t))]:=rfl;rw[E];unfold Qb;show ∃w,(if (acc.map (yf t)).length<qj then(match yR (.inl (at2 t a b)) (acc.map (yf t)) with|some w=>R.ok w [.dct (acc.map (yf t))]|none=>.ok (.tup [.int (a:Int),.int (b:Int)]) [O.dct (acc.map (yf t)++[((Sum.inl (at2 t a b):Key),W.tup [.int (a:Int),.int (b:Int)])])]) else .bad)=.ok w [.dct ((Qt t acc (a,b)).map (yf t))]
 rw[aj (by rw[ak];unfold qj;omega)]
 have h:=U5 (t:=t) (v:=at2 t a b) acc;unfold Qt;cases e:yR (.inl (at2 t a b)) (acc.map (yf t)) with
 |some w=>
  rw[e]at h;rw[aj (show(acc.any λq=>decide (jX t q=jX t (a,b)))=true from h.symm)]
  exact⟨w,rfl⟩
 |none=>
  rw[e]at h;rw[ao (show ¬(acc.any λq=>decide (jX t q=jX t (a,b)))=true from λz=>by have z:=h.trans z;cases z)]
  exact⟨_,by rw[aO];rfl⟩
def Ml (p:qQ t):VY [zo t] []=.ok (.ref 0) [.dct ((yq t (yV t.length)).map (yf t))]:=by
 have n8:=p.n8;have H:(t.map zu).length=t.length:=ak ..;have n:∀a b,a<t.length->b<t.length->(yq t (pre t.length a b)).length<1000:=λa b d q=>by
  have h1:=nz (t:=t) (L:=pre t.length a b);rw[ny]at h1
  have:a * t.length<=8 * 8:=mul_le_mul (by omega) n8
  omega
 obtain⟨f,B,e,hB,l,i,y4,y,h⟩:=wk (j:=kH (zo t) t.length) (st:=turn (ji 2 3) (zj (qF (kD zP) (ji 4 5) (zj (jx (Yu Qb zt jq (qb (zh zK (zh qd zm))))) zx)) zx)) (N:=t.length)
  (I:=λa ρ B=>B=[.dct ((yq t (pre t.length a 0)).map (yf t))]/\∃l i y4 y,ρ=[some (zo t),rO 0,l,i,y4,y])
  (λa ρ B d ⟨hB,l,i,y4,y,h⟩=>by
   subst hB h;have o:=p.sq _ (yZ d);have c:((t.getD a []).map W.int).length=t.length:=by rw[ak,o]
   obtain⟨f,B,e,hB,g,Y,h⟩:=wk (j:=kH (.tup ((t.getD a []).map W.int)) ((t.getD a []).map W.int).length) (st:=turn (ji 4 5) (zj (jx (Yu Qb zt jq (qb (zh zK (zh qd zm))))) zx)) (N:=t.length)
    (I:=λb ρ B=>B=[.dct ((yq t (pre t.length a b)).map (yf t))]/\∃y4 y,ρ=[some (zo t),rO 0,iO a,some (zu (t.getD a [])),y4,y])
    (λb ρ B q ⟨hB,y4,y,h⟩=>by
     subst hB h;obtain⟨w,e⟩:=nC (a:=a) (b:=b) (x3:=some (zu (t.getD a []))) (n a b d q);rw[<- K6,<- Sa]at e;exact⟨_,_,_,YC (int_at (by omega)),(yz rfl).trans ((zL (ZH e)).trans jk),rfl,_,_,rfl⟩)
    (λρ B _=>by have:=Yr (A:=B) (ws:=(t.getD a []).map W.int);rw[c]at this ⊢;exact this) t.length 0 [some (zo t),rO 0,iO a,some (zu (t.getD a [])),y4,y] _ (by omega) ⟨rfl,_,_,rfl⟩
   rw[XO]at hB;subst hB h;refine⟨.tup [.int (a:Int),zu (t.getD a [])],[some (zo t),rO 0,iO a,some (zu (t.getD a [])),g,Y],_,?_,(yz (ρ1:=[some (zo t),rO 0,iO a,some (zu (t.getD a [])),y4,y]) rfl).trans ((zL ((ym (Yf (zy rfl))).trans ?_)).trans jk),rfl,_,_,_,_,rfl⟩
   ·have:=YC (A:=[O.dct ((yq t (pre t.length a 0)).map (yf t))]) (Wg d)
    rw[H]at this;exact this
   ·have:(kH (.tup ((t.getD a []).map W.int)) ((t.getD a []).map W.int).length).len=t.length:=c
    rw[this];exact e)
  (λρ B _=>by have:=Yr (A:=B) (ws:=t.map zu);rw[H]at this;exact this) t.length 0 [some (zo t),rO 0,none,none,none,none] [.dct []] (by omega)
  ⟨rfl,_,_,_,_,rfl⟩
 subst hB h;refine jC ?_;unfold P7;refine(zL (jd (w:=.ref 0) (A1:=[.dct []]) rfl)).trans ?_;have hm:kD zr [some (zo t),rO 0,none,none,none,none] [.dct []]=.ok (kH (zo t) t.length) [.dct []]:=by
  have:=Yf (m:=qh 0) (ρ:=[some (zo t),rO 0,none,none,none,none]) (A:=[.dct []]) (A1:=[.dct []]) (ws:=t.map zu) (zy rfl)
  rw[H]at this;exact this
 exact(zL ((ym hm).trans e)).trans (jb (jM (zy rfl)))
def Sg:qO ((acc.map (yf t)).map (·.2))=true:=by
 induction acc with
 |nil=>rfl|cons p l i=>exact i
end
noncomputable abbrev B4:=(Nat×Nat)×(Nat×Nat)
section
variable {a b c e K:Nat}{p q r:Nat×Nat}
abbrev YZ (t:bJ)(K:Nat)(p:Nat×Nat):bJ:=jY t K p.1 p.2
def ZX (t:bJ)(K:Nat)(p q:Nat×Nat):Bool:=decide (jX t q=jX t p)&&!decide (YZ t K q=YZ t K p)
def gR (t:bJ)(K:Nat)(p:Nat×Nat):List B4:=((yV t.length).filter (ZX t K p)).map λq=>(p,q)
def Zt (t:bJ)(K:Nat):List B4:=(yV t.length).flatMap (gR t K)
def bW (x:B4):W:=Hd x.1.1 x.1.2 x.2.1 x.2.2
def nE:Option B4->W
 |none=>.non|some x=>bW x
def Xg:gR t K p=[]↔∀q∈yV t.length,ZX t K p q=false:=by
 unfold gR;rw[List.map_eq_nil_iff,List.filter_eq_nil_iff];exact⟨λh q H=>Bool.eq_false_iff.mpr (h q H),λh q H=>Bool.eq_false_iff.mp (h q H)⟩
def Ww:ZX t K p q=false↔(jX t q=jX t p->YZ t K q=YZ t K p):=by
 unfold ZX;rw[Bool.and_eq_false_iff,decide_eq_false_iff_not,Bool.not_eq_false',ai]
 constructor
 ·rintro(h|h) z
  ·exact absurd z h
  ·exact h
 ·intro h
  by_cases z:jX t q=jX t p
  ·exact .inr (h z)
  ·exact .inl z
def nF (b:p∈yV t.length)(a:q∈yV t.length)(h:jX t p=jX t q)(h0:gR t K p=[]):gR t K q=[]:=by
 rw[Xg]at h0 ⊢;intro r H;rw[Ww];intro z;rw[Ww.mp (h0 r H) (z.trans h.symm),Ww.mp (h0 q a) h.symm]
def nG:((yq t (yV t.length)).flatMap (gR t K)).head? =(Zt t K).head?:=nB λ_ p _ H h h0=>nF p H h h0
def nI (a:c<t.length)(he:e<t.length)(h0:∀q∈pre t.length c e,ZX t K p q=false)(h1:ZX t K p (c,e)=true):(gR t K p).head? =some (p,(c,e)):=by
 obtain⟨r,h⟩:=pre_split a he;unfold gR;rw[h,filter_append,List.filter_eq_nil_iff.mpr λq H=>Bool.eq_false_iff.mp (h0 q H),bf,List.filter_cons_of_pos h1]
 rfl
abbrev Rj:Ex:=zj (jf (j0 (zi jB QD zt) (zi jo (zH g9 (zh zr (zh jq (zh kO zm)))) qd)) (zj (qA (qb (zh zK (zh zP (zh jq (zh kO zm)))))) zx) zx) zx
abbrev WS:Ex:=zj (qF (kD jZ) (ji 7 8) Rj) zx
def NX (D:qQ t)(hK:qK t=(K:Int))(A:Hx):Jh [zo t] A=.ok (nE (Zt t K).head?) A:=by
 have n8:=D.n8;have kb:=ZM D;have w:(t.map zu).length=t.length:=ak ..;have ef:=Ml D;generalize L:yq t (yV t.length)=ps at ef;have hin:∀p∈ps,p.1<t.length/\p.2<t.length:=λp M=>Jv.mp (UK (t:=t) p (by rw[L];exact M))
 have C:=nG (t:=t) (K:=K);rw[L]at C;have go:=KC (j:=YM (ps.map (yf t))) (st:=turn (Yy 1 2 3) (zj (zM 4 (zH g9 (zh zr (zh zK (zh zP zm))))) (zj (qF (kD zr) (ji 5 6) WS) zx))) (N:=ps.length)
  (Q:=λr B=>B=[]/\∃x,(ps.flatMap (gR t K)).head? =some x/\r=bW x)
  (I:=λi ρ B=>B=[]/\(ps.take i).flatMap (gR t K)=[]/\∃U T S y4 f y6 Y y,ρ=[some (zo t),U,T,S,y4,f,y6,Y,y])
  (λi ρ B X ⟨hB,o,U,T,S,y4,f,y6,Y,y,h⟩=>by
   subst hB h;obtain⟨ha,hb⟩:=hin ps[i] (aJ X);generalize M:ps[i]=p at ha hb;obtain⟨a,b⟩:=p;dsimp only at ha hb;have hsp:ps=ps.take i++(a,b)::ps.drop (i+1):=by
    rw[<- M,<- bp X,take_append_drop]
   refine⟨.tup [.int (at2 t a b),.tup [.int (a:Int),.int (b:Int)]],?_,?_⟩
   ·show some ((ps.map (yf t))[i]?.map λp=>W.tup [kW p.1,p.2])=_
    rw[ax,ae X,M]
    rfl
   have hm:kD zr [some (zo t),some (.int (at2 t a b)),iO a,iO b,some (zo (jY t K a b)),f,y6,Y,y] []=.ok (kH (zo t) t.length) []:=by
    have:=Yf (m:=qh 0) (ρ:=[some (zo t),some (.int (at2 t a b)),iO a,iO b,some (zo (jY t K a b)),f,y6,Y,y]) (A:=[]) (A1:=[]) (ws:=t.map zu) (zy rfl)
    rw[w]at this;exact this
   have e1:zM 4 (zH g9 (zh zr (zh zK (zh zP zm)))) [some (zo t),some (.int (at2 t a b)),iO a,iO b,y4,f,y6,Y,y] []=.ok (.nx [some (zo t),some (.int (at2 t a b)),iO a,iO b,some (zo (jY t K a b)),f,y6,Y,y]) []:=(jd ((jt (zS (zy rfl) (zS (zy rfl) (zS (zy rfl) qE)))).trans (UB D hK ha hb []))).trans rfl;have go:=KC (j:=kH (zo t) t.length) (st:=turn (ji 5 6) WS) (N:=t.length)
    (Q:=λr B=>B=[]/\∃x,(gR t K (a,b)).head? =some x/\r=bW x)
    (I:=λc ρ B=>B=[]/\(∀q∈pre t.length c 0,ZX t K (a,b) q=false)/\∃f y6 Y y,ρ=[some (zo t),some (.int (at2 t a b)),iO a,iO b,some (zo (jY t K a b)),f,y6,Y,y])
    (λc ρ B Z ⟨hB,hq0,f,y6,Y,y,h⟩=>by
     subst hB h;have hrl:=D.sq _ (yZ Z);have P:((t.getD c []).map W.int).length=t.length:=by rw[ak,hrl]
     have hl3:(kH (.tup ((t.getD c []).map W.int)) ((t.getD c []).map W.int).length).len=t.length:=P;refine⟨.tup [.int (c:Int),zu (t.getD c [])],?_,?_⟩
     ·have:=YC (A:=[]) (Wg Z)
      rw[w]at this;exact this
     have go:=KC (j:=kH (.tup ((t.getD c []).map W.int)) ((t.getD c []).map W.int).length) (st:=turn (ji 7 8) Rj) (N:=t.length)
      (Q:=λr B=>B=[]/\∃x,(gR t K (a,b)).head? =some x/\r=bW x)
      (I:=λe ρ B=>B=[]/\(∀q∈pre t.length c e,ZX t K (a,b) q=false)/\∃Y y,ρ=[some (zo t),some (.int (at2 t a b)),iO a,iO b,some (zo (jY t K a b)),iO c,some (zu (t.getD c [])),Y,y])
      (λe ρ B he ⟨hB,l,Y,y,h⟩=>by
       subst hB h;refine⟨_,YC (int_at (by omega)),?_⟩
       generalize H:([some (zo t),some (.int (at2 t a b)),iO a,iO b,some (zo (jY t K a b)),iO c,some (zu (t.getD c [])),iO e,some (.int (at2 t c e))]:En)=d;have ee:zi jB QD zt d []=.ok (.bl (decide (at2 t c e=at2 t a b))) []:=by subst H;exact bv rfl rfl (gU _ _ [])
       have en:zi jo (zH g9 (zh zr (zh jq (zh kO zm)))) qd d []=.ok (.bl (!decide (jY t K c e=jY t K a b))) []:=by subst H;exact(z7 ((jt (zS (zy rfl) (zS (zy rfl) (zS (zy rfl) qE)))).trans (UB D hK Z he [])) (zy rfl)).trans (nq _ _ _)
       have E:∀g:Ex,turn (ji 7 8) g (.tup [.int (e:Int),.int ((t.getD c []).getD e 0)]) [some (zo t),some (.int (at2 t a b)),iO a,iO b,some (zo (jY t K a b)),iO c,some (zu (t.getD c [])),Y,y] []=g d []:=λg=>by subst H;exact yz rfl
       have n:j0 (zi jB QD zt) (zi jo (zH g9 (zh zr (zh jq (zh kO zm)))) qd) d []=.ok (.bl (ZX t K (a,b) (c,e))) []:=XN ee en;cases s:ZX t K (a,b) (c,e) with
       |false=>
        rw[s]at n;refine .inl ⟨d,[],(E _).trans ((zL ((yP n).trans jk)).trans jk),rfl,λq' J=>?_,_,_,H.symm⟩;rw[Sa]at J;rcases cx.mp J with z|z
        ·exact l q' z
        ·rw[cw.mp z];exact s
       |true=>
        rw[s]at n;refine .inr ⟨Hd a b c e,[],(E _).trans (jb ((gn n).trans (jb (jM ?_)))),rfl,((a,b),(c,e)),nI Z he l s,rfl⟩;subst H;exact wL (zS (zy rfl) (zS (zy rfl) (zS (zy rfl) (zS (zy rfl) qE)))))
      (λρ B _=>by have:=Yr (A:=B) (ws:=(t.getD c []).map W.int);rw[P]at this ⊢;exact this) t.length 0 [some (zo t),some (.int (at2 t a b)),iO a,iO b,some (zo (jY t K a b)),iO c,some (zu (t.getD c [])),Y,y] [] (by omega) ⟨rfl,hq0,_,_,rfl⟩
     have v:=(ym (tw:=ji 7 8) (m1:=Rj) (Yf (m:=qh 6) (ρ:=[some (zo t),some (.int (at2 t a b)),iO a,iO b,some (zo (jY t K a b)),iO c,some (zu (t.getD c [])),Y,y]) (A:=[]) (A1:=[]) (ws:=(t.getD c []).map W.int) (zy rfl)));rw[hl3]at v;have E:turn (ji 5 6) WS (.tup [.int (c:Int),zu (t.getD c [])]) [some (zo t),some (.int (at2 t a b)),iO a,iO b,some (zo (jY t K a b)),f,y6,Y,y] []=WS [some (zo t),some (.int (at2 t a b)),iO a,iO b,some (zo (jY t K a b)),iO c,some (zu (t.getD c [])),Y,y] []:=yz rfl;rcases go with ⟨d,B,e,hB,l,y7',y8',h⟩|⟨r,B,e,hQ⟩
     ·subst hB h
      rw[XO]at l;exact .inl ⟨_,[],E.trans ((zL (v.trans e)).trans jk),rfl,l,_,_,_,_,rfl⟩
     ·exact .inr ⟨r,B,E.trans (jb (v.trans e)),hQ⟩)
    (λρ B _=>by have:=Yr (A:=B) (ws:=t.map zu);rw[w]at this;exact this) t.length 0 [some (zo t),some (.int (at2 t a b)),iO a,iO b,some (zo (jY t K a b)),f,y6,Y,y] [] (by omega) ⟨rfl,(λq l=>(by rw[show pre t.length 0 0=[] from rfl]at l;cases l)),_,_,_,_,rfl⟩
   have E:∀g:Ex,turn (Yy 1 2 3) g (.tup [.int (at2 t a b),.tup [.int (a:Int),.int (b:Int)]]) [some (zo t),U,T,S,y4,f,y6,Y,y] []=g [some (zo t),some (.int (at2 t a b)),iO a,iO b,y4,f,y6,Y,y] []:=λg=>yz rfl;rcases go with ⟨d,B,e,hB,l,y5',y6',y7',y8',h⟩|⟨r,B,e,hB,x,v,hr⟩
   ·subst hB h
    refine .inl ⟨_,[],(E _).trans ((zL e1).trans ((zL ((ym hm).trans e)).trans jk)),rfl,?_,_,_,_,_,_,_,_,_,rfl⟩;rw[List.take_succ,ae X,M,aZ,o,bf];show [(a,b)].flatMap _=_;rw[List.flatMap_singleton];exact Xg.mpr l
   ·subst hB
    refine .inr ⟨r,[],(E _).trans ((zL e1).trans (jb ((ym hm).trans e))),rfl,x,?_,hr⟩;rw[hsp,aZ,o,bf,flatMap_cons,head?_append,v]
    rfl)
  (λρ B _=>by
   show some ((ps.map (yf t))[ps.length]?.map λp=>W.tup [kW p.1,p.2])=_;rw[aA (by rw[ak];exact aq _)]
   rfl) ps.length 0 [some (zo t),none,none,none,none,none,none,none,none] [] (by omega) ⟨rfl,rfl,_,_,_,_,_,_,_,_,rfl⟩
 have hit:Wa (zH J8 (zh zr zm)) [some (zo t),none,none,none,none,none,none,none,none] []=.ok (YM (ps.map (yf t))) []:=by
  unfold Wa;dsimp only;have ec:zH J8 (zh zr zm) [some (zo t),none,none,none,none,none,none,none,none] []=.ok (.ref 0) [.dct (ps.map (yf t))]:=cv rfl (MW (gN t) ef rfl Sg);rw[ec,zT];exact aj Sg
 have hlen:(YM (ps.map (yf t))).len=ps.length:=ak ..;have u:=ym (tw:=Yy 1 2 3) (m1:=zj (zM 4 (zH g9 (zh zr (zh zK (zh zP zm))))) (zj (qF (kD zr) (ji 5 6) WS) zx)) hit;rw[hlen]at u;rcases go with ⟨d,B,e,hB,o,U,T,S,y4,f,y6,Y,y,h⟩|⟨r,B,e,hB,x,v,rfl⟩
 ·subst hB h
  rw[take_length]at o;rw[<- C,o];refine Yw (A1:=[]) (gN t) rfl (jC ?_);unfold VO;exact(zL (u.trans e)).trans (jb (jM qy))
 ·subst hB
  rw[<- C,v];refine Yw (A1:=[]) (gN t) rfl (jC ?_);unfold VO;exact jb (u.trans e)
end
section
variable {a b e k K:Nat}{w x z:W}{S:Nat->List (bK)}
def nJ (h:qQ t)(n:qK t=(K:Int))(l:k<K):∃a b:Nat,a<t.length/\b<t.length/\at2 t a b=(k:Int)/\yR (.inl (k:Int)) ((yq t (yV t.length)).map (yf t))=some (.tup [.int (a:Int),.int (b:Int)]):=by
 obtain⟨a,b,g,f,e⟩:=TM h (v:=k) (by omega)
 obtain⟨q,H,j⟩:=nA (t:=t) (a,b) (Jv.mpr ⟨g,f⟩);have h1:=U5 (t:=t) (v:=(k:Int)) (yq t (yV t.length));rw[show(yq t (yV t.length)).any (λq=>decide (jX t q=(k:Int)))=true from List.any_eq_true.mpr ⟨q,H,aI (j.trans e)⟩]at h1
 obtain⟨w,hw⟩:=Option.isSome_iff_exists.mp h1;obtain⟨p,d,c⟩:=cu.mp (NU hw);obtain⟨Z,z⟩:=Jv.mp (UK p d);unfold yf at c;injection c with E i
 injection E with E
 exact⟨p.1,p.2,Z,z,E,by rw[hw,i]⟩
def Ak (c:qQ t)(d:qK t=(K:Int))(l:∀a b,a<t.length->b<t.length->jY t K a b=S (at2 t a b).toNat)(A:Hx):Gi [zo t] A=.ok (.ref A.length) (A++[.lst ((List.range K).map λk=>zo (S k))]):=by
 have n8:=c.n8;have kb:=ZM c;have j:=Ml c;have ch:∀k:Nat,∃q:Nat×Nat,k<K->q.1<t.length/\q.2<t.length/\at2 t q.1 q.2=(k:Int)/\yR (.inl (k:Int)) ((yq t (yV t.length)).map (yf t))=some (.tup [.int (q.1:Int),.int (q.2:Int)]):=λk=>by
  by_cases f:k<K
  ·obtain⟨a,b,h1,h2,e,o⟩:=nJ c d f
   exact⟨(a,b),λ_=>⟨h1,h2,e,o⟩⟩
  ·exact⟨(0,0),λz=>absurd z f⟩
 obtain⟨fp,H⟩:=Classical.axiomOfChoice ch;have nr:=Sg (t:=t) (acc:=yq t (yV t.length));generalize (yq t (yV t.length)).map (yf t)=kvs at j H nr;have s:zH J8 (zh zr zm) [some (zo t),none,none] []=.ok (.ref 0) [.dct kvs]:=cv rfl (MW (gN t) j rfl nr);have hm:=wm (m:=zH QM (zh zr zm)) (ρ:=[some (zo t),rO 0,none]) (A:=[.dct kvs]) (A1:=[.dct kvs]) (k:=(K:Int)) (cv rfl ((KZ c _).trans (by rw[d]))) (QT (by omega))
 rw[aG]at hm;have r:=gC (cap:=[1]) (me:=zi XB zt zr) (ρ:=[some (zo t),rO 0,none]) (A:=[.dct kvs]) (N:=K) (item:=λi=>.int (0+(i:Int))) (g:=λk=>.tup [.int ((fp k).1:Int),.int ((fp k).2:Int)]) hm rfl (by unfold qj;omega) (λi h=>kf h) (yY (by omega)) (λi h=>by
  refine(z7 (zy (i:=1) (w:=.ref 0) rfl) (zy (i:=0) (w:=.int (0+(i:Int))) rfl)).trans ?_;rw[Int.zero_add];show(match yR (.inl (i:Int)) kvs with|some w=>R.ok w [.dct kvs]|none=>.bad)=_
  rw[(H i h).2.2.2])
 have E:=ko r;have p:=Cc (A:=[.dct kvs]++[.lst ((List.range K).map λk=>.tup [.int ((fp k).1:Int),.int ((fp k).2:Int)])]) (cap:=[0]) (ρ:=[some (zo t),rO 0,rO 1]) (me:=zH g9 (zh zK (zh zr (zh zt zm)))) (mi:=qu zK) (N:=K) (u:=λk=>.int ((fp k).1:Int)) (v:=λk=>.int ((fp k).2:Int)) (g:=λk=>zo (S k)) (Z8 (n:=1) (zy rfl) rfl) (by show((List.range K).map _).length=K;rw[ak,aM]) (by omega)
  (λi h=>mH (n:=1) rfl (by rw[ax,aY h];rfl))
  (mI (n:=1) rfl (by rw[ak,aM];exact aq _))
  (λi h=>by
   obtain⟨h1,h2,e,_⟩:=H i h;refine(jt (ws:=[zo t,.int ((fp i).1:Int),.int ((fp i).2:Int)]) (zS (zy rfl) (zS (zy rfl) (zS (zy rfl) qE)))).trans ((UB c d h1 h2 _).trans ?_);rw[l _ _ h1 h2,e,aG])
 refine G9 (k:=2) (A1:=[.dct kvs]++[.lst ((List.range K).map λk=>.tup [.int ((fp k).1:Int),.int ((fp k).2:Int)])]++[.lst ((List.range K).map λk=>zo (S k))]) (gN t) (jC ?_) rfl (ZF (λ_=>ZE _) _);unfold PZ;exact(zL (jd s)).trans ((zL (jd E)).trans (jb (jM (ko p))))
def nK:Zt t K=[]↔∀p∈yV t.length,∀q∈yV t.length,jX t q=jX t p->YZ t K q=YZ t K p:=by
 unfold Zt;rw[List.flatMap_eq_nil_iff];exact⟨λh p a q H=>Ww.mp (Xg.mp (h p a) q H),λh p a=>Xg.mpr λq H=>Ww.mpr (h p a q H)⟩
def Au (a:qQ t)(s:K4 t):Zt t K=[]:=nK.mpr λp H q h e=>NL a s (Jv.mp h).1 (Jv.mp h).2 (Jv.mp H).1 (Jv.mp H).2 e
def nL (h:qQ t)(H:qK t=(K:Int))(s:Zt t K=[])(A:Hx):Jh [zo t] A=.ok .non A:=(NX h H A).trans (by rw[s];rfl)
def nM (h:qQ t)(H:qK t=(K:Int))(s:Zt t K=[])(A:Hx):Jg [zo t] A=.ok .non A:=by
 refine U2 (ρ:=[some (zo t)]) ?_;unfold Ga;exact(zL (ZH (cv rfl (Ng h A)))).trans ((zL ((yP (K5 ((z7 (cv rfl (nL h H s A)) qy).trans rfl))).trans jk)).trans jk)
def nN {w:W}(h:wH A w):Jg [w] A=.exc "NoTable" A:=by
 refine Jq ?_;unfold Ga;exact ZA (Ta (cv rfl (Aa h)))
def nO (h:qQ t)(e:Jh [zo t] A=.ok (.tup ws) A):Jg [zo t] A=.exc "NotSteady" A:=by
 refine Jq ?_;unfold Ga;exact(zL (ZH (cv rfl (Ng h A)))).trans (ZA ((gn (K5 ((z7 (cv rfl e) qy).trans rfl))).trans (ZA rfl)))
theorem L1 (v:Int):∀(r:bK)(n:Nat),Q6 (.int v) (r.map W.int) n=n+r.count v
 |[],_=>rfl|x::r,n=>by
  show Q6 (.int v) (r.map W.int) (if (x==v)=true then n+1 else n)=_;rw[L1 v r,count_cons]
  by_cases h:x=v
  ·subst h
   simp;omega
  ·simp[h]
noncomputable def QI (t:bJ)(K:Nat):bK:=(List.range K).map λ(k:Nat)=>(((t.getD 0 []).count (k:Int):Nat):Int)
def M8 (h:qQ t)(b:qK t=(K:Int))(A:Hx):Za [zo t] A=.ok (.ref A.length) (A++[.lst ((QI t K).map W.int)]):=by
 have kb:=ZM h;have n1:=h.n1;have hm:=wm (m:=zH QM (zh zr zm)) (ρ:=[some (zo t)]) (A:=[]) (A1:=[]) (k:=(K:Int)) (cv rfl ((KZ h _).trans (by rw[b]))) (QT (by omega))
 rw[aG]at hm;have e:=gC (cap:=[0]) (me:=K7 Yv (zi zB zt zV) zr) (ρ:=[some (zo t)]) (A:=[]) (N:=K) (item:=λi=>.int (0+(i:Int))) (g:=λk=>.int (((t.getD 0 []).count (k:Int):Nat):Int)) hm rfl (by unfold qj;omega) (λi H=>kf H) (yY (by omega)) (λi H=>by
  have E:zi zB zt zV (some (W.int (0+(i:Int)))::[0].map λi=>([some (zo t)][i]?).join) []=.ok (.tup ((t.getD 0 []).map W.int)) []:=(z7 (zy (w:=zo t) rfl) qy).trans (Jw (a:=0) n1);unfold K7;rw[E,zT];dsimp only;rw[show zr (some (W.int (0+(i:Int)))::[0].map λi=>([some (zo t)][i]?).join) []=.ok (.int (0+(i:Int))) [] from zy rfl,zT,Int.zero_add]
  unfold Yv;dsimp only;rw[aj,L1,zero_add];show(true&&((t.getD 0 []).map W.int).all yC)=true;rw[Bool.true_and,aT];intro w hw;obtain⟨v,_,rfl⟩:=cu.mp hw
  rfl)
 have c:((List.range K).map λ(k:Nat)=>W.int (((t.getD 0 []).count (k:Int):Nat):Int))=(QI t K).map W.int:=by unfold QI;rw[a3];rfl
 rw[c]at e;exact G9 (k:=0) (A1:=[.lst ((QI t K).map W.int)]) (gN t) (jC (by unfold P5;exact jb (jM (ko e)))) rfl (ZF (λ_=>rfl) _)
end
def NR {r:Nat}{l:bP}(h:A[r]? =some (.lst (iL l))):qL A 8 (.ref r)=some (.list (l.map λ(a:Nat)=>PyData.int (a:Int))):=by
 show(match zX (.ref r) A with|some ws=>(yH (qL A 7) ws).map PyData.list|none=>none)=_
 have:zX (.ref r) A=some (iL l):=by unfold zX;dsimp only;rw[h]
 rw[this];dsimp only;rw[GQ (h:=λ(a:Nat)=>PyData.int (a:Int)) (λa=>rfl)]
 rfl
def ne_nil {r s:Nat}{l:bP}(h:A[r]? =some (.lst (iL l)))(h2:A[s]? =some (.lst [])):jo (.ref r) (.ref s) A=.ok (.bl (decide (l≠[]))) A:=by
 show wU true _ _ A=_;unfold wU;rw[NR h,NR (l:=[]) h2];dsimp only;rw[aj rfl]
 congr 2
 rw[PyData.eqv];cases l with
 |nil=>simp[PyData.eqvAll]|cons a l=>rw[map_nil,SeqAt.eqvAll_other_length (by simp)];simp
noncomputable def ZS (o:bP):W:=.tup (o.map λ(a:Nat)=>W.int (a:Int))
def nP (o:bP):(ZS o).nr=true:=by
 show qO (o.map λ(a:Nat)=>W.int (a:Int))=true;exact ZF (λ_=>rfl) _
abbrev Sw:Ev:=zi jo (qh 2) (qi zm)
abbrev nQ:Ex:=zj (jx (jj jS (qh 3) (jj Zf (qh 2) (zH yO (zh (qh 0) (zh (mQ qc (zN (qh 2))) zm)))))) zx
def AG {x:Option W}:∀(k f:Nat)(l fd:bP)(A:Hx),l.length=k->k<f->l.length<=100->fd.length+l.length<=100->jG 0 A->A[1]? =some (.lst (iL l))->A[2]? =some (.lst (iL fd))->
  ∃A' d,QA Sw nQ f [rO 0,x,rO 1,rO 2] A=.ok (.nx [rO 0,x,rO 1,rO 2]) A'/\jG 0 A'/\A'[2]? =some (.lst (iL d))/\d.Perm (fd++l):=by
 intro k
 induction k with
 |zero=>
  intro f l fd A hl hf _ _ s h1 h2;obtain⟨f,rfl⟩:∃C,f=C+1:=⟨f-1,by omega⟩
  have:l=[]:=List.length_eq_zero_iff.mp hl
  subst this;refine⟨A++[.lst []],fd,?_,?_,jR h2,by simp⟩
  ·unfold QA
   have n:Sw [rO 0,x,rO 1,rO 2] A=.ok (.bl false) (A++[.lst []]):=(z7 (zy (i:=2) rfl) (j6 qE)).trans (ne_nil (l:=[]) (jR h1) jm);rw[n,zT]
  ·obtain⟨c,b,e,r⟩:=s
   exact⟨c,b,jR e,r⟩
 |succ k L=>
  intro f l fd A hl hf D M s h1 h2;obtain⟨f,rfl⟩:∃C,f=C+1:=⟨f-1,by omega⟩
  have n:Sw [rO 0,x,rO 1,rO 2] A=.ok (.bl true) (A++[.lst []]):=by
   refine(z7 (zy (i:=2) rfl) (j6 qE)).trans ((ne_nil (jR h1) jm).trans ?_);have v:l≠[]:=λe=>by rw[e]at hl;cases hl
   rw[aI v]
  have H:jG 0 (A++[.lst []]):=by obtain⟨c,b,e,r⟩:=s;exact⟨c,b,jR e,r⟩
  have g1:=jR (u:=.lst []) h1;have g2:=jR (u:=.lst []) h2;generalize A++[O.lst []]=B at n H g1 g2;obtain⟨r,o,N,K,X,p⟩:=Yp H (m:=(l.length:Int)) (by omega) (by omega)
  obtain⟨q,rfl⟩:=a5 K;have t:q<l.length:=by omega
  have E:mQ qc (zN (qh 2)) [rO 0,x,rO 1,rO 2] B=.ok (.int (l.length:Int)) B:=by
   rw[yB (kx (w:=.ref 1) (A1:=B) (ws:=iL l) (zy rfl) (by unfold zX;dsimp only;rw[g1]))]
   unfold qc;rw[ak]
  have T:zH yO (zh (qh 0) (zh (mQ qc (zN (qh 2))) zm)) [rO 0,x,rO 1,rO 2] B=.ok (.int (q:Int)) (B.set 0 o):=(jt (zS (zy (i:=0) rfl) (zS E qE))).trans N;have j:(B.set 0 o)[1]? =some (.lst (iL l)):=by rw[az (by omega)];exact g1
  have z:(B.set 0 o)[2]? =some (.lst (iL fd)):=by rw[az (by omega)];exact g2
  have hw:(iL l)[q]? =some (.int ((l[q]:Nat):Int)):=by rw[ax,ae t];rfl
  have J:=(Jr (g:=Zf) (a:=qh 2) (zy rfl) g1 T).trans (BX j hw (by omega))
  have he:(iL l).eraseIdx q=iL (l.eraseIdx q):=by
   exact Nh _ _ _
  rw[he]at J;have h:((B.set 0 o).set 1 (.lst (iL (l.eraseIdx q))))[2]? =some (.lst (iL fd)):=by rw[az (by omega)];exact z
  have I:=(Jr (g:=jS) (a:=qh 3) (zy rfl) g2 J).trans (KA h (by rw[ak];omega))
  have y:iL fd++[.int ((l[q]:Nat):Int)]=iL (fd++[l[q]]):=by unfold iL;rw[aO];rfl
  rw[y]at I;have hlen:(l.eraseIdx q).length=k:=by rw[List.length_eraseIdx_of_lt t];omega
  obtain⟨A',d,S,s4,U,P⟩:=L f (l.eraseIdx q) (fd++[l[q]]) (((B.set 0 o).set 1 (.lst (iL (l.eraseIdx q)))).set 2 (.lst (iL (fd++[l[q]])))) hlen (by omega) (by omega) (by rw[av,aW];omega)
   (by obtain⟨c,b,e,r⟩:=p;exact⟨c,b,by rw[az (by omega),az (by omega)];exact e,r⟩)
   (by rw[az (by omega),aC (yD j)]) (by rw[aC (yD h)])
  refine⟨A',d,?_,s4,U,P.trans ?_⟩
  ·unfold QA
   rw[n,zT];dsimp only;have Q:=(zL (m2:=zx) (ZH I)).trans jk;show R.bind (zj (jx (jj jS (qh 3) (jj Zf (qh 2) (zH yO (zh (qh 0) (zh (mQ qc (zN (qh 2))) zm)))))) zx [rO 0,x,rO 1,rO 2] B) _=_;rw[Q,zT];exact S
  ·rw[aN]
   exact List.Perm.append_left fd (OU (ae t)).symm
def MJ {m:Nat}(h:jG m A)(hn:n<=8):∃p o,Jk [.ref m,.int (n:Int)] A=.ok (ZS p) (A.set m o)/\jG m (A.set m o)/\p.Perm (List.range n):=by
 obtain⟨c,b,d,g,j⟩:=h;have hm:=yD d;obtain⟨A',fd,e,⟨C,B,E,H,a⟩,h2,f⟩:=AG (x:=iO n) n 1000 (List.range n) [] [.lst [.int c,.bl b],.lst (iL (List.range n)),.lst []] aM (by omega) (by rw[aM];omega) (by rw[aM];simp;omega) ⟨c,b,rfl,g,j⟩ rfl rfl
 refine⟨fd,.lst [.int C,.bl B],?_,⟨C,B,aC hm,H,a⟩,f⟩;unfold Jk;refine G8 (A1:=A') d rfl ?_ E (nP fd);unfold Ub;refine jC ?_;unfold OC;refine(zL (jd (Bn (zy (i:=1) rfl) (by omega)))).trans ?_
 refine(zL (jd (j6 qE))).trans ?_;refine(zL e).trans (jb (jM (Wd (kx (w:=.ref 2) (A1:=A') (ws:=iL fd) (zy rfl) (by unfold zX;dsimp only;rw[h2])))))
section
def Ud (h:qQ t)(A:Hx):QN [zo t] A=.ok (.int (qK t)) A:=KZ h A
def Ve (h:qQ t){ma M mt:Ev}{a b:Nat}(H:mt ρ A=.ok (zo t) A)(d:ma ρ A=.ok (.int a) A)(c:M ρ A=.ok (.int b) A)(l:a<t.length)(L:b<t.length):zi zB (zi zB mt ma) M ρ A=.ok (.int (at2 t a b)) A:=
 (z7 ((z7 H d).trans (Jw l)) c).trans (Qf (by rw[h.sq _ (yZ l)];exact L))
def nR (h:qQ t){p o:bP}(ho:∀a∈o,a<t.length)(hl:o.length<=8)(j:(p.length:Int)=qK t-1){r:Nat}(e:A[r]? =some (.lst ((yk p).map W.int))):Gp [zo t,ZS o,.ref r] A=.ok (zo (wO t p o)) A:=by
 unfold Gp Ui;refine jC ?_;unfold Oi;refine jb (jM ?_);have E:=GH (cap:=[0,1,2]) (ρ:=[some (zo t),some (ZS o),rO r]) (A:=A) (m:=qh 1) (o:=o) (f:=λ(a:Nat)=>W.int (a:Int)) (me:=mQ jA (zU 1 [0,1,3] (qu (qh 2)) (zE 0) (zW (.bl true)) (zR (zi zB (qh 3) (zi zB (zi zB (qh 2) (qh 1)) (qh 0))))))
  (G:=λa=>zu (o.map λb=>(yk p).getD (at2 t a b).toNat 0)) (zy rfl) (by unfold qj;omega) (λa d=>by
   have g:=GH (cap:=[0,1,3]) (ρ:=[iO a,some (zo t),some (ZS o),rO r]) (A:=A) (m:=qh 2) (o:=o) (f:=λ(a:Nat)=>W.int (a:Int)) (me:=zi zB (qh 3) (zi zB (zi zB (qh 2) (qh 1)) (qh 0)))
    (G:=λb=>.int ((yk p).getD (at2 t a b).toNat 0)) (zy rfl) (by unfold qj;omega) (λb c=>by
     have L:=ho a d;have l:=ho b c;have n:=(Wv h L l).1;have B:=Wb h L l;have hlen:(at2 t a b).toNat<(yk p).length:=by unfold yk;rw[bo,ak];omega
     refine(z7 (zy (i:=3) rfl) (Ve h (zy (i:=2) rfl) (zy (i:=1) rfl) (zy (i:=0) rfl) L l)).trans ?_;have H:at2 t a b=((at2 t a b).toNat:Int):=by omega
     rw[H];refine ZD e ?_;rw[ax,ae hlen,aG,aa,ae hlen]
     rfl)
   refine(Wd g).trans ?_;unfold zu;rw[a3]
   rfl)
 refine(Wd E).trans ?_;unfold wO zo;rw[a3]
 rfl
def N0 (h:qQ t){m:Nat}(T:jG m A):∃p o b,ZZ [.ref m,zo t] A=.ok (zo (wO t p o)) (A.set m b)/\jG m (A.set m b)/\p.Perm (List.range (qK t-1).toNat)/\o.Perm (List.range t.length):=by
 obtain⟨c,b,L,Y,Z⟩:=T;have hm:=yD L;have kb:=ZM h;have n8:=h.n8;generalize hB:([.lst [.int c,.bl b],.lst [.int 0]]:Hx)=B;have sB:jG 0 B:=by rw[<- hB];exact⟨c,b,rfl,Y,Z⟩
 obtain⟨p,g,M,s1,j⟩:=MJ sB (n:=(qK t-1).toNat) (by omega)
 have y:(B.set 0 g)[1]? =some (.lst [.int 0]):=by rw[<- hB];rfl
 have v:(B.set 0 g).length=2:=by rw[<- hB];rfl
 generalize B.set 0 g=d at*;have l:(((qK t-1).toNat:Nat):Int)=qK t-1:=by omega
 rw[l]at M;have ec:zU 1 [] (qu (zH Jk (zh (qh 0) (zh (zi yQ (qh 2) (zW (.int 1))) zm)))) (zE 0) (zW (.bl true)) (zR (zi qv (zW (.int 1)) (qh 0))) [rO 0,some (zo t),some (.int (qK t)),none] B=.ok (p.map λ(k:Nat)=>W.int (1+(k:Int))) d:=by
  have em:zH Jk (zh (qh 0) (zh (zi yQ (qh 2) (zW (.int 1))) zm)) [rO 0,some (zo t),some (.int (qK t)),none] B=.ok (ZS p) d:=(jt (ws:=[.ref 0,.int (qK t-1)]) (A1:=B) (zS (zy (i:=0) rfl) (zS ((z7 (zy (i:=2) rfl) (qy (w:=.int 1))).trans rfl) qE))).trans M;have D:=GH (cap:=[]) (ρ:=[rO 0,some (zo t),some (.int (qK t)),none]) (A:=d) (m:=zW (ZS p)) (o:=p) (f:=λ(a:Nat)=>W.int (a:Int)) (me:=zi qv (zW (.int 1)) (qh 0)) (G:=λ(k:Nat)=>W.int (1+(k:Int))) rfl (by have:=j.length_eq;rw[aM]at this;unfold qj;omega) (λa J=>(z7 (qy (w:=.int 1)) (zy (i:=0) rfl)).trans rfl)
  unfold zU at D ⊢;rw[QW (m:=zW (ZS p)) (A1:=d) rfl,zT]at D;rw[QW em,zT];exact D
 have H:p.length=(qK t-1).toNat:=by rw[j.length_eq,aM]
 have E:zi qv (qi (zh (zW (.int 0)) zm)) (qY (zU 1 [] (qu (zH Jk (zh (qh 0) (zh (zi yQ (qh 2) (zW (.int 1))) zm)))) (zE 0) (zW (.bl true)) (zR (zi qv (zW (.int 1)) (qh 0))))) [rO 0,some (zo t),some (.int (qK t)),none] [.lst [.int c,.bl b]]=
   .ok (.ref (d++[O.lst (p.map λ(k:Nat)=>W.int (1+(k:Int)))]).length) (d++[O.lst (p.map λ(k:Nat)=>W.int (1+(k:Int)))]++[O.lst ([.int 0]++p.map λ(k:Nat)=>W.int (1+(k:Int)))]):=by
  refine(z7 (x:=.ref 1) (A1:=B) ((j6 (ws:=[.int 0]) (A1:=[.lst [.int c,.bl b]]) rfl).trans (by rw[<- hB];rfl)) (ko ec)).trans ?_
  refine KI (jR y) ?_ (by rw[ak,H];show 1+_<=qj;unfold qj;omega)
  rw[jm]
 have z:([.int 0]++p.map λ(k:Nat)=>W.int (1+(k:Int)))=(yk p).map W.int:=by unfold yk;rw[aS,a3];rfl
 rw[z]at E;have S:jG 0 (d++[O.lst (p.map λ(k:Nat)=>W.int (1+(k:Int)))]++[O.lst ((yk p).map W.int)]):=by obtain⟨c,b,e,r⟩:=s1;exact⟨c,b,jR (jR e),r⟩
 have K:(d++[O.lst (p.map λ(k:Nat)=>W.int (1+(k:Int)))]++[O.lst ((yk p).map W.int)])[(d++[O.lst (p.map λ(k:Nat)=>W.int (1+(k:Int)))]).length]? =some (.lst ((yk p).map W.int)):=jm;have U:(d++[O.lst (p.map λ(k:Nat)=>W.int (1+(k:Int)))]).length=3:=by rw[av,v];rfl
 rw[U]at K E;generalize d++[O.lst (p.map λ(k:Nat)=>W.int (1+(k:Int)))]++[O.lst ((yk p).map W.int)]=C at*;obtain⟨o,I,e3,s2,ho⟩:=MJ S (n:=t.length) n8;have X:o.length=t.length:=by rw[ho.length_eq,aM]
 have u:(C.set 0 I)[3]? =some (.lst ((yk p).map W.int)):=by rw[az (by omega)];exact K
 generalize C.set 0 I=Q at*;have e4:=nR h (p:=p) (o:=o) (λa J=>cj.mp (ho.mem_iff.mp J)) (by omega) (by omega) u
 obtain⟨N,P,e',q,s⟩:=s2;refine⟨p,o,.lst [.int N,.bl P],?_,⟨N,P,aC hm,q,s⟩,j,ho⟩;unfold ZZ;refine G8 (A1:=Q) L (by show((zo t).nr&&true)=true;rw[ZE];rfl) ?_ e' (ZE _)
 unfold Vw;refine jC ?_;unfold RJ;refine(zL (jd ((jt (ws:=[zo t]) (A1:=[.lst [.int c,.bl b]]) rfl).trans (Ud h _)))).trans ?_;refine(zL (jd E)).trans (jb (jM ?_));refine(jt (ws:=[zo t,ZS o,.ref 3]) (A1:=Q) (zS (zy (i:=1) rfl) (zS ((jt (ws:=[.ref 0,.int (t.length:Int)]) (A1:=C) (zS (zy (i:=0) rfl) (zS (mD rfl) qE))).trans e3) (zS (zy (i:=3) rfl) qE)))).trans e4
end
theorem OV:∀l:bK,gi (l.map W.int)=some (l.map λi=>i != 0)
 |[]=>rfl|x::l=>by
  show(match YL (.int x),gi (l.map W.int) with|some k,some ks=>some (k::ks)|_,_=>none)=_
  rw[OV l]
  rfl
def MZ (l:bK):wB (l.map W.int) A=.ok (.int l.sum) A:=by
 unfold wB;rw[Gv]
 have:∀(l:bK)(k:Int),kF l k=k+l.sum:=λl=>by
  induction l with
  |nil=>intro k;show k=k+0;omega|cons x l i=>intro k;show kF l (k+x)=_;rw[i,List.sum_cons];omega
 dsimp only;rw[this,Int.zero_add]
section
variable {K m:Nat}{w:bK}{S:List (bJ)}
structure Wf (K:Nat)(S:List (bJ)):Prop where
 l:S.length=K
 r:∀t∈S,t.length=K
 c:∀t∈S,∀q∈t,q.length=K
 b:∀t∈S,∀i j,0<=at2 t i j/\at2 t i j<100
abbrev pS (S:List (bJ))(k i j:Nat):Int:=at2 (S.getD k []) i j
def Zh (S:List (bJ))(w:bK)(i j:Nat):Bool:=((S.drop w.length).any λt=>at2 t i j != 0) || decide (w.getD i 0 * w.getD j 0=((List.range w.length).map λk=>pS S k i j * w.getD k 0).sum)
def Qw (S:List (bJ))(w:bK):Bool:=(List.range w.length).all λi=>(List.range w.length).all λj=>Zh S w i j
def CS {c:En}{j:jJ}{N d:Nat}{u v g:Nat->W}(t:∀i,i<N->j.at_ A i=some (some (.tup [u i,v i])))(H:j.at_ A N=some none)(he:∀i,i<N->me (some (u i)::some (v i)::c) A=.ok (g i) A):
  ∀(f i:Nat)(x y:Option W)(acc:List W),i+f=N->acc.length+f<=qj->∃ρ,jn j (ji 0 1) (zW (.bl true)) (zR me) (f+d) i (x::y::c) acc A=.ok (ρ,acc++(List.range' i f).map g) A:=by
 intro f
 induction f with
 |zero=>
  intro i x y acc h hl
  have:i=N:=by omega
  subst this;refine⟨x::y::c,?_⟩;rw[zero_add];cases d<;>(unfold jn;rw[H];simp)
 |succ f I=>
  intro i x y acc h hl;obtain⟨ρ,e⟩:=I (i+1) (some (u i)) (some (v i)) (acc++[g i]) (by omega) (by rw[av,aW];omega)
  refine⟨ρ,?_⟩;rw[show f+1+d=(f+d)+1 by omega,jn,t i (by omega)]
  dsimp only;rw[show ji 0 1 (.tup [u i,v i]) (x::y::c)=some (some (u i)::some (v i)::c) from rfl]
  dsimp only[zW];rw[zT];dsimp only;have E:zR me (some (u i)::some (v i)::c) acc A=.ok (some (u i)::some (v i)::c,acc++[g i]) A:=by
   unfold zR;rw[he i (by omega),zT,aj (by omega)]
  rw[E,zT];rw[e,aN,range'_succ,aS]
  rfl
def D5 {j:jJ}{N:Nat}{u v g:Nat->W}(hm:mi ρ A=.ok j A)(b:N<=j.len)(f:N<=1000)(H:∀i,i<N->j.at_ A i=some (some (.tup [u i,v i])))(h:j.at_ A N=some none)
  (he:∀i,i<N->me (some (u i)::some (v i)::cap.map λi=>(ρ[i]?).join) A=.ok (g i) A):zU 2 cap mi (ji 0 1) qa (zR me) ρ A=.ok ((List.range N).map g) A:=by
 obtain⟨a,e⟩:=CS (A:=A) (c:=cap.map λi=>(ρ[i]?).join) (d:=j.len-N) H h he N 0 none none [] (by omega) (by unfold qj;simp;omega)
 unfold zU;rw[hm,zT,show j.len=N+(j.len-N) by omega]
 show R.bind (R.nox (jn j _ _ _ (N+(j.len-N)) 0 (none::none::cap.map λi=>(ρ[i]?).join) [] A)) _=_;rw[e,<- range_eq_range',bf]
 rfl
def nS {nl:Nat}{m:Ev}{ifs:Ev}{w:W}(h:m ρ A=.ok w A1):zU nl cap (qu m) tw ifs em ρ A=zU nl cap (qu (zW w)) tw ifs em ρ A1:=by
 unfold zU qu;rw[h]
 rfl
def Bl {m:Ev}{o:List α}{f:α->W}{G:α->W}(h:m ρ A=.ok (.ref n) A)(b:A[n]? =some (.lst (o.map f)))(hl:o.length<=qj)(he:∀a∈o,me (some (f a)::cap.map λi=>(ρ[i]?).join) A=.ok (G a) A):
  zU 1 cap (qu m) (zE 0) qa (zR me) ρ A=.ok (o.map G) A:=by
 have e:=gC (cap:=cap) (me:=me) (ρ:=ρ) (A:=A) (N:=o.length) (item:=λi=>((o.map f)[i]?).getD .non) (g:=λi=>((o.map G)[i]?).getD .non) (Z8 h b) (by rw[ak]) hl
  (λi H=>(kB b).trans (by rw[ax,ae H];rfl))
  ((kB b).trans (by rw[aA (by rw[ak];exact aq _)]))
  (λi H=>by
   rw[ax,ax,ae H];exact he _ (aJ H))
 rw[e]
 congr 1
 apply bD
 ·simp
 ·intro i h1 h2
  have H:i<o.length:=by simpa using h2
  simp[ae H]
def LS {m p:Ev}{A0:Hx}{k:Nat}(h:m ρ A0=.ok (.ref n) A)(c:A[n]? =some (.lst ws))(a:p ρ A=.ok (.int (k:Int)) A)(b:k<=ws.length):Q3 m (Zk p) JV ρ A0=.ok (.ref A.length) (A++[.lst (ws.drop k)]):=by
 have H:Zk p ρ A=.ok (some (k:Int)) A:=by
  unfold Zk;rw[a,zT]
 unfold Q3;rw[h,zT,H,zT];show(match A[n]? with|some (O.lst ws)=>R.ok (W.ref A.length) (A++[O.lst (ZP ws (some (k:Int)) none)])|_=>.bad)=_
 rw[c];dsimp only;unfold ZP;rw[HT.zbm,HT.AY,Nat.min_eq_left b,bI (by rw[length_drop];exact aq _)]
def LF {us vs:List W}(h:A[n]? =some (.lst us))(i:Nat)(N:Nat):(Qq (.ref n) (.tup vs) N).at_ A i=some (zip2 us[i]? vs[i]?):=by
 show(match zX (.ref n) A,zX (.tup vs) A with|some us,some vs=>some (zip2 us[i]? vs[i]?)|_,_=>none)=_
 have:zX (.ref n) A=some us:=by unfold zX;dsimp only;rw[h]
 rw[this]
 rfl
def nU {m M:Ev}{us vs:List W}(h:m ρ A=.ok (.ref n) A)(H:A[n]? =some (.lst us))(h':M ρ A=.ok (.tup vs) A):wA m M ρ A=.ok (Qq (.ref n) (.tup vs) us.length) A:=by
 unfold wA;rw[h,zT,h',zT]
 have:zX (.ref n) A=some us:=by unfold zX;dsimp only;rw[H]
 rw[this]
 rfl
abbrev fB:Ex:=zj (zM 5 (qY (zU 1 [3,4] (qu (Q3 zr (Zk zK) JV)) (zE 0) qa (zR (zi zB (zi zB zr zt) zK))))) (zj (zM 6 (qY (zU 2 [3,4] (wA zr zt) (ji 0 1) qa (zR (zi qx (zi zB (zi zB zr zK) zP) zt))))) (zj (jf (j0 (yi (mQ YR (zN jq))) (zi jo (zi qx (zi zB zt zP) (zi zB zt qd)) (mQ wB (zN jZ)))) yU zx) zx))
def nV {x5 x6:Option W}(H:Wf K S)(h:A[0]? =some (.lst (S.map zo)))(hm:w.length<=K)(hK:K<=8)(hw:∀v∈w,-100<v/\v<100)(L:i<w.length)(U:j<w.length):
  ∃Y y6 B,B[0]? =some (.lst (S.map zo))/\fB [rO 0,some (zu w),some (.int (w.length:Int)),iO i,iO j,x5,x6] A=.ok (if Zh S w i j then .nx [rO 0,some (zu w),some (.int (w.length:Int)),iO i,iO j,Y,y6] else .rt (.bl false)) B:=by
 have q:(S.map zo).length=K:=by rw[ak,H.l]
 have e8:w.length<=8:=by omega
 generalize n:([rO 0,some (zu w),some (.int (w.length:Int)),iO i,iO j,x5,x6]:En)=ρ;have Q:Q3 zr (Zk zK) JV ρ A=.ok (.ref A.length) (A++[.lst ((S.map zo).drop w.length)]):=by
  subst n;exact LS (zy rfl) h (zy rfl) (by rw[q];exact hm)
 rw[<- List.map_drop]at Q;have e5:zU 1 [3,4] (qu (Q3 zr (Zk zK) JV)) (zE 0) qa (zR (zi zB (zi zB zr zt) zK)) ρ A=.ok ((S.drop w.length).map λt=>W.int (at2 t i j)) (A++[.lst ((S.drop w.length).map zo)]):=by
  rw[nS Q];refine Bl (f:=zo) qy jm (by have:=H.l;rw[length_drop];unfold qj;omega) (λt p=>?_)
  have o:=mem_of_mem_drop p;have hl:=H.r t o;subst n;exact(z7 (bv rfl rfl (Jw (a:=i) (by omega))) (zy rfl)).trans (Qf (b:=j) (by rw[H.c t o _ (yZ (by omega))];omega))
 have I:=ko e5;have hB:(A++[O.lst ((S.drop w.length).map zo)]++[O.lst ((S.drop w.length).map λt=>W.int (at2 t i j))])[0]? =some (.lst (S.map zo)):=jR (jR h);have D:(A++[O.lst ((S.drop w.length).map zo)]++[O.lst ((S.drop w.length).map λt=>W.int (at2 t i j))])[(A++[O.lst ((S.drop w.length).map zo)]).length]? =some (.lst ((S.drop w.length).map λt=>W.int (at2 t i j))):=jm;generalize A++[O.lst ((S.drop w.length).map zo)]++[O.lst ((S.drop w.length).map λt=>W.int (at2 t i j))]=B at*;generalize (A++[O.lst ((S.drop w.length).map zo)]).length=s at*;generalize e:([rO 0,some (zu w),some (.int (w.length:Int)),iO i,iO j,rO s,x6]:En)=σ;have Z:wA zr zt σ B=.ok (Qq (.ref 0) (zu w) (S.map zo).length) B:=by
  subst e;exact nU (zy rfl) hB (zy rfl)
 have e6:=D5 (cap:=[3,4]) (me:=zi qx (zi zB (zi zB zr zK) zP) zt) (N:=w.length) (u:=λk=>zo (S.getD k [])) (v:=λk=>.int (w.getD k 0)) (g:=λk=>.int (pS S k i j * w.getD k 0)) Z (by show w.length<=(S.map zo).length;rw[q];exact hm) (by omega)
  (λk J=>(LF hB k _).trans (by
   rw[ax,ae (show k<S.length by rw[H.l];omega),int_at J,aa (l:=S),ae (show k<S.length by rw[H.l];omega)]
   rfl))
  ((
   LF hB _ _).trans (by
   rw[aA (l:=w.map W.int) (by rw[ak];exact aq _)]
   cases (S.map zo)[w.length]?<;>rfl))
  (λk J=>by
   have p:S.getD k []∈S:=by
    rw[aa,ae (show k<S.length by rw[H.l];omega)]
    exact aJ _
   have hl:=H.r _ p;have hb:=H.b _ p i j;subst e;exact(z7 ((z7 (bv rfl rfl (Jw (a:=i) (by omega))) (zy rfl)).trans (Qf (b:=j) (by rw[H.c _ p _ (yZ (by omega))];omega))) (zy rfl)).trans (Qg (by show -(2 ^ 64)<at2 _ i j;omega) (by show at2 _ i j<2 ^ 64;omega)))
 have E:=ko e6;have X:(B++[O.lst ((List.range w.length).map λk=>W.int (pS S k i j * w.getD k 0))])[0]? =some (.lst (S.map zo)):=jR hB;have y:(B++[O.lst ((List.range w.length).map λk=>W.int (pS S k i j * w.getD k 0))])[s]? =some (.lst ((S.drop w.length).map λt=>W.int (at2 t i j))):=jR D;have x:(B++[O.lst ((List.range w.length).map λk=>W.int (pS S k i j * w.getD k 0))])[B.length]? =some (.lst ((List.range w.length).map λk=>W.int (pS S k i j * w.getD k 0))):=jm;generalize B++[O.lst ((List.range w.length).map λk=>W.int (pS S k i j * w.getD k 0))]=C at*;refine⟨rO s,rO B.length,C,X,?_⟩;have wi:=hw (w.getD i 0) (by rw[aa,ae L];exact aJ _)
 generalize d:([rO 0,some (zu w),some (.int (w.length:Int)),iO i,iO j,rO s,rO B.length]:En)=τ;have f1:yi (mQ YR (zN jq)) τ C=.ok (.bl (!((S.drop w.length).any λt=>at2 t i j != 0))) C:=by
  subst d;refine gD ((yB (kx (w:=.ref s) (ws:=((S.drop w.length).map λt=>at2 t i j).map W.int) (A1:=C) (zy rfl) (by unfold zX;dsimp only;rw[y,a3];rfl))).trans ?_)
  show ZO (λks=>ks.any id) _ C=_;unfold ZO;rw[OV,a3];dsimp only;rw[List.any_map]
  rfl
 have f2:zi jo (zi qx (zi zB zt zP) (zi zB zt qd)) (mQ wB (zN jZ)) τ C=.ok (.bl (!decide (w.getD i 0 * w.getD j 0=((List.range w.length).map λk=>pS S k i j * w.getD k 0).sum))) C:=by
  subst d;refine(z7 ((z7 (bv rfl rfl (Qf L)) (bv rfl rfl (Qf U))).trans (Qg (by omega) (by omega))) ((yB (kx (w:=.ref B.length) (ws:=((List.range w.length).map λk=>pS S k i j * w.getD k 0).map W.int) (A1:=C) (zy rfl) (by unfold zX;dsimp only;rw[x,a3];rfl))).trans (MZ _))).trans (Ht _ _ _)
 have hf:j0 (yi (mQ YR (zN jq))) (zi jo (zi qx (zi zB zt zP) (zi zB zt qd)) (mQ wB (zN jZ))) τ C=.ok (.bl (!Zh S w i j)) C:=by
  unfold Zh;cases M:(S.drop w.length).any λt=>at2 t i j != 0 with
  |true=>rw[M]at f1;exact K8 f1|false=>rw[M]at f1;rw[Bool.false_or];exact(Ys f1).trans f2
 have head:∀{z},zj (jf (j0 (yi (mQ YR (zN jq))) (zi jo (zi qx (zi zB zt zP) (zi zB zt qd)) (mQ wB (zN jZ)))) yU zx) zx τ C=z->fB ρ A=z:=λT=>by
  subst n;subst e;subst d;exact(zL (jd I)).trans ((zL (jd E)).trans T)
 refine head ?_;cases P:Zh S w i j with
 |true=>rw[P]at hf;exact(zL ((yP hf).trans jk)).trans jk|false=>rw[P]at hf;exact jb ((gn hf).trans (jb (jM qy)))
def all_succ {p:Nat->Bool}{k:Nat}:(List.range (k+1)).all p=((List.range k).all p&&p k):=by
 rw[a6,List.all_append];simp
def all_false {p:Nat->Bool}{k N:Nat}(H:k<N)(h:p k=false):(List.range N).all p=false:=by
 cases e:(List.range N).all p with
 |false=>rfl|true=>exact absurd (cn.mp e k (cj.mpr H)) (by rw[h];decide)
abbrev fI:Ex:=zj (qF (qN zK) (zE 4) fB) zx
def nW {x4 x5 x6:Option W}(g:Wf K S)(h:A[0]? =some (.lst (S.map zo)))(hm:w.length<=K)(l:K<=8)(hw:∀v∈w,-100<v/\v<100)(f:i<w.length):
  (∃y4 y y6 B,B[0]? =some (.lst (S.map zo))/\(List.range w.length).all (Zh S w i)=true/\fI [rO 0,some (zu w),some (.int (w.length:Int)),iO i,x4,x5,x6] A=.ok (.nx [rO 0,some (zu w),some (.int (w.length:Int)),iO i,y4,y,y6]) B)∨
  ∃B,B[0]? =some (.lst (S.map zo))/\(List.range w.length).all (Zh S w i)=false/\fI [rO 0,some (zu w),some (.int (w.length:Int)),iO i,x4,x5,x6] A=.ok (.rt (.bl false)) B:=by
 have b:=wm (m:=zK) (ρ:=[rO 0,some (zu w),some (.int (w.length:Int)),iO i,x4,x5,x6]) (A:=A) (A1:=A) (k:=(w.length:Int)) (zy rfl) (QT (by omega))
 rw[aG]at b;rcases KC (j:=ye 0 w.length) (st:=turn (zE 4) fB) (N:=w.length) (I:=λk ρ B=>B[0]? =some (.lst (S.map zo))/\(List.range k).all (Zh S w i)=true/\∃y4 y y6,ρ=[rO 0,some (zu w),some (.int (w.length:Int)),iO i,y4,y,y6]) (Q:=λr B=>r=.bl false/\B[0]? =some (.lst (S.map zo))/\(List.range w.length).all (Zh S w i)=false)
  (λk ρ B a ⟨h0,H,y4,y,y6,e⟩=>by
   subst e;refine⟨_,kf a,?_⟩;obtain⟨Z,z,C,c,n⟩:=nV (x5:=y) (x6:=y6) (j:=k) g h0 hm l hw f a;have E:=(yz (tw:=zE 4) (w:=.int (0+(k:Int))) (ρ:=[rO 0,some (zu w),some (.int (w.length:Int)),iO i,y4,y,y6]) (ρ1:=[rO 0,some (zu w),some (.int (w.length:Int)),iO i,iO k,y,y6]) (A:=B) (m1:=fB) (by rw[Int.zero_add];rfl)).trans n
   cases hf:Zh S w i k with
   |true=>
    rw[hf]at E;exact .inl ⟨_,C,E,c,by rw[all_succ,H,hf];rfl,_,_,_,rfl⟩
   |false=>
    rw[hf]at E;exact .inr ⟨_,C,E,rfl,c,all_false a hf⟩)
  (λρ B _=>yY (by omega)) w.length 0 [rO 0,some (zu w),some (.int (w.length:Int)),iO i,x4,x5,x6] A (by omega) ⟨h,rfl,_,_,_,rfl⟩ with ⟨d,B,e,hB,H,y4,y,y6,rfl⟩|⟨r,B,e,rfl,hB,H⟩
 ·exact .inl ⟨y4,y,y6,B,hB,H,(zL ((ym b).trans e)).trans jk⟩
 ·exact .inr ⟨B,hB,H,jb ((ym b).trans e)⟩
def nX (f:Wf K S)(hm:w.length<=K)(g:K<=8)(hw:∀v∈w,-100<v/\v<100):∃B,Xm [.ref 0,zu w] [.lst (S.map zo)]=.ok (.bl (Qw S w)) B/\B[0]? =some (.lst (S.map zo)):=by
 have l:mQ qc (zN zt) [rO 0,some (zu w),none,none,none,none,none] [.lst (S.map zo)]=.ok (.int (w.length:Int)) [.lst (S.map zo)]:=by
  rw[yB (kx (w:=zu w) (ws:=w.map W.int) (A1:=[.lst (S.map zo)]) (zy rfl) rfl)];unfold qc;rw[ak]
 have E:=wm (m:=zK) (ρ:=[rO 0,some (zu w),some (.int (w.length:Int)),none,none,none,none]) (A:=[.lst (S.map zo)]) (A1:=[.lst (S.map zo)]) (k:=(w.length:Int)) (zy rfl) (QT (by omega))
 rw[aG]at E;unfold Xm;rcases KC (j:=ye 0 w.length) (st:=turn (zE 3) fI) (N:=w.length) (I:=λk ρ B=>B[0]? =some (.lst (S.map zo))/\(List.range k).all (λi=>(List.range w.length).all λj=>Zh S w i j)=true/\∃Y y4 y y6,ρ=[rO 0,some (zu w),some (.int (w.length:Int)),Y,y4,y,y6]) (Q:=λr B=>r=.bl false/\B[0]? =some (.lst (S.map zo))/\Qw S w=false)
  (λk ρ B a ⟨h0,H,Y,y4,y,y6,e⟩=>by
   subst e;refine⟨_,kf a,?_⟩;have t:=yz (tw:=zE 3) (w:=.int (0+(k:Int))) (ρ:=[rO 0,some (zu w),some (.int (w.length:Int)),Y,y4,y,y6]) (ρ1:=[rO 0,some (zu w),some (.int (w.length:Int)),iO k,y4,y,y6]) (A:=B) (m1:=fI) (by rw[Int.zero_add];rfl)
   rcases nW (x4:=y4) (x5:=y) (x6:=y6) (i:=k) f h0 hm g hw a with ⟨n,Z,z,C,b,h,c⟩|⟨C,b,h,c⟩
   ·exact .inl ⟨_,C,t.trans c,b,by rw[all_succ,H];exact h,_,_,_,_,rfl⟩
   ·exact .inr ⟨_,C,t.trans c,rfl,b,all_false a h⟩)
  (λρ B _=>yY (by omega)) w.length 0 [rO 0,some (zu w),some (.int (w.length:Int)),none,none,none,none] [.lst (S.map zo)] (by omega) ⟨rfl,rfl,_,_,_,_,rfl⟩ with ⟨d,B,e,hB,H,Y,y4,y,y6,rfl⟩|⟨r,B,e,rfl,hB,H⟩
 ·refine⟨B,jC ?_,hB⟩
  rw[show Qw S w=true from H]
  unfold TF;exact(zL (jd l)).trans ((zL ((ym E).trans e)).trans (jb (jM qy)))
 ·refine⟨B,jC ?_,hB⟩
  rw[H];unfold TF;exact(zL (jd l)).trans (jb ((ym E).trans e))
def BH {us:List W}{v:W}(H:A[n]? =some (.lst ws))(hn:qO ws=true)(u:qO us=true)(h:f (.ref 0::us) [.lst ws]=.ok v A1)(h1:A1[0]? =some (.lst ws))(a:v.nr=true):yI f (.ref n::us) A=.ok v A:=by
 unfold yI;dsimp only;rw[H];dsimp only;rw[hn,u,h];dsimp only[Bool.and_true,if_true];rw[List.head?_eq_getElem?,h1];dsimp only;rw[hn,a]
 have:A.set n (.lst ws)=A:=by
  apply ext_getElem?
  intro i
  by_cases h:n=i
  ·subst h
   rw[aC (yD H),H]
  ·rw[az h]
 rw[this]
 rfl
def nY (H:Wf K S)(hm:w.length<=K)(a:K<=8)(hw:∀v∈w,-100<v/\v<100)(h:A[n]? =some (.lst (S.map zo))):Yx [.ref n,zu w] A=.ok (.bl (Qw S w)) A:=by
 obtain⟨B,e,hB⟩:=nX H hm a hw;exact BH h (ZF (λ_=>ZE _) _) (by show((zu w).nr&&true)=true;rw[G0];rfl) e hB rfl
end
noncomputable def dn (s:Int):bK:=(List.range (2 * s.toNat+1)).map λ(i:Nat)=>s-(i:Int)
def ext (s:Int)(w:bK):bJ:=(dn s).map λv=>w++[v]
def step (S:List (bJ))(L:bJ)(s:Int):bJ:=(L.flatMap (ext s)).filter (Qw S)
def w6 (S:List (bJ))(z:bK):Nat->List (bK)
 |0=>[[1]]|k+1=>step S (w6 S z k) (z.getD (k+1) 0)
def Xx (s:Int):(dn s).length=2 * s.toNat+1:=by unfold dn;rw[ak,aM]
def LV {s v:Int}(h0:0<=s):v∈dn s↔-s<=v/\v<=s:=by
 unfold dn;rw[mem_map]
 constructor
 ·rintro⟨i,H,rfl⟩
  have:=cj.mp H
  omega
 ·intro h
  exact⟨(s-v).toNat,cj.mpr (by omega),by omega⟩
def three {s:Nat}:2 * s+1<=3 ^ s:=by
 induction s with
 |zero=>decide|succ s i=>rw[Nat.pow_succ];omega
section
variable {K k:Nat}{w z:bK}{S:List (bJ)}{L:bJ}{s:Int}
def Mn {x:bK}:x∈ext s w↔∃v∈dn s,x=w++[v]:=by
 unfold ext;rw[mem_map];exact⟨λ⟨v,h,e⟩=>⟨v,h,e.symm⟩,λ⟨v,h,e⟩=>⟨v,h,e.symm⟩⟩
def Ao:(step S L s).length<=L.length * 3 ^ s.toNat:=by
 unfold step;refine a4 (List.length_filter_le _ _) ?_
 induction L with
 |nil=>rw[flatMap_nil];exact zero_le _|cons w L i=>
  rw[flatMap_cons,av,bo,succ_mul]
  have:(ext s w).length<=3 ^ s.toNat:=by
   unfold ext;rw[ak,Xx];exact three
  omega
def MN (M:bJ):(M.flatMap (ext s)).length=M.length * (2 * s.toNat+1):=by
 induction M with
 |nil=>rw[flatMap_nil];show 0=0 * _;rw[Nat.zero_mul]|cons w M i=>
  rw[flatMap_cons,av,i,bo,Nat.add_mul M.length 1,Nat.one_mul,add_comm];unfold ext;rw[ak,Xx]
structure Zs (K:Nat)(z:bK):Prop where
 l:z.length=K
 p:∀v∈z,1<=v
 s:z.sum<=8
 h:z.getD 0 0=1
theorem Wi:∀(z:bK),(∀v∈z,1<=v)->∀v∈z,0<=z.sum/\v<=z.sum
 |[],_,v,h=>by cases h|x::z,p,v,H=>by
  have c:=p x (aB ..);have b:0<=z.sum:=by
   cases z with
   |nil=>exact Int.le_refl _|cons y Z=>exact(Wi (y::Z) (λu a=>p u (au _ a)) y (aB ..)).1
  rw[List.sum_cons];rcases cm.mp H with rfl|H
  ·omega
  ·have:=(Wi z (λu a=>p u (au _ a)) v H).2
   omega
def Zs.le (h:Zs K z)(H:k<K):1<=z.getD k 0/\z.getD k 0<=8:=by
 have hm:z.getD k 0∈z:=by
  rw[aa,ae (by rw[h.l];exact H)]
  exact aJ _
 have:=Wi z h.p _ hm
 have:=h.p _ hm
 have:=h.s
 omega
theorem Nz (a:Zs K z):∀k,k<K->∀w∈w6 S z k,w.length=k+1/\(∀v∈w,-9<v/\v<9)/\w.getD 0 0=1/\∀i,i<=k->-(z.getD i 0)<=w.getD i 0/\w.getD i 0<=z.getD i 0
 |0,c,w,h=>by
  have:w=[1]:=cw.mp h
  subst this;refine⟨rfl,λv b=>by rw[cw.mp b];omega,rfl,λi f=>?_⟩
  have:i=0:=by omega
  subst this;rw[a.h];show -1<=(1:Int)/\(1:Int)<=1;omega
 |k+1,c,w,h=>by
  obtain⟨x,d,hw⟩:=List.mem_flatMap.mp (List.mem_filter.mp h).1;obtain⟨v,b,rfl⟩:=Mn.mp hw;obtain⟨h1,h2,j,g⟩:=Nz a k (by omega) x d
  have Z:=a.le c;have D:=(LV (by omega)).mp b
  refine⟨by rw[av,h1];rfl,λu H=>?_,?_,λi f=>?_⟩
  ·rcases cx.mp H with H|H
   ·exact h2 u H
   ·rw[cw.mp H];omega
  ·rw[aa,ag (by omega),<- aa]
   exact j
  ·by_cases e:i=k+1
   ·subst e
    rw[aa (l:=x++[v]),ar (by omega),show k+1-x.length=0 by omega]
    exact D
   ·rw[aa (l:=x++[v]),ag (by omega),<- aa]
    exact g i (by omega)
theorem MO (h:Zs K z):∀k,k<K->(w6 S z k).length<=3 ^ (((z.drop 1).take k).sum).toNat
 |0,_=>by show 1<=3 ^ 0;decide|k+1,H=>by
  have i:=MO h k (by omega)
  have Z:=h.le H;have e:(z.drop 1).take (k+1)=(z.drop 1).take k++[z.getD (k+1) 0]:=by
   rw[List.take_succ,List.getElem?_drop,add_comm 1 k,ae (by rw[h.l];exact H),aa,ae (by rw[h.l];exact H)]
   rfl
  have n:0<=((z.drop 1).take k).sum:=by
   cases q:(z.drop 1).take k with
   |nil=>exact Int.le_refl _|cons y l=>
    refine(Wi (y::l) (λu a=>h.p u ?_) y (aB ..)).1;rw[<- q]at a;exact mem_of_mem_drop (List.mem_of_mem_take a)
  have sl:=Ao (S:=S) (L:=w6 S z k) (s:=z.getD (k+1) 0);rw[e,sum_append,List.sum_singleton,Int.toNat_add n (by omega),Nat.pow_add]
  exact a4 sl (Nat.mul_le_mul_right _ i)
def nZ (h:Zs K z)(b:k<K):(w6 S z k).length<=2187:=by
 refine a4 (MO h k b) ?_
 have:(((z.drop 1).take k).sum).toNat<=7:=by
  have a:∀l:bK,(∀v∈l,1<=v)->0<=l.sum:=λl hl=>by
   cases l with
   |nil=>exact Int.le_refl _|cons y l=>exact(Wi (y::l) hl y (aB ..)).1
  have e:z.sum=(z.take 1).sum+((z.drop 1).take k).sum+((z.drop 1).drop k).sum:=by
   rw[<- sum_append,<- sum_append,aN,take_append_drop,take_append_drop]
  have a1:1<=(z.take 1).sum:=by
   cases z with
   |nil=>have:=h.l;simp at this;omega|cons x z=>
    have:=h.p x (aB ..)
    simp;omega
  have a2:=a ((z.drop 1).drop k) λv H=>h.p v (mem_of_mem_drop (mem_of_mem_drop H))
  have:=h.s
  omega
 exact Nat.pow_le_pow_right (by decide) this
variable {m:Nat}
def Ma {us vs:List W}(h:us.length+vs.length<=1000):qv (.tup us) (.tup vs) A=.ok (.tup (us++vs)) A:=by
 unfold qv;dsimp only;rw[aj (by unfold qj;omega)]
abbrev Rm:Em:=gI (Wn zK (zi yQ (yw Qs zK) qp)) (zE 1) qa (zR (zi qv zr (qb (zh zt zm))))
def n0 {x1:Option W}{acc:List W}(h0:0<=s)(n:s<=8)(hw:w.length<=8)(l:acc.length<=90000):∃Y,Rm [some (zu w),x1,some (.int s)] acc A=.ok ([some (zu w),Y,some (.int s)],acc++(ext s w).map zu) A:=by
 have r:Wn zK (zi yQ (yw Qs zK) qp) [some (zu w),x1,some (.int s)] A=.ok (YQ s (2 * s.toNat+1)) A:=by
  have E:zi yQ (yw Qs zK) qp [some (zu w),x1,some (.int s)] A=.ok (.int (-s-1)) A:=(z7 (x:=.int (-s)) (A1:=A) ((iV (g:=Qs) (zy (i:=2) rfl)).trans rfl) qy).trans rfl;unfold Wn;rw[show zK [some (zu w),x1,some (.int s)] A=.ok (.int s) A from zy rfl,zT,E,zT]
  show(if (jH s&&jH (-s-1))=true then R.ok (YQ s (s-(-s-1)).toNat) A else .bad)=_;rw[aj,show(s-(-s-1)).toNat=2 * s.toNat+1 by omega]
  have:s=0∨s=1∨s=2∨s=3∨s=4∨s=5∨s=6∨s=7∨s=8:=by omega
  rcases this with rfl|rfl|rfl|rfl|rfl|rfl|rfl|rfl|rfl<;>decide
 obtain⟨f,d,A',e,E,c,Y,b⟩:=N7 (j:=YQ s (2 * s.toNat+1)) (tw:=zE 1) (ifs:=qa) (em:=zR (zi qv zr (qb (zh zt zm)))) (N:=2 * s.toNat+1) (I:=λk ρ a B=>B=A/\a=acc++((dn s).take k).map (λv=>zu (w++[v]))/\∃Y,ρ=[some (zu w),Y,some (.int s)])
  (λk ρ a B h ⟨E,c,Y,b⟩=>by
   subst E c b;have hl:k<(dn s).length:=by rw[Xx];exact h
   have H:(dn s)[k]=s-(k:Int):=by simp[dn]
   refine⟨.int (s-(k:Int)),_,?_,rfl,.inl ⟨_,_,_,_,qy,GR (y:=zu (w++[s-(k:Int)])) ((z7 (zy rfl) (wL (zS (zy rfl) qE))).trans ((Ma ?_).trans ?_)) ?_,rfl,?_,_,rfl⟩⟩
   ·show(if k<2 * s.toNat+1 then some (some (W.int (s-(k:Int)))) else some none)=_
    rw[aj h]
   ·rw[ak];show w.length+1<=1000;omega
   ·unfold zu;rw[aO];rfl
   ·rw[av,ak,bC];unfold qj;omega
   ·rw[take_succ hl,aO,H,aN];rfl)
  (λρ a B _=>by
   show(if 2 * s.toNat+1<2 * s.toNat+1 then some (some (W.int (s-((2 * s.toNat+1:Nat):Int)))) else some none)=_;rw[ao (by omega)]) (2 * s.toNat+1) 0 [some (zu w),x1,some (.int s)] acc A (by omega) ⟨rfl,by rw[take_zero,map_nil,a7],_,rfl⟩
 subst E c b;refine⟨Y,?_⟩;show(gI _ _ _ _ _ _ _)=_;unfold gI;rw[r,zT];refine e.trans ?_;rw[bI (by rw[Xx];exact aq _)]
 unfold ext;rw[a3]
 rfl
abbrev Hz:j3:=zU 2 [3] (qu zK) (zE 0) qa Rm
def n4 {x y:Option W}{r:Nat}{a:W}(h0:0<=s)(l:s<=8)(j:∀w∈L,w.length<=8)(hl:L.length * 17<=90000)(H:A[r]? =some (.lst (L.map zu))):Hz [some a,x,rO r,some (.int s),y] A=.ok ((L.flatMap (ext s)).map zu) A:=by
 have i:∀k,((L.take k).flatMap (ext s)).length<=L.length * 17:=λk=>by
  rw[MN];have h1:(L.take k).length<=L.length:=by rw[bC];omega
  have h2:2 * s.toNat+1<=17:=by omega
  exact mul_le_mul h1 h2
 obtain⟨g,f,A',e,E,b,_⟩:=Gz (nl:=2) (cap:=[3]) (mi:=qu zK) (ρ:=[some a,x,rO r,some (.int s),y]) (tw:=zE 0) (ifs:=qa) (em:=Rm) (N:=L.length) (I:=λk ρ c B=>B=A/\c=((L.take k).flatMap (ext s)).map zu/\∃d Y,ρ=[d,Y,some (.int s)]) (Z8 (n:=r) (zy rfl) H) (by show(L.map zu).length=L.length;rw[ak])
  (λk ρ c B h ⟨E,b,d,Y,p⟩=>by
   subst E b p;have hm:=i k;obtain⟨z,o⟩:=n0 (A:=B) (w:=L[k]) (x1:=Y) (acc:=((L.take k).flatMap (ext s)).map zu) h0 l (j _ (aJ h)) (by rw[ak];omega)
   refine⟨zu L[k],_,(kB H).trans (by rw[ax,ae h];rfl),rfl,.inl ⟨_,_,_,_,qy,o,rfl,?_,_,_,rfl⟩⟩
   rw[take_succ h,aZ,aO,List.flatMap_singleton])
  (λρ c B ⟨E,_⟩=>by
   subst E;exact(kB H).trans (by rw[aA (by rw[ak];exact aq _)]))
  ⟨rfl,by rw[take_zero];rfl,_,_,rfl⟩
 subst E b;rw[bI (aq _)]at e;exact e
abbrev HN:j3:=zU 1 [1] (qu qd) (zE 0) (zH Yx (zh zt (zh zr zm))) (zR zr)
def n9 {x2 x3:Option W}{r:Nat}{a:W}(o:Wf K S)(q:K<=8)(p:∀w∈L,w.length<=K/\∀v∈w,-100<v/\v<100)(hl:L.length<=90000)(h0:A[0]? =some (.lst (S.map zo)))(H:A[r]? =some (.lst (L.map zu))):HN [some a,rO 0,x2,x3,rO r] A=.ok ((L.filter (Qw S)).map zu) A:=by
 obtain⟨i,g,A',e,E,d,_⟩:=Gz (nl:=1) (cap:=[1]) (mi:=qu qd) (ρ:=[some a,rO 0,x2,x3,rO r]) (tw:=zE 0) (ifs:=zH Yx (zh zt (zh zr zm))) (em:=zR zr) (N:=L.length) (I:=λk ρ c B=>B=A/\c=((L.take k).filter (Qw S)).map zu/\∃y,ρ=[y,rO 0]) (Z8 (n:=r) (zy rfl) H) (by show(L.map zu).length=L.length;rw[ak])
  (λk ρ c B h ⟨E,d,y,s⟩=>by
   subst E d s;obtain⟨l,j⟩:=p _ (aJ h);have b:=(jt (f:=Yx) (ρ:=[some (zu L[k]),rO 0]) (A:=B) (zS (ma:=zt) (zy rfl) (zS (ma:=zr) (zy rfl) qE))).trans (nY o l q j h0);refine⟨zu L[k],[some (zu L[k]),rO 0],(kB H).trans (by rw[ax,ae h];rfl),rfl,?_⟩
   cases hf:Qw S L[k] with
   |true=>
    rw[hf]at b;refine .inl ⟨_,_,_,_,b,GR (zy rfl) ?_,rfl,?_,_,rfl⟩
    ·rw[ak]
     have:=List.length_filter_le (Qw S) (L.take k)
     rw[bC]at this;unfold qj;omega
    ·rw[take_succ h,filter_append,aO,List.filter_cons_of_pos hf,List.filter_nil];rfl
   |false=>
    rw[hf]at b;refine .inr ⟨_,b,rfl,?_,_,rfl⟩;rw[take_succ h,filter_append,List.filter_cons_of_neg (by rw[hf];decide),List.filter_nil,a7])
  (λρ c B ⟨E,_⟩=>by
   subst E;exact(kB H).trans (by rw[aA (by rw[ak];exact aq _)]))
  ⟨rfl,by rw[take_zero];rfl,_,rfl⟩
 subst E d;rw[bI (aq _)]at e;exact e
structure Dt (t:bJ)(K:Nat)(S:List (bJ))(z:bK):Prop where
 tab:qQ t
 kd:qK t=(K:Int)
 sd:Zt t K=[]
 ks:∀A,Gi [zo t] A=.ok (.ref A.length) (A++[.lst (S.map zo)])
 zf:∀A,Za [zo t] A=.ok (.ref A.length) (A++[.lst (z.map W.int)])
 wf:Wf K S
 zs:Zs K z
 k1:1<=K
 k8:K<=8
abbrev sB:Ex:=zj (zM 4 (qY Hz)) (zj (zM 2 (qY HN)) zx)
def og {r:Nat}{x4:Option W}(h:Dt t K S z)(e:k+1<K)(h0:A[0]? =some (.lst (S.map zo)))(f:A[r]? =some (.lst ((w6 S z k).map zu))):∃y4 b C,sB [some (zo t),rO 0,rO r,some (.int (z.getD (k+1) 0)),x4] A=.ok (.nx [some (zo t),rO 0,some (.ref b),some (.int (z.getD (k+1) 0)),y4]) C/\Ext A C/\C[b]? =some (.lst ((w6 S z (k+1)).map zu)):=by
 have sh:=Nz (S:=S) h.zs k (by omega)
 have g:=nZ (S:=S) h.zs (k:=k) (by omega)
 have Z:=h.zs.le e;have k8:=h.k8;have i:=ko (n4 (s:=z.getD (k+1) 0) (x:=rO 0) (y:=x4) (a:=zo t) (by omega) (by omega) (λw hw=>by have:=(sh w hw).1;omega) (by omega) f)
 have L:∀w∈(w6 S z k).flatMap (ext (z.getD (k+1) 0)),w.length<=K/\∀v∈w,-100<v/\v<100:=λw hw=>by
  obtain⟨x,c,hw⟩:=List.mem_flatMap.mp hw;obtain⟨v,d,rfl⟩:=Mn.mp hw;obtain⟨s1,s2,_⟩:=sh x c;have D:=(LV (by omega)).mp d
  refine⟨by rw[av,s1];show k+1+1<=K;omega,λu H=>?_⟩
  rcases cx.mp H with H|H
  ·have:=s2 u H;omega
  ·rw[cw.mp H];omega
 have l:((w6 S z k).flatMap (ext (z.getD (k+1) 0))).length<=90000:=by
  rw[MN];have h2:2 * (z.getD (k+1) 0).toNat+1<=17:=by omega
  exact a4 (mul_le_mul g h2) (by decide)
 have E:=ko (n9 (x2:=rO r) (x3:=some (.int (z.getD (k+1) 0))) (a:=zo t) (A:=A++[.lst (((w6 S z k).flatMap (ext (z.getD (k+1) 0))).map zu)]) (r:=A.length) h.wf h.k8 L l (jR h0) jm);exact⟨_,_,_,(zL (jd i)).trans ((zL (jd E)).trans jk),Ext.one.trans Ext.one,jm⟩
def oh (h:Dt t K S z)(A:Hx):gA [zo t] A=.ok (.ref A.length) (A++[.lst ((w6 S z (K-1)).map zu)]):=by
 have Z:=h.zs.l;have k1:=h.k1;have k8:=h.k8;have s:=h.ks [];have q:=h.zf [.lst (S.map zo),.lst [.tup [.int 1]]];have E:=LS (m:=zH Za (zh zr zm)) (p:=qp) (ρ:=[some (zo t),rO 0,rO 1,none,none]) (A0:=[.lst (S.map zo),.lst [.tup [.int 1]]]) (n:=2) (k:=1) (cv rfl q) rfl qy (by rw[ak,Z];exact k1)
 rw[<- List.map_drop]at E;have hd:(z.drop 1).length=K-1:=by rw[length_drop,Z]
 have c:∀(B:Hx)(i:Nat),B[3]? =some (.lst ((z.drop 1).map W.int))->i<K-1->((zX (.ref 3) B).map λws=>ws[i]?)=some (some (.int (z.getD (i+1) 0))):=λB i hB d=>by
  rw[kB hB,ax,List.getElem?_drop,add_comm 1 i,ae (by rw[Z];omega),aa,ae (by rw[Z];omega)]
  rfl
 obtain⟨f,B,e,h0,H,r,y,y4,rfl,b⟩:=wk (j:=⟨λA i=>(zX (.ref 3) A).map λws=>ws[i]?,K-1⟩) (st:=turn (zE 3) sB) (N:=K-1) (I:=λk ρ B=>B[0]? =some (.lst (S.map zo))/\B[3]? =some (.lst ((z.drop 1).map W.int))/\∃r y y4,ρ=[some (zo t),rO 0,rO r,y,y4]/\B[r]? =some (.lst ((w6 S z k).map zu)))
  (λi ρ B d ⟨h0,H,r,y,y4,a,b⟩=>by
   subst a;obtain⟨u,g,C,e,x,o⟩:=og (x4:=y4) h (k:=i) (by omega) h0 b
   exact⟨_,_,C,c B i H d,(yz rfl).trans e,x.at h0,x.at H,g,_,_,rfl,o⟩)
  (λρ B ⟨_,H,_⟩=>by
   show((zX (.ref 3) B).map λws=>ws[K-1]?)=_;rw[kB H,aA (by rw[ak,hd];exact aq _)]) (K-1) 0 [some (zo t),rO 0,rO 1,none,none] [.lst (S.map zo),.lst [.tup [.int 1]],.lst (z.map W.int),.lst ((z.drop 1).map W.int)] (by omega) ⟨rfl,rfl,1,_,_,rfl,rfl⟩
 refine G9 (k:=r) (A1:=B) (gN t) (jC ?_) b (ZF (λ_=>G0 _) _);unfold RZ;have hl:(K-1)=((z.drop 1).map W.int).length:=by rw[ak,hd]
 rw[hl]at e;exact(zL (jd (cv rfl s))).trans ((zL (jd (j6 (zS (wL (zS qy qE)) qE)))).trans ((zL ((ym (Z8 E rfl)).trans e)).trans (jb (jM (zy rfl)))))
end
section
variable {β:Type}{P:En->Prop}{k:Nat}{t:W}
abbrev Hs (j:Nat)(t:W)(ρ:En):Prop:=ρ[j]? =some (some t)
def Ce (P:En->Prop)(m M:En->Hx->R α):Prop:=∀ρ A,P ρ->m ρ A=M ρ A
noncomputable def HF (P:En->Prop):Fl->Prop
 |.nx ρ=>P ρ|.bk ρ=>P ρ|.ct ρ=>P ρ|.rt _=>True
def W0 (P:En->Prop)(r:R Fl):Prop:=∀fl A,r=.ok fl A->HF P fl
def Cs (P:En->Prop)(s s':Ex):Prop:=∀ρ A,P ρ->s ρ A=s' ρ A/\W0 P (s ρ A)
def Tk (P:En->Prop)(tw:Tg):Prop:=∀w ρ a,P ρ->tw w ρ=some a->P a
def bd {r a:R α}{k K:α->Hx->R β}(h:r=a)(g:∀x A,k x A=K x A):r.bind k=a.bind K:=by
 have:k=K:=funext λx=>funext λA=>g x A
 rw[h,this]
def GK {r:R α}{k:α->Hx->R Fl}(h:∀x A,r=.ok x A->W0 P (k x A)):W0 P (r.bind k):=by
 cases r with
 |ok x A=>exact h x A rfl|exc x A=>exactλfl A1 e=>by cases e|bad=>exactλfl A1 e=>by cases e
def gH {fl:Fl}(h:HF P fl):W0 P (.ok fl A):=λf B e=>by cases e;exact h
def Qa:W0 P .bad:=λf B e=>by cases e
def qG {m:En->Hx->R α}:Ce P m m:=λ_ _ _=>rfl
def oj {a c b B:Ev}(H:Ce P a c)(h:Ce P b B):Ce P (wA a b) (wA c B):=λρ A p=>bd (H ρ A p) λ_ A1=>bd (h ρ A1 p) λ_ _=>rfl
def gF {g:Fn}{r a:Ea}(hf:∀us A,f (t::us) A=g (t::us) A)(h:Ce (Hs j t) r a):Ce (Hs j t) (zH f (zh (qh j) r)) (zH g (zh (qh j) a)):=λρ A p=>by
 unfold zH zh;rw[zy p,zT,zT,h ρ A p];cases a ρ A with
 |ok us B=>exact hf us B|exc x B=>rfl|bad=>rfl
def ZJ {m M:Ev}(h:Ce P m M):Cs P (qA m) (qA M):=λρ A p=>⟨bd (h ρ A p) λ_ _=>rfl,GK λ_ _ _=>gH trivial⟩
def YB {m M:Ev}(h:Ce P m M):Cs P (jx m) (jx M):=λρ A p=>⟨bd (h ρ A p) λ_ _=>rfl,GK λ_ _ _=>gH p⟩
def j8:Cs P zx zx:=λρ A p=>⟨rfl,gH p⟩
def Xs {w:Option W}(h:i≠j)(p:Hs j t ρ):Hs j t (ρ.set i w):=by
 show(ρ.set i w)[j]? =_;rw[az h];exact p
def j9 {m M:Ev}(h:Ce (Hs j t) m M)(H:i≠j:=by decide):Cs (Hs j t) (zM i m) (zM i M):=λρ A p=>⟨bd (h ρ A p) λ_ _=>rfl,GK λ_ _ _=>gH (Xs H p)⟩
def qI {a d b c:Ex}(f:Cs P a d)(H:Cs P b c):Cs P (zj a b) (zj d c):=λρ A p=>by
 obtain⟨e,o⟩:=f ρ A p;unfold zj;rw[<- e];cases h:a ρ A with
 |ok fl A1=>
  have q:=o fl A1 h;cases fl with
  |nx ρ1=>exact H ρ1 A1 q|rt w=>exact⟨rfl,gH trivial⟩|bk ρ1=>exact⟨rfl,gH q⟩|ct ρ1=>exact⟨rfl,gH q⟩
 |exc x B=>exact⟨rfl,λfl A1 e=>by cases e⟩|bad=>exact⟨rfl,Qa⟩
def Wu {c C:Ev}{a f b d:Ex}(h:Ce P c C)(g:Cs P a f)(H:Cs P b d):Cs P (jf c a b) (jf C f d):=λρ A p=>by
 unfold jf;rw[<- h ρ A p];cases c ρ A with
 |ok x A1=>
  rw[zT,zT]
  split
  ·exact g ρ A1 p
  ·exact H ρ A1 p
  ·exact⟨rfl,Qa⟩
 |exc x B=>exact⟨rfl,λfl A1 e=>by cases e⟩|bad=>exact⟨rfl,Qa⟩
theorem TZ {J:jJ}{s s':W->Ex}(h:∀w,Cs P (s w) (s' w)):∀f i,Cs P (yh J s f i) (yh J s' f i)
 |0,i=>λρ A p=>⟨rfl,by
  unfold yh
  split
  ·exact gH p
  ·exact Qa⟩
 |f+1,i=>λρ A p=>by
  unfold yh
  split
  ·exact⟨rfl,gH p⟩
  ·rename_i w _
   obtain⟨e,o⟩:=h w ρ A p;rw[<- e];cases H:s w ρ A with
   |ok fl A1=>
    have q:=o fl A1 H;cases fl with
    |nx ρ1=>exact TZ h f (i+1) ρ1 A1 q|rt w=>exact⟨rfl,gH trivial⟩|bk ρ1=>exact⟨rfl,gH q⟩|ct ρ1=>exact TZ h f (i+1) ρ1 A1 q
   |exc x B=>exact⟨rfl,λfl A1 e=>by cases e⟩|bad=>exact⟨rfl,Qa⟩
  ·exact⟨rfl,Qa⟩
def Ze {M:Ei}{b a:Ex}(hm:Ce P mi M)(h:Tk P tw)(H:Cs P b a):Cs P (qF mi tw b) (qF M tw a):=λρ A p=>by
 unfold qF;rw[<- hm ρ A p];cases mi ρ A with
 |ok J A1=>
  refine TZ (λw ρ A p=>?_) _ _ ρ A1 p;unfold Mi.turn
  split
  ·exact H _ A (h _ _ _ p (by assumption))
  ·exact⟨rfl,Qa⟩
 |exc x B=>exact⟨rfl,λfl A1 e=>by cases e⟩|bad=>exact⟨rfl,Qa⟩
def Qd (h:i≠j:=by decide):Tk (Hs j t) (zE i):=λw ρ a p e=>by cases e;exact Xs h p
def Tc (H:i≠j:=by decide)(h:k≠j:=by decide):Tk (Hs j t) (ji i k):=λw ρ a p e=>by
 unfold ji at e
 split at e
 ·cases e;exact Xs h (Xs H p)
 ·cases e
def om {m M:Ev}(H:Tk P tw)(h:Ce P m M):Cs P (Qy m tw) (Qy M tw):=λρ A p=>by
 unfold Qy;rw[<- h ρ A p];refine⟨rfl,GK λw A1 _=>?_⟩
 split
 ·exact gH (H _ _ _ p (by assumption))
 ·exact Qa
def YT {m M:Ex}{us:List W}(h:Cs (Hs j t) m M)(p:Hs j t (us.map some++List.replicate (n-us.length) none)):qt n m us A=qt n M us A:=by
 unfold qt;rw[(h _ A p).1]
noncomputable def JK:W ⊕ List W->Hx->R W
 |.inl w,A=>.ok w A|.inr ws,A=>.ok (.ref A.length) (A++[.lst ws])
def ov (g:List W->Option (W ⊕ List W))(f:Fn):Fn:=λus A=>match g us.tail with
 |some r=>JK r A|none=>f us A
def oo {g:List W->Option (W ⊕ List W)}(h:∀us r A,g us=some r->f (t::us) A=JK r A)(us:List W)(A:Hx):f (t::us) A=ov g f (t::us) A:=by
 unfold ov;show _=match g us with|some r=>JK r A|none=>f (t::us) A
 cases e:g us with
 |some r=>exact h us r A e|none=>rfl
end
noncomputable def rg (n:Nat):bJ:=(List.range n).map λ(a:Nat)=>(List.range n).map λ(b:Nat)=>(Nat.min ((a+n-b)%n) ((b+n-a)%n):Nat)
def bT:Nat->List (bK)
 |0=>[[0,1,1,1,1],[1,0,1,1,1],[1,1,0,1,1],[1,1,1,0,1],[1,1,1,1,0]]|1=>rg 6|2=>rg 4|3=>[[0,1,1,2,2,2],[1,0,1,2,2,2],[1,1,0,2,2,2],[2,2,2,0,1,1],[2,2,2,1,0,1],[2,2,2,1,1,0]]|4=>[[0,1,1,2,1,2,2,3],[1,0,2,1,2,1,3,2],[1,2,0,1,2,3,1,2],[2,1,1,0,3,2,2,1],[1,2,2,3,0,1,1,2],[2,1,3,2,1,0,2,1],[2,3,1,2,1,2,0,1],[3,2,2,1,2,1,1,0]]|5=>[[0,1,2,3],[1,0,3,2],[2,3,0,1],[3,2,1,0]]|6=>[[0,1,1,1,1,2],[1,0,1,1,2,1],[1,1,0,2,1,1],[1,1,2,0,1,1],[1,2,1,1,0,1],[2,1,1,1,1,0]]|7=>[[0,1,1,2,3,3],[1,0,1,3,2,3],[1,1,0,3,3,2],[2,3,3,0,1,1],[3,2,3,1,0,1],[3,3,2,1,1,0]]|8=>[[0,1,2,1,3,3,3,3],[1,0,1,2,3,3,3,3],[2,1,0,1,3,3,3,3],[1,2,1,0,3,3,3,3],[3,3,3,3,0,1,2,1],[3,3,3,3,1,0,1,2],[3,3,3,3,2,1,0,1],[3,3,3,3,1,2,1,0]]|9=>rg 5|10=>rg 7|_=>rg 8
structure jF where
 n:Nat
 k:Nat
 z:bK
 s:List (bJ)
 w:bJ
 f:bK
 u:List (List (Int×Int))
 o:Option (bP)
noncomputable def HR (n:Nat)(z w:bK):Int:=let q:=(z.zip w).foldl (λq x=>(q.1 * x.1+x.2 * x.2 * q.2,q.2 * x.1)) ((0,1):Int×Int);(n:Int) * q.2/q.1
noncomputable def ot (a b:Int):Int×Int:=let g:Int:=(Nat.gcd a.natAbs b.toNat:Nat);(a/g,b/g)
noncomputable def dec (k N:Nat):List (bJ):=(List.range k).map λa=>(List.range k).map λb=>(List.range k).map λc=>((N/10 ^ (a * k * k+b * k+c)%10:Nat):Int)
def ct (n k:Nat)(z:bK)(s:List (bJ))(w:bJ)(o:Option (bP)):jF:=⟨n,k,z,s,w,w.map (HR n z),w.map λv=>(v.zip z).map λx=>ot (HR n z v * x.1) x.2,o⟩
def cz (n k:Nat)(z:bK)(N:Nat)(w:bJ)(o:Option (bP)):jF:=ct n k z (dec k N) w o
def Cz:List jF:=[cz 5 2 [1,4] 31104001 [[1,4],[1,-1]] (some [0,1]),cz 6 4 [1,2,2,1] 1002002001000001001011010010001001010010100101000020000200001 [[1,2,2,1],[1,1,-1,-1],[1,-1,-1,1],[1,-2,2,-1]] (some [0,1,2,3]),cz 6 4 [1,2,1,2] 1001001001101000002000012000010001101000100100102000010000200001 [[1,2,1,2],[1,1,-1,-1],[1,-1,1,-1],[1,-2,-1,2]] (some [0,1,3,2]),cz 6 4 [1,2,2,1] 1002002001000001000111100010001001100001100101000020000200001 [[1,2,2,1],[1,2,-2,-1],[1,-1,1,-1],[1,-1,-1,1]] (some [0,3,2,1]),cz 6 4 [1,1,2,2] 1001011001001000011010011000010002002000000100102000020000100001 [[1,1,2,2],[1,1,-1,-1],[1,-1,1,-1],[1,-1,-2,2]] (some [0,3,2,1]),cz 6 4 [1,2,1,2] 11001011001000002000012000010011001000001100102000010000200001 [[1,2,1,2],[1,2,-1,-2],[1,-1,1,-1],[1,-1,-1,1]] (some [0,2,1,3]),cz 6 4 [1,1,2,2] 101101001001000101001011000010002002000000100102000020000100001 [[1,1,2,2],[1,1,-1,-1],[1,-1,2,-2],[1,-1,-1,1]] (some [0,2,1,3]),cz 4 3 [1,2,1] 1020100010101010100020001 [[1,2,1],[1,0,-1],[1,-2,1]] (some [0,1,2]),cz 4 3 [1,1,2] 11100100200001010200010001 [[1,1,2],[1,1,-2],[1,-1,0]] (some [0,1,2]),cz 6 3 [1,2,3] 21200100300011010300020001 [[1,2,3],[1,2,-3],[1,-1,0]] none,cz 6 3 [1,3,2] 101030100020201010200030001 [[1,3,2],[1,0,-1],[1,-3,2]] none,cz 8 4 [1,3,3,1] 1003003001000001002011020010001001020020100101000030000300001 [[1,3,3,1],[1,1,-1,-1],[1,-1,-1,1],[1,-3,3,-1]] (some [0,1,2,3]),cz 8 4 [1,3,1,3] 2001001001201000003000013000010001201000200100103000010000300001 [[1,3,1,3],[1,1,-1,-1],[1,-1,1,-1],[1,-3,-1,3]] (some [0,1,3,2]),cz 8 4 [1,3,3,1] 1003003001000001000211200010001001200002100101000030000300001 [[1,3,3,1],[1,3,-3,-1],[1,-1,1,-1],[1,-1,-1,1]] (some [0,3,2,1]),cz 8 4 [1,1,3,3] 2001021001001000021020011000010003003000000100103000030000100001 [[1,1,3,3],[1,1,-1,-1],[1,-1,1,-1],[1,-1,-3,3]] (some [0,3,2,1]),cz 8 4 [1,3,1,3] 21001021001000003000013000010021001000002100103000010000300001 [[1,3,1,3],[1,3,-1,-3],[1,-1,1,-1],[1,-1,-1,1]] (some [0,2,1,3]),cz 8 4 [1,1,3,3] 201201001001000201002011000010003003000000100103000030000100001 [[1,1,3,3],[1,1,-1,-1],[1,-1,3,-3],[1,-1,-1,1]] (some [0,2,1,3]),cz 4 4 [1,1,1,1] 1001001001000001000011000010001001000000100101000010000100001 [[1,1,1,1],[1,1,-1,-1],[1,-1,1,-1],[1,-1,-1,1]] (some [0,1,2,3]),cz 6 3 [1,4,1] 1040100010121010100040001 [[1,4,1],[1,0,-1],[1,-2,1]] none,cz 6 3 [1,1,4] 211100100400001010400010001 [[1,1,4],[1,1,-2],[1,-1,0]] none,cz 8 4 [1,2,1,4] 121100020001000400000010020010040000010010100104000010000200001 [[1,2,1,4],[1,2,1,-4],[1,0,-1,0],[1,-2,1,0]] (some [0,3,1,2]),cz 8 4 [1,2,4,1] 1040000201000010010210200010000100400100100101000040000200001 [[1,2,4,1],[1,2,-4,1],[1,0,0,-1],[1,-2,0,1]] (some [0,3,2,1]),cz 8 4 [1,1,2,4] 211200010001000400000110100010040000200000100104000020000100001 [[1,1,2,4],[1,1,2,-4],[1,1,-2,0],[1,-1,0,0]] (some [0,1,2,3]),cz 8 4 [1,4,2,1] 1020000401000010010010040010000100020120100101000020000400001 [[1,4,2,1],[1,0,0,-1],[1,0,-2,1],[1,-4,2,1]] (some [0,1,2,3]),cz 8 4 [1,1,4,2] 11040010001000020020110100010020000400000100102000040000100001 [[1,1,4,2],[1,1,0,-2],[1,1,-4,2],[1,-1,0,0]] (some [0,2,3,1]),cz 8 4 [1,4,1,2] 101100000401000200000010040010000200010210100102000010000400001 [[1,4,1,2],[1,0,1,-2],[1,0,-1,0],[1,-4,1,2]] (some [0,2,3,1])]
noncomputable def Ix:List (Nat×List Nat×Nat):=[(0,[0],0),(1,[0,1,2],1),(1,[0,2,1],2),(1,[1,0,2],3),(1,[1,2,0],4),(1,[2,0,1],5),(1,[2,1,0],6),(2,[0,1],7),(2,[1,0],8),(3,[0,1],9),(3,[1,0],10),(4,[0,1,2],11),(4,[0,2,1],12),(4,[1,0,2],13),(4,[1,2,0],14),(4,[2,0,1],15),(4,[2,1,0],16),(5,[0,1,2],17),(5,[0,2,1],17),(5,[1,0,2],17),(5,[1,2,0],17),(5,[2,0,1],17),(5,[2,1,0],17),(6,[0,1],18),(6,[1,0],19),(7,[0,1,2],5),(7,[0,2,1],3),(7,[1,0,2],6),(7,[1,2,0],1),(7,[2,0,1],4),(7,[2,1,0],2),(8,[0,1,2],20),(8,[0,2,1],21),(8,[1,0,2],22),(8,[1,2,0],23),(8,[2,0,1],24),(8,[2,1,0],25)]
def Tp (i:Nat)(p:bP):bJ:=wO (bT i) p (List.range (bT i).length)
def W3 (i:Nat)(p:bP)(c:jF):Bool:=decide ((bT i).length=c.n)&&YS (Tp i p)&&Tf (Tp i p)&&decide (qK (Tp i p)=(c.k:Int))&&decide (QI (Tp i p) c.k=c.z)&&decide (c.s.length=c.k)&&
 (List.range c.k).all λk=>let m:=SH (Tp i p) (k:Int);decide (m/c.n<c.n)&&decide (m%c.n<c.n)&&decide (at2 (Tp i p) (m/c.n) (m%c.n)=(k:Int))&&decide (jY (Tp i p) c.k (m/c.n) (m%c.n)=c.s.getD k [])
def rz (i:Nat)(p:bP):jF:=
 let t:=Tp i p
 let K:=(qK t).toNat
 let s:=(List.range K).map λ(k:Nat)=>let m:=SH t (k:Int);jY t K (m/t.length) (m%t.length)
 ct t.length K (QI t K) s (w6 s (QI t K) (K-1)) none
theorem ou:(Ix.all λq=>match Cz[q.2.2]? with
  |some c=>W3 q.1 q.2.1 c|none=>false)=true:=by decide +kernel
noncomputable def gJ (m:Nat):Nat->List (bP)
 |0=>[[]]|k+1=>(List.range m).flatMap λx=>(gJ m k).map λl=>x::l
theorem Mg {m:Nat}:∀(l:bP),(∀x∈l,x<m)->l∈gJ m l.length
 |[],_=>cw.mpr rfl|x::l,h=>List.mem_flatMap.mpr ⟨x,cj.mpr (h x (aB ..)),cu.mpr ⟨l,Mg l λy H=>h y (au _ H),rfl⟩⟩
def LK:((List.range 9).all λi=>YS (bT i)&&(gJ (qK (bT i)-1).toNat (qK (bT i)-1).toNat).all λl=>!decide l.Nodup || Ix.any λc=>c.1==i&&c.2.1==l)=true:=by decide +kernel
section
variable {u v:bJ}{p o:bP}{a b d e K:Nat}{c:jF}
def JP (ho:o.Perm (List.range n))(H:a<n):o.getD a 0<n:=by
 have h:o.length=n:=by rw[ho.length_eq,aM]
 rw[aa,ae (by omega)]
 exact cj.mp (ho.mem_iff.mp (aJ _))
def IA (ho:o.Perm (List.range n))(c:a<n):∃b,b<n/\o.getD b 0=a:=by
 have h:o.length=n:=by rw[ho.length_eq,aM]
 obtain⟨i,H,e⟩:=bb (ho.mem_iff.mpr (cj.mpr c));exact⟨i,by omega,by rw[aa,ae H];exact e⟩
structure Pl (v u:bJ)(o:bP):Prop where
 hl:u.length=v.length
 ho:o.Perm (List.range v.length)
 at_:∀a b,a<v.length->b<v.length->at2 u a b=at2 v (o.getD a 0) (o.getD b 0)
def L4 (h:Pl v u o)(g:a<v.length)(f:b<v.length):(wI u a b).Perm (wI v (o.getD a 0) (o.getD b 0)):=by
 have H:o.length=v.length:=by rw[h.ho.length_eq,aM]
 unfold wI;rw[h.hl];have E:(List.range v.length).map (λc=>(at2 u a c,at2 u b c))=(List.range v.length).map λc=>(at2 v (o.getD a 0) (o.getD c 0),at2 v (o.getD b 0) (o.getD c 0)):=aX λc d=>by
  rw[h.at_ a c g (cj.mp d),h.at_ b c f (cj.mp d)]
 rw[E];have e:=QK o 0 λc=>(at2 v (o.getD a 0) c,at2 v (o.getD b 0) c);rw[H]at e;rw[<- e];exact h.ho.map _
def AI (H:qQ u)(h:qQ v)(f:a<u.length)(c:b<u.length)(hd:d<v.length)(he:e<v.length)(q:(wI u a b).Perm (wI v d e)):jY u K a b=jY v K d e:=by
 unfold jY kY;refine aX λi _=>aX λj _=>?_;rw[Ye H f c _ (aq _),Ye h hd he _ (aq _)]
 have:=q.count_eq ((i:Int),(j:Int))
 unfold wI at this;rw[this]
theorem Mw (k:Int):∀l:bK,(l.map λx=>(x,x)).count (k,k)=l.count k
 |[]=>rfl|x::l=>by
  rw[aS,count_cons,count_cons,Mw k l]
  by_cases h:x=k
  ·subst h;simp
  ·simp[h]
def MV (h:qQ t)(k:Int):(t.getD 0 []).count k=(wI t 0 0).count (k,k):=by
 have H:(t.getD 0 []).length=t.length:=h.sq _ (yZ h.n1);have e:=QK (t.getD 0 []) 0 λx=>(x,x);rw[H]at e;rw[<- Mw k,e]
 rfl
def ox (h:Pl v u o)(f:qQ u)(d:qQ v):qK u=qK v:=by
 apply Int.le_antisymm
 ·obtain⟨a,b,c,H,e⟩:=Xe f.sq (KP f)
  rw[h.hl]at c H;rw[h.at_ a b c H]at e
  have:=Wb d (JP h.ho c) (JP h.ho H)
  omega
 ·obtain⟨x,y,i,g,e⟩:=Xe d.sq (KP d)
  obtain⟨a,c,rfl⟩:=IA h.ho i;obtain⟨b,H,rfl⟩:=IA h.ho g;rw[<- h.at_ a b c H]at e
  have:=Wb f (by rw[h.hl];exact c) (by rw[h.hl];exact H)
  omega
structure In (c:jF)(u:bJ):Prop where
 tab:qQ u
 len:u.length=c.n
 kd:qK u=(c.k:Int)
 sd:Zt u c.k=[]
 sh:∀a b,a<u.length->b<u.length->jY u c.k a b=c.s.getD (at2 u a b).toNat []
 sz:QI u c.k=c.z
 sl:c.s.length=c.k
def Ij {c:jF}(hT:qQ (bT i))(t:p.Perm (List.range (qK (bT i)-1).toNat))(ho:o.Perm (List.range (bT i).length))(g:W3 i p c=true):In c (wO (bT i) p o):=by
 unfold W3 at g;rw[ah,ah,ah,ah,ah,ah,ai,ai,ai,ai,aT]at g;obtain⟨⟨⟨⟨⟨⟨x,K⟩,J⟩,B⟩,I⟩,D⟩,E⟩:=g;have v:=KR K;obtain⟨u,hl⟩:=Nk hT t ho;have e:(Tp i p).length=(bT i).length:=(Nk hT t (List.Perm.refl _)).2;have h:Pl (Tp i p) (wO (bT i) p o) o:=⟨by rw[hl,e],by rw[e];exact ho,λa b d H=>by
  rw[e]at d H;have g1:=JP ho d;have g2:=JP ho H;unfold Tp;rw[NQ ho d H,NQ (List.Perm.refl _) g1 g2,aa (l:=List.range _),aY g1,aa (l:=List.range _),aY g2]
  rfl⟩
 have r:=Bc J;have s:=An (f:=id) h.hl h.ho (λa b d H=>h.at_ a b d H) (λ_ _ _ _ _ _ _ _ z=>z) r;refine⟨u,hl.trans x,(ox h u v).trans B,Au u s,λa b d H=>?_,?_,D⟩
 ·rw[h.hl]at d H
  have j:=h.ho;have hn:(Tp i p).length=c.n:=e.trans x;have g1:=JP j d;have g2:=JP j H;have kn:=TN v B g1 g2;have w:=E _ (cj.mpr kn.2);dsimp only at w;rw[ah,ah,ah,ai,ai,ai,ai]at w;obtain⟨⟨⟨C,A⟩,y⟩,Q⟩:=w;rw[AI u v (by rw[h.hl];exact d) (by rw[h.hl];exact H) g1 g2 (L4 h d H),h.at_ a b d H,<- Q]
  exact NL v r g1 g2 (by rw[hn];exact C) (by rw[hn];exact A) (by rw[y];exact kn.1.symm)
 ·rw[<- I]
  unfold QI;refine aX λk _=>?_;have n1:0<(Tp i p).length:=v.n1;have q:=JP h.ho n1;rw[MV u,MV v,((L4 h n1 n1).trans (r _ _ _ _ q q n1 n1 (by rw[(v.dg _ _ q q).mpr rfl,(v.dg _ _ n1 n1).mpr rfl]))).count_eq]
def Hf {m:Nat}(H:p.Perm (List.range m)):p∈gJ m m:=by
 have h:p.length=m:=by rw[H.length_eq,aM]
 have:=Mg (m:=m) p λx a=>cj.mp (H.mem_iff.mp a)
 rwa[h]at this
def in_of (g:i<9)(a:p.Perm (List.range (qK (bT i)-1).toNat))(ho:o.Perm (List.range (bT i).length)):∃c∈Cz,In c (wO (bT i) p o):=by
 have P:=cn.mp LK i (cj.mpr g);rw[ah,aT]at P;have hm:=Hf a;have d:=P.2 p hm;rw[bj,not_eq_true',decide_eq_false_iff_not]at d;obtain⟨q,f,e⟩:=List.any_eq_true.mp (d.resolve_left λz=>z ((a.nodup_iff).mpr nodup_range));rw[ah,aH,aH]at e;obtain⟨rfl,rfl⟩:=e;have H:=cn.mp ou q f;cases h:Cz[q.2.2]? with
 |none=>rw[h]at H;cases H|some c=>
 rw[h]at H;have j:=bg h;refine⟨c,j,?_⟩;have b:W3 q.1 q.2.1 c=true:=H;exact Ij (KR P.1) a ho b
end
noncomputable abbrev As:=List (List W×(W ⊕ List W))
def oL (l:As)(f:Fn):Fn:=ov (λus=>(l.find? λp=>kG p.1 us).map (·.2)) f
def Iw {l:As}{t:W}(h:∀p∈l,∀A,f (t::p.1) A=JK p.2 A)(us:List W)(A:Hx):f (t::us) A=oL l f (t::us) A:=oo (λus r A e=>by
 cases hf:l.find? (λp=>kG p.1 us) with
 |none=>rw[hf]at e;cases e|some p=>
  rw[hf]at e;cases e;have E:=List.find?_some hf;rw[<- Yt (a:=p.1) (b:=us) E];exact h p (List.mem_of_find?_eq_some hf) A) us A
def Vj:R W->W ⊕ List W->Bool
 |.ok w _,.inl v=>w.nr&&w.beq v|.ok (.ref n) A,.inr ws=>(match A[n]? with
  |some (.lst xs)=>qO xs&&kG xs ws|_=>false)
 |_,_=>false
def ku {us:List W}{r:W ⊕ List W}(H:qO us=true)(h:Vj (f us []) r=true)(A:Hx):iso f us A=JK r A:=by
 unfold iso;rw[aj H];cases hf:f us [] with
 |ok w A1=>
  rw[hf]at h;cases r with
  |inl v=>
   have h':(w.nr&&w.beq v)=true:=h;rw[ah]at h';have e:=W.eq_of h'.2;subst e;cases w with
   |ref n=>cases h'.1|_=>
    dsimp only;rw[aj h'.1]
    rfl
  |inr ws=>
   cases w with
   |ref n=>
    have h':(match A1[n]? with|some (.lst xs)=>qO xs&&kG xs ws|_=>false)=true:=h
    dsimp only;cases e:A1[n]? with
    |none=>rw[e]at h';cases h'|some o=>
     rw[e]at h';cases o with
     |lst xs=>
      dsimp only at h' ⊢;rw[ah]at h';rw[aj h'.1,Yt h'.2]
      rfl
     |_=>cases h'
   |_=>cases h
 |exc x A1=>rw[hf]at h;cases h|bad=>rw[hf]at h;cases h
noncomputable def Jb (n:Nat)(r:Nat->W):W:=.tup ((List.range n).map r)
def YX (l:As)(f:Fn)(t:W):Bool:=l.all λp=>qO p.1&&Vj (f (t::p.1) []) p.2
section
variable {c:jF}{u:bJ}
def tab_of (h:In c u):zo u=Jb c.n λi=>zu (u.getD i []):=by
 unfold zo Jb;rw[QK u [] zu,h.len]
def WY {l:jF->As}{f:Fn}{R':jF->Fn}(lk:∀r,Cz.all (λc=>YX (l c) (R' c) (Jb c.n r))=true)(b:c∈Cz)(H:In c u)(C:∀us A,f (zo u::us) A=R' c (zo u::us) A)(us:List W)(A:Hx):iso f (zo u::us) A=oL (l c) (iso f) (zo u::us) A:=Iw (λp a A=>by
 have h:=cn.mp (cn.mp (lk λi=>zu (u.getD i [])) c b) p a;rw[<- tab_of H,ah,<- C]at h;refine ku ?_ h.2 A;show((zo u).nr&&qO p.1)=true;rw[ZE,h.1]
 rfl) us A
noncomputable abbrev lz (c:jF):As:=[([],.inr (c.z.map W.int))]
def Tt {r:W ⊕ List W}{t:W}(h:∀A,f [t] A=JK r A):∀us A,f (t::us) A=oL [([],r)] f (t::us) A:=Iw λp H A=>by
 rw[cw.mp H];exact h A
def Rt (h:In c u):∀us A,Za (zo u::us) A=oL (lz c) Za (zo u::us) A:=Tt λA=>by rw[M8 h.tab h.kd A,h.sz];rfl
abbrev lw (c:jF):As:=[([],.inr (c.w.map zu))]
noncomputable def S9 (K:Nat)(S:List (bJ)):Bool:=S.length==K&&S.all λt=>t.length==K&&t.all λq=>q.length==K&&q.all λv=>decide (0<=v)&&decide (v<100)
def SV {K:Nat}{S:List (bJ)}(h:S9 K S=true):Wf K S:=by
 unfold S9 at h;rw[ah,aH,aT]at h;have h2:∀t∈S,t.length=K/\∀q∈t,q.length=K/\∀v∈q,0<=v/\v<100:=λt H=>by
  have:=h.2 t H
  rw[ah,aH,aT]at this;refine⟨this.1,λq a=>?_⟩
  have:=this.2 q a
  rw[ah,aH,aT]at this;refine⟨this.1,λv b=>?_⟩
  have:=this.2 v b
  rwa[ah,ai,ai]at this
 refine⟨h.1,λt H=>(h2 t H).1,λt H q a=>((h2 t H).2 q a).1,λt H i j=>?_⟩;unfold at2
 by_cases hi:i<t.length
 ·by_cases c:j<(t.getD i []).length
  ·refine((h2 t H).2 _ (yZ hi)).2 _ ?_
   rw[aa (l:=t.getD i []),ae c];exact aJ _
  ·rw[aa (l:=t.getD i []),aA (by omega)]
   decide
 ·rw[aa (l:=t),aA (by omega)]
  show 0<=(0:Int)/\(0:Int)<100;omega
def gy (c:jF):Bool:=S9 c.k c.s&&(decide (c.z.length=c.k)&&c.z.all (λv=>decide (1<=v))&&decide (c.z.sum<=8)&&decide (c.z.getD 0 0=1))&&decide (w6 c.s c.z (c.k-1)=c.w)
def Vb:Cz.all gy=true:=by decide +kernel
def Hi (H:gy c=true)(h:In c u):∀us A,gA (zo u::us) A=oL (lw c) gA (zo u::us) A:=Tt λA=>by
 unfold gy at H;rw[ah,ah,ah,ah,ah,ai,aT,ai,ai,ai]at H;obtain⟨⟨i,⟨⟨g,f⟩,e⟩,B⟩,b⟩:=H;have kb:=ZM h.tab;have K:=Tj h.tab;have n8:=h.tab.n8;have kd:=h.kd;have d:Dt u c.k c.s c.z:=⟨h.tab,h.kd,h.sd,λA=>by rw[Ak (S:=λk=>c.s.getD k []) h.tab h.kd h.sh A,QK c.s [] zo,h.sl],λA=>by rw[M8 h.tab h.kd A,h.sz],SV i,⟨g,λv a=>of_decide_eq_true (f v a),e,B⟩,by omega,by omega⟩
 rw[oh d A,b]
 rfl
def oy (H:c∈Cz)(h:In c u):∀us A,gA (zo u::us) A=oL (lw c) gA (zo u::us) A:=Hi (cn.mp Vb c H) h
def IZ (H:gy c=true)(h:In c u):Y6 [zo u] A=.ok (.bl (decide (c.w.length=c.k))) (A++[.lst (c.w.map zu)]):=by
 refine m4 ?_;unfold VE;refine(zL (ZH (cv rfl (nM h.tab h.kd h.sd A)))).trans ?_;have a:gA [zo u] A=.ok (.ref A.length) (A++[.lst (c.w.map zu)]):=(Hi H h [] A).trans rfl;have E:mQ qc (zN (zH gA (zh zr zm))) [some (zo u)] A=.ok (.int (c.w.length:Int)) (A++[.lst (c.w.map zu)]):=by
  refine(yB (kx (cv rfl a) (by unfold zX;dsimp only;rw[jm]))).trans ?_
  unfold qc;rw[ak]
 refine K5 (jb (jM ((z7 E (cv rfl (KZ h.tab _))).trans ?_)));rw[h.kd,gU]
 congr 2
 by_cases e:c.w.length=c.k
 ·rw[e];simp
 ·rw[aK e,aK (by omega)]
def rw_T (H:gy c=true)(h:In c u)(hw:c.w.length=c.k):Z1 [zo u] A=.ok .non (A++[.lst (c.w.map zu)]):=by
 refine U2 (ρ:=[some (zo u)]) ?_;unfold Ge;have e:=IZ (A:=A) H h;rw[aI hw]at e;exact(zL ((yP (gD (cv rfl e))).trans jk)).trans jk
def rw_X (H:gy c=true)(h:In c u)(hw:c.w.length≠c.k):Z1 [zo u] A=.exc "NotWhole" (A++[.lst (c.w.map zu)]):=by
 refine Jq ?_;unfold Ge;have e:=IZ (A:=A) H h;rw[aK hw]at e;exact ZA ((gn (gD (cv rfl e))).trans (ZA rfl))
def rw_E {w:W}(h:Jg [w] A=.exc x A1):Z1 [w] A=.exc x A1:=by
 refine Jq ?_;unfold Ge;have e:Y6 [w] A=.exc x A1:=by
  refine Jq ?_;unfold VE;exact ZA (Ta (cv rfl h))
 refine ZA ?_;unfold jf yi;rw[cv rfl e]
 rfl
end
theorem NM:∀{ps:List (Nat×List W)},(∀p∈ps,A[p.1]? =some (.lst p.2)/\qO p.2=true)->Ql A (ps.map λp=>W.ref p.1)=some ps
 |[],_=>rfl|p::ps,h=>by
  obtain⟨h1,h2⟩:=h p (aB ..);have i:Ql A (ps.map λp=>W.ref p.1)=some ps:=NM λq H=>h q (au _ H);rw[aS];unfold Ql;rw[h1];dsimp only;rw[aj h2,i]
  rfl
def oz {us:List W}{ps:List (Nat×List W)}(h:qO us=true)(hf:f us []=.ok (.ref n) A1)(hn:A1[n]? =some (.lst (ps.map λp=>W.ref p.1)))
  (H:∀p∈ps,A1[p.1]? =some (.lst p.2)/\qO p.2=true)(nd:(ps.map (·.1)).Nodup):JH f us A=.ok (.ref (A.length+ps.length)) (A++ps.map (λp=>O.lst p.2)++[Zj A.length ps.length]):=by
 unfold JH;rw[aj h,hf];dsimp only;rw[hn];dsimp only;rw[NM H];dsimp only;rw[aj nd]
def oA {a b:Ev}{A2:Hx}{y:W}(H:a ρ A=.ok (.ref n) A1)(c:A1[n]? =some (.lst ws))(h:b ρ A1=.ok y A2):jj g a b ρ A=g (.ref n) y A2:=by
 unfold jj;have hl:Ja (.ref n) A1=true:=by unfold Ja;dsimp only;rw[c]
 rw[H,zT,aj hl,h,zT]
section
variable {a b k K:Nat}
abbrev fs (t:bJ)(a b:Nat)(x3 x4 x5 x6 x7:Option W):En:=[some (zo t),iO a,iO b,x3,x4,x5,x6,x7]
def JX (t:bJ)(a b i j:Nat):Int:=shr t a b t.length i j
abbrev cE:Ev:=jj QX (qY (zU 1 [0,1,2,5,7] (qN (mQ qc (zN zr))) (zE 0) qa (zR (j0 (zi jB (zi zB (zi zB zt zK) zr) qd) (zi jB (zi zB (zi zB zt zP) zr) jq))))) qa
theorem Lh (p:Nat->Bool):∀(l:bP),(l.map λc=>W.bl (p c)).countP (λw=>JQ w (.bl true))=l.countP p
 |[]=>rfl|x::l=>by
  rw[aS,bE,bE,Lh p l]
  congr 2
  cases p x<;>rfl
def oB (h:qQ t)(f:a<t.length)(e:b<t.length){y4 y6:Option W}{x3:Option W}:∃l,cE (fs t a b x3 y4 (iO i) y6 (iO j)) A=.ok (.int (JX t a b i j)) (A++[.lst l]):=by
 have n8:=h.n8;generalize H:(fs t a b x3 y4 (iO i) y6 (iO j))=ρ;have E:=gC (cap:=[0,1,2,5,7]) (mi:=qN (mQ qc (zN zr))) (ρ:=ρ) (A:=A) (N:=t.length) (item:=λc=>.int (0+(c:Int))) (g:=λc=>.bl (decide (at2 t a c=(i:Int))&&decide (at2 t b c=(j:Int))))
  (me:=j0 (zi jB (zi zB (zi zB zt zK) zr) qd) (zi jB (zi zB (zi zB zt zP) zr) jq))
  (wm (len_tab (by rw[<- H];rfl)) (Kv (by omega))) (by rw[aG];rfl) (by unfold qj;omega) (λc d=>by rw[aG];exact kf d) (by rw[aG];exact yY (by omega))
  (λc d=>by
   rw[<- H,Int.zero_add];exact XN ((z7 (Ve h (zy rfl) (zy rfl) (zy rfl) f d) (zy rfl)).trans (gU _ _ _)) ((z7 (Ve h (zy rfl) (zy rfl) (zy rfl) e d) (zy rfl)).trans (gU _ _ _)))
 refine⟨(List.range t.length).map λc=>W.bl (decide (at2 t a c=(i:Int))&&decide (at2 t b c=(j:Int))),(oA (ko E) jm qy).trans ?_⟩;unfold QX;dsimp only;rw[jm];dsimp only;rw[aj]
 ·congr 2
  rw[G3,Lh,zero_add];unfold JX;rw[Ye h f e _ (aq _)]
  congr 1
  rw[List.count,List.countP_map];refine List.countP_congr λc _=>?_;simp only[Function.comp,ah,ai,aH,Prod.mk.injEq]
 ·rw[ah,aT]
  refine⟨rfl,λw hw=>?_⟩;obtain⟨c,_,rfl⟩:=cu.mp hw
  rfl
def oC (h:qQ t)(S:qK t=(K:Int))(Q:a<t.length)(P:b<t.length)(A:Hx):Ki [zo t,.int (a:Int),.int (b:Int)] A=.ok (.ref (A.length+K)) (A++((jY t K a b).map λr=>O.lst (r.map W.int))++[Zj A.length K]):=by
 have kb:=ZM h;have kl:=Tj h;have n8:=h.n8;have kn:jH (K:Int)=true:=Kv (by omega)
 obtain⟨z,B,e,ps,n,y6,Y,rfl,g1,g2,g3,o⟩:=wk (j:=ye 0 K) (st:=turn (zE 5) (zj (zM 6 (qi zm)) (zj (qF (qN zP) (zE 7) (zj (jx (jj jS jZ cE)) zx)) (zj (jx (jj jS qd jZ)) zx)))) (N:=K)
  (I:=λi ρ A=>∃(ps:List (Nat×List W)) (n y6 Y:Option W),ρ=(fs t a b (iO K) (rO 0) n y6 Y)/\A[0]? =some (.lst (ps.map λp=>W.ref p.1))/\ps.map (·.2)=(List.range i).map (λi=>(List.range K).map λj=>W.int (JX t a b i j))/\(ps.map (·.1)).Nodup/\∀p∈ps,0<p.1/\p.1<A.length/\A[p.1]? =some (.lst p.2))
  (λi ρ A M ⟨ps,n,y6,Y,c,g1,g2,g3,o⟩=>by
   subst c;have g:=yD g1;refine⟨.int (0+(i:Int)),?_⟩;rw[Int.zero_add];obtain⟨ρ1,B,e1,s,rfl,k1,k2,k3⟩:=wk (j:=ye 0 K) (st:=turn (zE 7) (zj (jx (jj jS jZ cE)) zx)) (N:=K)
    (I:=λj ρ B=>∃Y,ρ=(fs t a b (iO K) (rO 0) (iO i) (rO A.length) Y)/\B[A.length]? =some (.lst ((List.range j).map λj=>W.int (JX t a b i j)))/\(∀q,q<A.length->B[q]? =A[q]?)/\A.length<B.length)
    (λj ρ B L ⟨Y,c,k1,k2,k3⟩=>by
     subst c;obtain⟨l,U⟩:=oB (A:=B) (i:=i) (j:=j) h Q P (y4:=rO 0) (y6:=rO A.length) (x3:=iO K);refine⟨.int (0+(j:Int)),(fs t a b (iO K) (rO 0) (iO i) (rO A.length) (iO j)),(B++[O.lst l]).set A.length (O.lst ((List.range (j+1)).map λj=>W.int (JX t a b i j))),kf L,?_,_,rfl,?_,λq v=>?_,?_⟩
     ·rw[Int.zero_add]
      refine(yz rfl).trans ((zL (ZH (w:=.non) ((Jr (zy rfl) k1 U).trans ((KA (jR k1) (by simp;omega)).trans ?_)))).trans jk)
      rw[a6,aO]
      rfl
     ·exact aC (by simp;omega)
     ·rw[az (by omega),ag (by omega)]
      exact k2 q v
     ·simp;omega)
    (λρ B _=>yY (by omega)) K 0 (fs t a b (iO K) (rO 0) (iO i) (rO A.length) Y) (A++[O.lst []]) (by omega) ⟨Y,rfl,jm,λq v=>ag v,by simp⟩
   have E:B[0]? =some (.lst (ps.map λp=>W.ref p.1)):=(k2 0 g).trans g1;have d:ps.length=i:=by have:=congrArg List.length g2;simpa using this
   refine⟨(fs t a b (iO K) (rO 0) (iO i) (rO A.length) s),B.set 0 (O.lst ((ps++[(A.length,(List.range K).map λj=>W.int (JX t a b i j))]).map λp=>W.ref p.1)),(kf M).trans (by rw[Int.zero_add]),?_,ps++[(A.length,(List.range K).map λj=>W.int (JX t a b i j))],_,_,_,rfl,?_,?_,?_,λp H=>?_⟩
   ·refine(yz rfl).trans ((zL ((jd (j6 qE)).trans rfl)).trans ((zL ((ym (wm (zy rfl) kn)).trans ?_)).trans ((zL (ZH (w:=.non) ((Jr (zy rfl) E (zy rfl)).trans ((KA E (by simp;omega)).trans ?_)))).trans jk)))
    ·rw[aG]
     exact e1
    ·rw[aO]
     rfl
   ·exact aC (by omega)
   ·rw[aO,g2,a6,aO]
    rfl
   ·rw[aO,List.nodup_append]
    refine⟨g3,by simp,λx u y D=>?_⟩
    obtain⟨p,H,rfl⟩:=cu.mp u
    have:=(o p H).2.1
    have C:y=A.length:=by simpa using D
    omega
   ·rcases cx.mp H with H|H
    ·obtain⟨f1,f2,T⟩:=o p H
     refine⟨f1,by simp;omega,?_⟩
     rw[az (by omega),k2 _ f2]
     exact T
    ·rw[cw.mp H]
     refine⟨g,by simp;omega,?_⟩
     show(B.set 0 _)[A.length]? =_;rw[az (by omega)]
     exact k1)
  (λρ B _=>yY (by omega)) K 0 (fs t a b (iO K) (rO 0) none none none) [O.lst []] (by omega) ⟨[],none,none,none,rfl,rfl,rfl,List.nodup_nil,λp H=>by cases H⟩
 have d:ps.length=K:=by have:=congrArg List.length g2;simpa using this
 have J:Gk [zo t,.int (a:Int),.int (b:Int)] []=.ok (.ref 0) B:=by
  refine jC ?_;unfold Pr;refine(zL ((jd (cv rfl ((Ud h []).trans (by rw[S])))).trans rfl)).trans ((zL ((jd (j6 qE)).trans rfl)).trans ((zL (ρ1:=(fs t a b (iO K) (rO 0) n y6 Y)) (A1:=B) ((ym (wm (k:=(K:Int)) (zy rfl) kn)).trans ?_)).trans (jb (jM (zy rfl)))))
  rw[aG];exact e
 have u:=oz (A:=A) (f:=Gk) (us:=[zo t,.int (a:Int),.int (b:Int)]) (ps:=ps) (by show((zo t).nr&&_)=true;rw[ZE];rfl) J g1 (λp H=>⟨(o p H).2.2,?_⟩) g3
 ·unfold Ki
  have Z:ps.map (λp=>O.lst p.2)=(jY t K a b).map λr=>O.lst (r.map W.int):=by
   have X:ps.map (λp=>O.lst p.2)=(ps.map (·.2)).map O.lst:=by rw[a3];rfl
   rw[X,g2];unfold jY kY;rw[a3,a3];refine aX λi _=>?_;show O.lst _=O.lst _;rw[a3]
   rfl
  rw[u,d,Z]
 ·have:p.2∈ps.map (·.2):=cu.mpr ⟨p,H,rfl⟩
  rw[g2]at this;obtain⟨i,_,e⟩:=cu.mp this;rw[<- e];exact ZF (λ_=>rfl) _
end
noncomputable def Zm (n K k:Nat):List W:=(List.range k).map λi=>W.ref (n+1+i * (K+1)+K)
def gz (s:List (bJ))(K n k:Nat):Hx:=(List.range k).flatMap λi=>(s.getD i []).map (λr=>O.lst (r.map W.int))++[Zj (n+1+i * (K+1)) K]
def jU (s:List (bJ))(K:Nat)(A:Hx)(k:Nat):Hx:=A++.lst (Zm A.length K k)::gz s K A.length k
section
variable {s:List (bJ)}{K k a b:Nat}{u:bJ}
theorem U9 (H:∀i,i<K->(s.getD i []).length=K):∀k,k<=K->(gz s K n k).length=k * (K+1)
 |0,_=>by simp[gz]|k+1,h=>by
  have I:(gz s K n k).length=k * (K+1):=U9 H k (by omega)
  unfold gz at I ⊢;rw[a6,aZ,av,I]
  have:=H k (by omega)
  simp only[flatMap_cons,flatMap_nil,a7,av,ak,bo,length_nil,this];rw[succ_mul]
def Xb (h:∀i,i<K->(s.getD i []).length=K)(H:k<=K):(jU s K A k).length=A.length+1+k * (K+1):=by
 unfold jU;rw[av,bo,U9 h k H];omega
def Xn:(jU s K A k)[A.length]? =some (.lst (Zm A.length K k)):=by
 unfold jU;rw[ar (aq _),sub_self]
 rfl
def U3:(Zm n K k).length=k:=by simp[Zm]
def oD (h:∀i,i<K->(s.getD i []).length=K)(H:k<K):(jU s K A k++(s.getD k []).map (λr=>O.lst (r.map W.int))++[Zj (jU s K A k).length K]).set A.length (.lst (Zm A.length K k++[W.ref ((jU s K A k).length+K)]))=jU s K A (k+1):=by
 rw[Xb h (bz H)];unfold jU;rw[aN,aN,List.set_append_right _ _ (aq _),sub_self]
 congr 1
 show O.lst _::(gz s K A.length k++_)=_;have E:Zm A.length K (k+1)=Zm A.length K k++[W.ref (A.length+1+k * (K+1)+K)]:=by
  unfold Zm;rw[a6,aO]
  rfl
 have e:gz s K A.length (k+1)=gz s K A.length k++((s.getD k []).map (λr=>O.lst (r.map W.int))++[Zj (A.length+1+k * (K+1)) K]):=by
  unfold gz;rw[a6,aZ];simp
 rw[E,e]
abbrev fo (u:bJ)(n:Nat)(x2 x3 x4:Option W):En:=[some (zo u),rO n,x2,x3,x4]
def NS (u:bJ)(s:List (bJ))(K k:Nat)(A:Hx)(p:Nat)(B:Hx):Prop:=
 (B=jU s K A k/\∀a b,a<u.length->b<u.length->a * u.length+b<p->at2 u a b≠(k:Int))∨B=jU s K A (k+1)
abbrev Vi:Ex:=zj (jf (j0 (zi jB (mQ qc (zN zt)) zK) (zi jB (zi zB (zi zB zr zP) qd) zK)) (zj (jx (jj jS zt (zH Ki (zh zr (zh zP (zh qd zm)))))) zx) zx) zx
def KU {r:Nat}(h:ρ[i]? =some (rO r))(hB:B[r]? =some (.lst ws)):mQ qc (zN (qh i)) ρ B=.ok (.int (ws.length:Int)) B:=
 (yB (kx (zy h) (by unfold zX;dsimp only;rw[hB]))).trans rfl
def oE (h:qQ u)(q:qK u=(K:Int))(o:∀i,i<K->(s.getD i []).length=K)(sh:∀a b,a<u.length->b<u.length->jY u K a b=s.getD (at2 u a b).toNat [])(p:k<K)(n:a<u.length)(d:b<u.length)(N:NS u s K k A (a * u.length+b) B):
  ∃C,Vi (fo u A.length (iO k) (iO a) (iO b)) B=.ok (.nx (fo u A.length (iO k) (iO a) (iO b))) C/\NS u s K k A (a * u.length+b+1) C:=by
 have kb:=ZM h;rcases N with ⟨rfl,hn⟩|rfl
 ·have E:=KU (ρ:=(fo u A.length (iO k) (iO a) (iO b))) (i:=1) rfl (Xn (s:=s) (K:=K) (A:=A) (k:=k))
  rw[U3]at E;have f:=(z7 E (zy (i:=2) rfl)).trans (gU (k:Int) (k:Int) (jU s K A k));have x:=(z7 (Ve h (zy (i:=0) rfl) (zy (i:=3) rfl) (zy (i:=4) rfl) n d) (zy (ρ:=(fo u A.length (iO k) (iO a) (iO b))) (i:=2) rfl)).trans (gU (at2 u a b) (k:Int) (jU s K A k));have c:=XN f x;rw[aI rfl,Bool.true_and]at c
  by_cases v:at2 u a b=(k:Int)
  ·rw[aI v]at c
   refine⟨jU s K A (k+1),(zL ((gn c).trans ((zL (ZH (w:=.non) ((Jr (zy rfl) Xn ((jt (zS (zy rfl) (zS (zy rfl) (zS (zy rfl) qE)))).trans (oC h q n d _))).trans ?_))).trans jk))).trans jk,.inr rfl⟩;rw[sh a b n d,v,aG];refine(KA (Ext.at (A':=_) ⟨_,rfl⟩ (Ext.at (A':=_) ⟨_,rfl⟩ (Xn (s:=s) (K:=K) (A:=A) (k:=k)))) (by rw[U3];omega)).trans ?_
   rw[oD o p]
  ·rw[aK v]at c
   refine⟨jU s K A k,(zL ((yP c).trans jk)).trans jk,.inl ⟨rfl,λj g l H z=>?_⟩⟩
   by_cases e:j * u.length+g<a * u.length+b
   ·exact hn j g l H e
   ·have y:j * u.length+g=a * u.length+b:=by omega
    have t:j=a:=by
     have h1:=congrArg (· / u.length) y
     rwa[mul_comm,Nat.mul_add_div (by omega),Nat.div_eq_of_lt H,mul_comm a,Nat.mul_add_div (by omega),Nat.div_eq_of_lt d]at h1
    subst t;have r:g=b:=by omega
    subst r;exact v
 ·have E:=KU (ρ:=(fo u A.length (iO k) (iO a) (iO b))) (i:=1) rfl (Xn (s:=s) (K:=K) (A:=A) (k:=k+1))
  rw[U3]at E;have f:=(z7 E (zy (i:=2) rfl)).trans (gU ((k+1:Nat):Int) (k:Int) (jU s K A (k+1)));rw[aK (by omega)]at f
  exact⟨_,(zL ((yP (K8 f)).trans jk)).trans jk,.inr rfl⟩
def Ib (h:qQ u)(l:qK u=(K:Int))(q:∀i,i<K->(s.getD i []).length=K)(sh:∀a b,a<u.length->b<u.length->jY u K a b=s.getD (at2 u a b).toNat [])(A:Hx):QL [zo u] A=.ok (.ref A.length) (jU s K A K):=by
 have kb:=ZM h;have n8:=h.n8;have kn:jH (K:Int)=true:=Kv (by omega)
 have nn:jH (u.length:Int)=true:=Kv (by omega)
 obtain⟨o,B,e,Y,y,y4,rfl,rfl⟩:=wk (j:=ye 0 K) (st:=turn (zE 2) (zj (qF (qN (mQ qc (zN zr))) (zE 3) (zj (qF (qN (mQ qc (zN zr))) (zE 4) Vi) zx)) zx)) (N:=K)
  (I:=λk ρ B=>∃Y y y4,ρ=(fo u A.length Y y y4)/\B=jU s K A k)
  (λk ρ B g ⟨Y,y,y4,H,hB⟩=>by
   subst H hB;obtain⟨ρ1,L,t,p,Z,rfl,D⟩:=wk (j:=ye 0 u.length) (st:=turn (zE 3) (zj (qF (qN (mQ qc (zN zr))) (zE 4) Vi) zx)) (N:=u.length)
    (I:=λa ρ B=>∃y y4,ρ=(fo u A.length (iO k) y y4)/\NS u s K k A (a * u.length) B)
    (λa ρ B c ⟨y,y4,H,N⟩=>by
     subst H;obtain⟨n,J,r,Z,rfl,x⟩:=wk (j:=ye 0 u.length) (st:=turn (zE 4) Vi) (N:=u.length)
      (I:=λb ρ B=>∃y4,ρ=(fo u A.length (iO k) (iO a) y4)/\NS u s K k A (a * u.length+b) B)
      (λb ρ B d ⟨y4,H,N⟩=>by
       subst H;obtain⟨C,E,w⟩:=oE h l q sh g c d N;exact⟨_,_,C,kf d,(yz (by rw[Int.zero_add];rfl)).trans E,_,rfl,w⟩)
      (λρ B _=>yY (by omega)) u.length 0 (fo u A.length (iO k) (iO a) y4) B (by omega) ⟨y4,rfl,N⟩
     refine⟨.int (0+(a:Int)),(fo u A.length (iO k) (iO a) Z),J,kf c,(yz (by rw[Int.zero_add];rfl)).trans ((zL ((ym (wm (len_tab rfl) nn)).trans ?_)).trans jk),_,_,rfl,?_⟩
     ·rw[aG]
      exact r
     ·rw[succ_mul]
      exact x)
    (λρ B _=>yY (by omega)) u.length 0 (fo u A.length (iO k) y y4) (jU s K A k) (by omega) ⟨y,y4,rfl,.inl ⟨rfl,λa b _ _ M=>by omega⟩⟩
   have f:L=jU s K A (k+1):=by
    rcases D with ⟨_,hn⟩|z
    ·exfalso
     obtain⟨a,b,c,d,e⟩:=TM h (v:=k) (by omega)
     refine hn a b c d ?_ e
     have:(a+1) * u.length<=u.length * u.length:=Nat.mul_le_mul_right _ c
     rw[succ_mul]at this;omega
    ·exact z
   subst f;refine⟨.int (0+(k:Int)),(fo u A.length (iO k) p Z),_,kf g,(yz (by rw[Int.zero_add];rfl)).trans ((zL ((ym (wm (len_tab rfl) nn)).trans ?_)).trans jk),_,_,_,rfl,rfl⟩
   rw[aG];exact t)
  (λρ B _=>yY (by omega)) K 0 (fo u A.length none none none) (jU s K A 0) (by omega) ⟨none,none,none,rfl,rfl⟩
 unfold QL VL;refine jC ?_;unfold Pc;refine(zL (ρ1:=(fo u A.length none none none)) (A1:=jU s K A 0) ((jd (j6 qE)).trans rfl)).trans ((zL (ρ1:=(fo u A.length Y y y4)) (A1:=jU s K A K) ((ym (wm (k:=(K:Int)) (cv rfl ((Ud h _).trans (by rw[l]))) kn)).trans ?_)).trans (jb (jM (zy rfl))))
 rw[aG];exact e
end
section
variable {c:jF}{u:bJ}
def lo (c:jF):As:=(c.w.zip c.f).map λq=>([zu q.1],.inl (.int q.2))
def Ho (c:jF):Fn:=λus A=>match us.tail with
 |[]=>.ok (.ref A.length) (jU c.s c.k A c.k)|_=>QL us A
def Iz (h:gy c=true)(i:Nat)(H:i<c.k):(c.s.getD i []).length=c.k:=by
 unfold gy at h;rw[ah,ah]at h;have w:=SV h.1.1;refine w.2 _ ?_;rw[aa,ae (by rw[w.1];exact H)]
 exact aJ _
def oF (H:gy c=true)(h:In c u)(us:List W)(A:Hx):QL (zo u::us) A=Ho c (zo u::us) A:=by
 cases us with
 |nil=>exact Ib h.tab h.kd (Iz H) h.sh A|cons x us=>rfl
def Ss (h:In c u):∀us A,Z3 (zo u::us) A=oL (lz c) Z3 (zo u::us) A:=Rt h
end
section
variable {S:List (bJ)}{z:bK}{K κ k x:Nat}{C:Hx}{row:bK}{T:W}
def UW {m M:Ev}{A2:Hx}{i j:Int}(h:m ρ A=.ok (.int i) A1)(h':M ρ A1=.ok (.int j) A2)(a:jH i=true)(H:jH j=true):wy m M ρ A=.ok (ye i (j-i).toNat) A2:=by
 unfold wy;rw[h,zT,h',zT];dsimp only;rw[a,H]
 rfl
def Jo {v:Int}(h:-1000<v)(h':v<1000):jH v=true:=by
 unfold jH;rw[ah,ai,ai];omega
def hB (S:List (bJ))(z:bK)(K:Nat):Hx:=jU S K [] K++[.lst (z.map W.int)]
noncomputable def zA (K:Nat):Nat:=1+K * (K+1)
def Kb (S:List (bJ))(z:bK)(K:Nat)(B:Hx):Prop:=zA K<B.length/\∀q,q<=zA K->B[q]? =(hB S z K)[q]?
def Kb.ext (h:Kb S z K B)(x:Ext B C):Kb S z K C:=by
 obtain⟨l,rfl⟩:=x;exact⟨by rw[av];have:=h.1;omega,λq H=>(ag (by have:=h.1;omega)).trans (h.2 q H)⟩
theorem LY (H:∀i,i<K->(S.getD i []).length=K)(b:x<K+1):∀m,m<=K->k<m->(gz S K n m)[k * (K+1)+x]? =((S.getD k []).map (λr=>O.lst (r.map W.int))++[Zj (n+1+k * (K+1)) K])[x]?
 |0,_,h=>absurd h (by omega)|m+1,hm,h=>by
  have e:gz S K n (m+1)=gz S K n m++((S.getD m []).map (λr=>O.lst (r.map W.int))++[Zj (n+1+m * (K+1)) K]):=by
   unfold gz;rw[a6,aZ];simp
  have l:=U9 (n:=n) H m (by omega)
  rw[e]
  by_cases a:k<m
  ·have:(k+1) * (K+1)<=m * (K+1):=Nat.mul_le_mul_right _ a
   rw[succ_mul]at this;rw[ag (by omega)]
   exact LY H b m (by omega) a
  ·have:k=m:=by omega
   subst this;rw[ar (by omega),l,Nat.add_sub_cancel_left]
def oG {q:Nat}(h:∀i,i<K->(S.getD i []).length=K)(H:q<zA K):(hB S z K)[q]? =(jU S K [] K)[q]?:=by
 unfold hB
 have:=Xb (A:=[]) h (aq K)
 rw[ag (by unfold zA at H;simp at this;omega)]
def SU (h:∀i,i<K->(S.getD i []).length=K):(hB S z K)[zA K]? =some (.lst (z.map W.int)):=by
 have:=Xb (A:=[]) h (aq K)
 unfold hB;have e:zA K=(jU S K [] K).length:=by unfold zA;simp at this;omega
 rw[e];exact jm
def Ia (w:Wf K S)(hB:Kb S z K B){m1 mk mi M:Ev}(h1:m1 ρ B=.ok (.ref 0) B)(d:mk ρ B=.ok (.int (k:Int)) B)(H:mi ρ B=.ok (.int (i:Int)) B)(e:M ρ B=.ok (.int (j:Int)) B)(lk:k<K)(li:i<K)(L:j<K):
  zi zB (zi zB (zi zB m1 mk) mi) M ρ B=.ok (.int (pS S k i j)) B:=by
 have h:∀i,i<K->(S.getD i []).length=K:=λi H=>w.r _ (by rw[aa,ae (by rw[w.l];exact H)];exact aJ _)
 have f:S.getD k []∈S:=by rw[aa,ae (by rw[w.l];exact lk)];exact aJ _
 have bk:(k+1) * (K+1)<=K * (K+1):=Nat.mul_le_mul_right _ lk;rw[succ_mul]at bk;have get:∀q,q<zA K->B[q]? =(jU S K [] K)[q]?:=λq a=>(hB.2 q (bz a)).trans (oG h a);have p:B[0]? =some (.lst (Zm 0 K K)):=(get 0 (by unfold zA;omega)).trans rfl
 have o:(Zm 0 K K)[k]? =some (.ref (0+1+k * (K+1)+K)):=by unfold Zm;rw[ax,aY lk];rfl
 have nx:∀x,x<K+1->B[0+1+k * (K+1)+x]? =((S.getD k []).map (λr=>O.lst (r.map W.int))++[Zj (0+1+k * (K+1)) K])[x]?:=λx b=>by
  rw[get _ (by unfold zA;omega)]
  unfold jU;rw[bf,show 0+1+k * (K+1)+x=(k * (K+1)+x)+1 by omega,List.getElem?_cons_succ]
  exact LY h b K (aq _) lk
 have n:B[0+1+k * (K+1)+K]? =some (Zj (0+1+k * (K+1)) K):=by
  rw[nx K (by omega),ar (by rw[ak,h k lk];omega),ak,h k lk,sub_self]
  rfl
 have g:((List.range K).map λi=>W.ref (0+1+k * (K+1)+i))[i]? =some (.ref (0+1+k * (K+1)+i)):=by rw[ax,aY li];rfl
 have E:B[0+1+k * (K+1)+i]? =some (.lst (((S.getD k []).getD i []).map W.int)):=by
  rw[nx i (by omega),ag (by rw[ak,h k lk];exact li),ax,aa (l:=S.getD k []),ae (by rw[h k lk];exact li)]
  rfl
 refine(z7 ((z7 ((z7 h1 d).trans (ZD p o)) H).trans (ZD n g)) e).trans (ZD E (int_at ?_));rw[w.c _ f _ (yZ (by rw[h k lk];exact li))]
 exact L
def wX (S:List (bJ))(K κ i:Nat):bK:=(List.range (K-(κ + 1))).map λd=>pS S (κ + 1+d) i κ
def WT (S:List (bJ))(κ i:Nat)(row:bK):Int:=((List.range (κ + 1)).map λk=>pS S k i κ * row.getD k 0).sum
def Jc (S:List (bJ))(K κ:Nat)(row:bK)(i:Nat):Bool:=!decide (kZ (wX S K κ i++[0])=0) || decide (row.getD i 0 * row.getD κ 0=WT S κ i row)
abbrev IB:Ex:=zj (zM 9 (qY (zU 1 [1,4,8] (wy (zi qv qd qp) (mQ qc (zN zK))) (zE 0) qa (zR (zi zB (zi zB (zi zB zt zr) zP) zK))))) (zj (jf (zi jB (mQ yS (zN (zi qv Y1 (qi (zh zV zm))))) zV) (zj (zM 10 (mQ wB (zU 1 [1,4,6,8] (qN (zi qv qd qp)) (zE 0) qa (zR (zi qx (zi zB (zi zB (zi zB zt zr) qd) zK) (zi zB zP zr)))))) (zj (zM 7 (j0 kO (zi jB (zi qx (zi zB jZ QD) (zi zB jZ qd)) YG))) zx)) zx) zx)
abbrev fr (K:Nat)(T:W)(x3 x4 x5 x6 x7 x8 x9 x10:Option W):En:=[some T,rO 0,rO (zA K),x3,x4,x5,x6,x7,x8,x9,x10]
abbrev fi (K:Nat)(T:W)(x3:Option W)(κ:Nat)(x5:Option W)(row:bK)(x7 x8 x9 x10:Option W):En:=fr K T x3 (iO κ) x5 (some (zu row)) x7 x8 x9 x10
def oH (w:Wf K S)(o:z.length=K)(hB:Kb S z K B)(hK:K<=8)(H:κ < K)(p:row.length=κ + 1)(J:∀v∈row,-100<v/\v<100)(t:i<=κ){x3 x5 x9 x10:Option W}{g:Bool}:
  ∃C Y y,IB (fi K T x3 κ x5 row (bO g) (iO i) x9 x10) B=.ok (.nx (fi K T x3 κ x5 row (bO (g&&Jc S K κ row i)) (iO i) Y y)) C/\Ext B C:=by
 have M:∀i,i<K->(S.getD i []).length=K:=λi t=>w.r _ (by rw[aa,ae (by rw[w.l];exact t)];exact aJ _)
 have n:B[zA K]? =some (.lst (z.map W.int)):=(hB.2 _ (aq _)).trans (SU M);have u:∀k,-100<row.getD k 0/\row.getD k 0<100:=λk=>by
  by_cases h:k<row.length
  ·rw[aa,ae h];exact J _ (aJ _)
  ·rw[aa,aA (by omega)];show -100<(0:Int)/\(0:Int)<100;omega
 have I:=gC (cap:=[1,4,8]) (mi:=wy (zi qv qd qp) (mQ qc (zN zK))) (me:=zi zB (zi zB (zi zB zt zr) zP) zK) (ρ:=fi K T x3 κ x5 row (bO g) (iO i) x9 x10) (A:=B) (N:=K-(κ + 1)) (j:=ye ((κ:Int)+1) (((z.map W.int).length:Int)-((κ:Int)+1)).toNat)
  (item:=λd=>.int ((κ:Int)+1+(d:Int))) (g:=λd=>.int (pS S (κ + 1+d) i κ))
  (UW ((z7 (zy rfl) qy).trans rfl) (KU rfl n) (Jo (by omega) (by omega)) (Jo (by rw[ak];omega) (by rw[ak];omega)))
  (by show(((z.map W.int).length:Int)-((κ:Int)+1)).toNat=_;rw[ak,o];omega) (by unfold qj;omega) (λd hd=>kf (by rw[ak,o];omega)) (yY (by rw[ak,o];omega))
  (λd hd=>by
   rw[show((κ:Int)+1+(d:Int))=((κ + 1+d:Nat):Int) by omega]
   exact Ia w hB (zy rfl) (zy rfl) (zy rfl) (zy rfl) (by omega) (by omega) H)
 have Q:((List.range (K-(κ + 1))).map λd=>W.int (pS S (κ + 1+d) i κ))=(wX S K κ i).map W.int:=by unfold wX;rw[a3];rfl
 rw[Q]at I;have L:(wX S K κ i).length=K-(κ + 1):=by unfold wX;simp
 have x1:Ext B (B++[O.lst ((wX S K κ i).map W.int)]):=.one;generalize e:B++[O.lst ((wX S K κ i).map W.int)]=a at x1;have D:zM 9 (qY (zU 1 [1,4,8] (wy (zi qv qd qp) (mQ qc (zN zK))) (zE 0) qa (zR (zi zB (zi zB (zi zB zt zr) zP) zK)))) (fi K T x3 κ x5 row (bO g) (iO i) x9 x10) B=.ok (.nx (fi K T x3 κ x5 row (bO g) (iO i) (rO B.length) x10)) a:=by
  refine((jd (ko I)).trans ?_);rw[e]
  rfl
 have P:a[B.length]? =some (.lst ((wX S K κ i).map W.int)):=by rw[<- e];exact jm
 have E:zi jB (mQ yS (zN (zi qv Y1 (qi (zh zV zm))))) zV (fi K T x3 κ x5 row (bO g) (iO i) (rO B.length) x10) a=.ok (.bl (decide (kZ (wX S K κ i++[0])=0))) (a++[.lst [.int 0]]++[.lst ((wX S K κ i++[0]).map W.int)]):=by
  have a1:=(z7 (zy (i:=9) (ρ:=fi K T x3 κ x5 row (bO g) (iO i) (rO B.length) x10) (A:=a) rfl) (j6 (ws:=[.int 0]) (A1:=a) (zS qy qE))).trans (KI (jR P) jm (by rw[ak,L];unfold qj;simp;omega))
  have a2:(wX S K κ i).map W.int++[.int 0]=(wX S K κ i++[0]).map W.int:=by rw[aO];rfl
  rw[a2]at a1;exact(z7 ((yB (kx a1 (by unfold zX;dsimp only;rw[jm]))).trans (UX (by simp))) qy).trans (gU _ _ _)
 generalize q:a++[O.lst [.int 0]]++[O.lst ((wX S K κ i++[0]).map W.int)]=c at E;have x2:Ext B c:=by rw[<- q];exact x1.app.app
 have k2:=hB.ext x2
 by_cases f:kZ (wX S K κ i++[0])=0
 ·rw[aI f]at E
  have x:=gC (cap:=[1,4,6,8]) (mi:=qN (zi qv qd qp)) (me:=zi qx (zi zB (zi zB (zi zB zt zr) qd) zK) (zi zB zP zr)) (ρ:=fi K T x3 κ x5 row (bO g) (iO i) (rO B.length) x10) (A:=c) (N:=κ + 1) (j:=ye 0 ((κ:Int)+1).toNat)
   (item:=λk=>.int (0+(k:Int))) (g:=λk=>.int (pS S k i κ * row.getD k 0)) (wm ((z7 (zy rfl) qy).trans rfl) (Jo (by omega) (by omega))) (by show((κ:Int)+1).toNat=_;omega) (by unfold qj;omega) (λk s=>kf (by omega)) (yY (by omega))
   (λk s=>by
    have Z:0<=pS S k i κ/\pS S k i κ < 100:=w.b (S.getD k []) (by rw[aa,ae (by rw[w.l];omega)];exact aJ _) i κ
    rw[Int.zero_add];exact(z7 (Ia w k2 (zy rfl) (zy rfl) (zy rfl) (zy rfl) (by omega) (by omega) H) (bv rfl rfl (Qf (by rw[p];exact s)))).trans (Qg (by omega) (by omega)))
  have em:((List.range (κ + 1)).map λk=>W.int (pS S k i κ * row.getD k 0))=((List.range (κ + 1)).map λk=>pS S k i κ * row.getD k 0).map W.int:=by rw[a3];rfl
  rw[em]at x;have X:=(yB x).trans (MZ _);have U:j0 kO (zi jB (zi qx (zi zB jZ QD) (zi zB jZ qd)) YG) (fi K T x3 κ x5 row (bO g) (iO i) (rO B.length) (some (.int (WT S κ i row)))) c=.ok (.bl (g&&decide (row.getD i 0 * row.getD κ 0=WT S κ i row))) c:=
   XN (zy rfl) ((z7 ((z7 (bv rfl rfl (Qf (by rw[p];omega))) (bv rfl rfl (Qf (by rw[p];omega)))).trans (Qg (by have:=u i;omega) (by have:=u i;omega))) (zy rfl)).trans (gU _ _ _))
  have ce:Jc S K κ row i=decide (row.getD i 0 * row.getD κ 0=WT S κ i row):=by
   unfold Jc;rw[aI f]
   rfl
  refine⟨c,rO B.length,some (.int (WT S κ i row)),(zL D).trans ((zL ((gn E).trans ((zL ((jd X).trans rfl)).trans ((zL ((jd U).trans rfl)).trans jk)))).trans ?_),x2⟩;rw[ce];exact jk
 ·rw[aK f]at E
  have ce:Jc S K κ row i=true:=by
   unfold Jc;rw[aK f]
   rfl
  refine⟨c,rO B.length,x10,(zL D).trans ((zL ((yP E).trans jk)).trans ?_),x2⟩;rw[ce,Bool.and_true];exact jk
def gd (S:List (bJ))(K κ:Nat)(row:bK):Bool:=(List.range (κ + 1)).all (Jc S K κ row)
def Bz {p:Nat->Bool}(n:Nat):(List.range (n+1)).all p=((List.range n).all p&&p n):=by
 rw[a6,List.all_append];simp
def oI (w:Wf K S)(d:z.length=K)(hB:Kb S z K B)(l:K<=8)(H:κ < K)(r:row.length=κ + 1)(f:∀v∈row,-100<v/\v<100){x3 x5 x8 x9 x10:Option W}:
  ∃C a Y y,qF (qN (zi qv qd qp)) (zE 8) IB (fi K T x3 κ x5 row (bO true) x8 x9 x10) B=.ok (.nx (fi K T x3 κ x5 row (bO (gd S K κ row)) a Y y)) C/\Ext B C:=by
 obtain⟨b,C,e,a,Y,y,rfl,x⟩:=wk (j:=ye 0 ((κ:Int)+1).toNat) (st:=turn (zE 8) IB) (N:=κ + 1)
  (I:=λi ρ C=>∃a Y y,ρ=fi K T x3 κ x5 row (bO ((List.range i).all (Jc S K κ row))) a Y y/\Ext B C)
  (λi ρ C n ⟨a,Y,y,h,x⟩=>by
   subst h;obtain⟨D,c,Z,e,X⟩:=oH (T:=T) (x3:=x3) (x5:=x5) (x9:=Y) (x10:=y) (g:=(List.range i).all (Jc S K κ row)) w d (hB.ext x) l H r f (i:=i) (by omega)
   refine⟨.int (0+(i:Int)),_,D,kf (by omega),(yz (by rw[Int.zero_add];rfl)).trans e,iO i,c,Z,?_,x.trans X⟩
   rw[Bz])
  (λρ B _=>yY (by omega)) (κ + 1) 0 (fi K T x3 κ x5 row (bO true) x8 x9 x10) B (by omega) ⟨x8,x9,x10,rfl,.refl⟩
 refine⟨C,a,Y,y,(ym (wm (k:=(κ:Int)+1) ((z7 (zy rfl) qy).trans rfl) (Jo (by omega) (by omega)))).trans ?_,x⟩
 rw[show(ye 0 ((κ:Int)+1).toNat).len=κ + 1 by show((κ:Int)+1).toNat=_;omega]
 exact e
noncomputable def kP (v:Int)(row:bK):bJ:=(List.range (2 * v+1).toNat).map λ(d:Nat)=>row++[-v+(d:Int)]
def QJ (S:List (bJ))(z:bK)(K:Nat):Nat->List (bK)
 |0=>[[1]]|m+1=>((QJ S z K m).flatMap (kP (z.getD (m+1) 0))).filter (gd S K (m+1))
def oJ (S:List (bJ))(z:bK)(K:Nat):Bool:=(List.range K).all λm=>decide ((QJ S z K m).length<900)&&decide (((QJ S z K m).flatMap (kP (z.getD (m+1) 0))).length<900)&&(QJ S z K m).all (λr=>decide (r.length=m+1))&&((QJ S z K m).flatMap (kP (z.getD (m+1) 0))).all λr=>decide (r.length=m+2)&&r.all λv=>decide (-100<v)&&decide (v<100)
abbrev EB:Ex:=zj (jx (jj Z9 jq (qY (zU 1 [6] (wy (zi yQ zV (zi zB zK qd)) (zi qv (zi zB zK qd) qp)) (zE 0) qa (zR (zi qv zt (qb (zh zr zm)))))))) zx
abbrev RB:Ex:=zj (zM 7 qa) (zj (qF (qN (zi qv qd qp)) (zE 8) IB) (zj (jf kO (zj (jx (jj jS zP jZ)) zx) zx) zx))
def CW {k:Nat}{us:List W}(h:A[n]? =some (.lst ws))(h':A[k]? =some (.lst us))(hl:ws.length+us.length<=qj):Z9 (.ref n) (.ref k) A=.ok .non (A.set n (.lst (ws++us))):=by
 unfold Z9;dsimp only;rw[h,h'];dsimp only;rw[aj hl]
def Kq (p:Nat)(B C:Hx):Prop:=B.length<=C.length/\∀q,q<p->C[q]? =B[q]?
def Kq.kb {p:Nat}(h:Kb S z K B)(q:Kq p B C)(a:zA K<p):Kb S z K C:=⟨aE h.1 q.1,λi H=>(q.2 i (by omega)).trans (h.2 i H)⟩
def oK (b:z.length=K)(s:∀i,i<K->(S.getD i []).length=K)(hB:Kb S z K B)(c:K<=8)(a:κ < K)(v:0<=z.getD κ 0/\z.getD κ 0<=8)(r:row.length<=8){p5:Nat}{ws:bJ}(H:B[p5]? =some (.lst (ws.map zu)))(hw:ws.length<2000){x3 x7 x8 x9 x10:Option W}:
  EB (fi K T x3 κ (rO p5) row x7 x8 x9 x10) B=.ok (.nx (fi K T x3 κ (rO p5) row x7 x8 x9 x10)) ((B++[O.lst ((kP (z.getD κ 0) row).map zu)]).set p5 (O.lst ((ws++kP (z.getD κ 0) row).map zu))):=by
 have h:B[zA K]? =some (.lst (z.map W.int)):=(hB.2 _ (aq _)).trans (SU s);have e:zi zB zK qd (fi K T x3 κ (rO p5) row x7 x8 x9 x10) B=.ok (.int (z.getD κ 0)) B:=bv rfl rfl (ZD h (int_at (by omega)))
 have E:=gC (cap:=[6]) (mi:=wy (zi yQ zV (zi zB zK qd)) (zi qv (zi zB zK qd) qp)) (me:=zi qv zt (qb (zh zr zm))) (ρ:=fi K T x3 κ (rO p5) row x7 x8 x9 x10) (A:=B) (N:=(2 * z.getD κ 0+1).toNat) (j:=ye (0-z.getD κ 0) (z.getD κ 0+1-(0-z.getD κ 0)).toNat)
  (item:=λd=>.int (0-z.getD κ 0+(d:Int))) (g:=λd=>zu (row++[-z.getD κ 0+(d:Int)]))
  (UW ((z7 qy e).trans rfl) ((z7 e qy).trans rfl) (Jo (by omega) (by omega)) (Jo (by omega) (by omega))) (by show(z.getD κ 0+1-(0-z.getD κ 0)).toNat=_;omega) (by unfold qj;omega) (λd hd=>kf (by omega)) (yY (by omega))
  (λd hd=>by
   refine(z7 (zy rfl) (wL (zS (zy rfl) qE))).trans ((Ma (by rw[ak];simp;omega)).trans ?_)
   unfold zu;rw[aO,show 0-z.getD κ 0+(d:Int)=-z.getD κ 0+(d:Int) by omega]
   rfl)
 have em:((List.range (2 * z.getD κ 0+1).toNat).map λ(d:Nat)=>zu (row++[-z.getD κ 0+(d:Int)]))=(kP (z.getD κ 0) row).map zu:=by unfold kP;rw[a3];rfl
 rw[em]at E;have l:(kP (z.getD κ 0) row).length=(2 * z.getD κ 0+1).toNat:=by unfold kP;simp
 refine(zL (ZH (w:=.non) ((Jr (zy rfl) H (ko E)).trans ((CW (jR H) jm (by rw[ak,ak,l];unfold qj;omega)).trans ?_)))).trans jk
 rw[aO]
def oM (d:z.length=K)(s:∀i,i<K->(S.getD i []).length=K)(hB:Kb S z K B)(l:K<=8)(H:κ < K)(v:0<=z.getD κ 0/\z.getD κ 0<=8){p3 p5:Nat}{rs:bJ}(f:∀r∈rs,r.length<=8)(hl:(rs.flatMap (kP (z.getD κ 0))).length<900)(a:B[p3]? =some (.lst (rs.map zu)))(b:B[p5]? =some (.lst []))(p:zA K<p3)(Q:p3<p5){x6 x7 x8 x9 x10:Option W}:
  ∃C y6,qF (qu zP) (zE 6) EB (fr K T (rO p3) (iO κ) (rO p5) x6 x7 x8 x9 x10) B=.ok (.nx (fr K T (rO p3) (iO κ) (rO p5) y6 x7 x8 x9 x10)) C/\C[p5]? =some (.lst ((rs.flatMap (kP (z.getD κ 0))).map zu))/\Kq p5 B C:=by
 have L:=yD b;have cut:∀m,((rs.take m).flatMap (kP (z.getD κ 0))).length<=(rs.flatMap (kP (z.getD κ 0))).length:=λm=>by
  have:rs.flatMap (kP (z.getD κ 0))=(rs.take m).flatMap (kP (z.getD κ 0))++(rs.drop m).flatMap (kP (z.getD κ 0)):=by rw[<- aZ,take_append_drop]
  rw[this,av];omega
 obtain⟨c,C,e,y6,rfl,g1,g2⟩:=wk (j:=⟨λA i=>(zX (.ref p3) A).map λws=>ws[i]?,(rs.map zu).length⟩) (st:=turn (zE 6) EB) (N:=rs.length)
  (I:=λm ρ C=>∃y6,ρ=fr K T (rO p3) (iO κ) (rO p5) y6 x7 x8 x9 x10/\C[p5]? =some (.lst (((rs.take m).flatMap (kP (z.getD κ 0))).map zu))/\Kq p5 B C)
  (λm ρ C hm ⟨y6,h,g1,g2⟩=>by
   subst h;have o:C[p3]? =some (.lst (rs.map zu)):=(g2.2 p3 Q).trans a;have n:=Kq.kb hB g2 (by omega)
   have e:=oK (T:=T) (x3:=rO p3) (x7:=x7) (x8:=x8) (x9:=x9) (x10:=x10) (row:=rs[m]) d s n l H v (f _ (aJ hm)) g1 (by have:=cut m;omega)
   refine⟨zu rs[m],_,_,?_,(yz rfl).trans e,_,rfl,?_,?_,λq g=>?_⟩
   ·exact(kB o).trans (by rw[ax,ae hm];rfl)
   ·rw[take_succ hm,aZ]
    simp only[flatMap_cons,flatMap_nil,a7];exact aC (by rw[av];have:=g2.1;omega)
   ·rw[length_set,av]
    have:=g2.1
    omega
   ·rw[az (by omega),ag (by have:=g2.1;omega)]
    exact g2.2 q g)
  (λρ C ⟨y6,_,_,g2⟩=>(kB ((g2.2 p3 Q).trans a)).trans (by rw[aA (by simp)])) rs.length 0 (fr K T (rO p3) (iO κ) (rO p5) x6 x7 x8 x9 x10) B (by omega) ⟨x6,rfl,by rw[b];rfl,aq _,λ_ _=>rfl⟩
 rw[take_length]at g1;refine⟨C,y6,(ym (Z8 (zy rfl) a)).trans ?_,g1,g2⟩;rw[show(jJ.len ⟨λA i=>(zX (.ref p3) A).map λws=>ws[i]?,(rs.map zu).length⟩)=rs.length by simp]
 exact e
def oN (w:Wf K S)(f:z.length=K)(hB:Kb S z K B)(j:K<=8)(b:κ < K)(r:row.length=κ + 1)(i:∀v∈row,-100<v/\v<100){p3:Nat}{ws:bJ}(d:B[p3]? =some (.lst (ws.map zu)))(hw:ws.length<900){x5 x7 x8 x9 x10:Option W}:
  ∃C a Y y,RB (fi K T (rO p3) κ x5 row x7 x8 x9 x10) B=.ok (.nx (fi K T (rO p3) κ x5 row (bO (gd S K κ row)) a Y y)) C/\C[p3]? =some (.lst ((ws++[row].filter (gd S K κ)).map zu))/\B.length<=C.length/\∀q,q<B.length->q≠p3->C[q]? =B[q]?:=by
 obtain⟨C,a,Y,y,e,x⟩:=oI (T:=T) (x3:=rO p3) (x5:=x5) (x8:=x8) (x9:=x9) (x10:=x10) w f hB j b r i;have c:=x.at d;have n:=yD d;have L:=x.len;have old:∀q,q<B.length->C[q]? =B[q]?:=λq h=>by obtain⟨l,rfl⟩:=x;exact ag h
 have E:zM 7 qa (fi K T (rO p3) κ x5 row x7 x8 x9 x10) B=.ok (.nx (fi K T (rO p3) κ x5 row (bO true) x8 x9 x10)) B:=rfl
 by_cases g:gd S K κ row=true
 ·rw[g]at e ⊢
  refine⟨C.set p3 (.lst ((ws++[row]).map zu)),a,Y,y,(zL E).trans ((zL e).trans ((zL ((gn (zy rfl)).trans ((zL (ZH (w:=.non) ((Jr (zy rfl) c (zy rfl)).trans ((KA c (by rw[ak];omega)).trans ?_)))).trans jk))).trans jk)),?_,by rw[length_set];exact L,λq h hn=>(az (Ne.symm hn)).trans (old q h)⟩
  ·rw[aO]
   rfl
  ·rw[aC (by omega)]
   simp[g]
 ·have H:gd S K κ row=false:=by simpa using g
  rw[H]at e ⊢;refine⟨C,a,Y,y,(zL E).trans ((zL e).trans ((zL ((yP (zy rfl)).trans jk)).trans jk)),?_,L,λq h _=>old q h⟩;rw[c];simp[H]
def oO (w:Wf K S)(g:z.length=K)(hB:Kb S z K B)(o:K<=8)(H:κ < K){p3 p5:Nat}{rs:bJ}(l:∀r∈rs,r.length=κ + 1/\∀v∈r,-100<v/\v<100)(hl:rs.length<900)(d:B[p3]? =some (.lst []))(c:B[p5]? =some (.lst (rs.map zu)))(L:zA K<p5)(Q:p5<p3){x6 x7 x8 x9 x10:Option W}:
  ∃C y6 b a Y y,qF (qu jq) (zE 6) RB (fr K T (rO p3) (iO κ) (rO p5) x6 x7 x8 x9 x10) B=.ok (.nx (fr K T (rO p3) (iO κ) (rO p5) y6 b a Y y)) C/\C[p3]? =some (.lst ((rs.filter (gd S K κ)).map zu))/\Kq p3 B C:=by
 have M:=yD d;obtain⟨f,C,e,y6,b,a,Y,y,rfl,g1,g2⟩:=wk (j:=⟨λA i=>(zX (.ref p5) A).map λws=>ws[i]?,(rs.map zu).length⟩) (st:=turn (zE 6) RB) (N:=rs.length)
  (I:=λm ρ C=>∃y6 b a Y y,ρ=fr K T (rO p3) (iO κ) (rO p5) y6 b a Y y/\C[p3]? =some (.lst (((rs.take m).filter (gd S K κ)).map zu))/\Kq p3 B C)
  (λm ρ C hm ⟨y6,b,a,Y,y,h,g1,g2⟩=>by
   subst h;have x:C[p5]? =some (.lst (rs.map zu)):=(g2.2 p5 Q).trans c;have u:=Kq.kb hB g2 (by omega)
   obtain⟨k1,k2⟩:=l _ (aJ hm);have lf:((rs.take m).filter (gd S K κ)).length<900:=by
    have a1:=List.length_filter_le (gd S K κ) (rs.take m);have a2:=List.length_take_le m rs;omega
   obtain⟨D,J,E,Z,e,t,s,p⟩:=oN (T:=T) (x5:=rO p5) (x7:=b) (x8:=a) (x9:=Y) (x10:=y) w g u o H k1 k2 g1 lf;refine⟨zu rs[m],_,D,?_,(yz rfl).trans e,_,_,_,_,_,rfl,?_,a4 g2.1 s,λq n=>?_⟩
   ·exact(kB x).trans (by rw[ax,ae hm];rfl)
   ·rw[t,take_succ hm,filter_append]
   ·rw[p q (by have:=g2.1;omega) (by omega)]
    exact g2.2 q n)
  (λρ C ⟨_,_,_,_,_,_,_,g2⟩=>(kB ((g2.2 p5 Q).trans c)).trans (by rw[aA (by simp)])) rs.length 0 (fr K T (rO p3) (iO κ) (rO p5) x6 x7 x8 x9 x10) B (by omega) ⟨x6,x7,x8,x9,x10,rfl,by rw[d];rfl,aq _,λ_ _=>rfl⟩
 rw[take_length]at g1;refine⟨C,y6,b,a,Y,y,(ym (Z8 (zy rfl) c)).trans ?_,g1,g2⟩;rw[show(jJ.len ⟨λA i=>(zX (.ref p5) A).map λws=>ws[i]?,(rs.map zu).length⟩)=rs.length by simp]
 exact e
end
section
variable {c:jF}{u:bJ}
abbrev wb (c:jF):bJ:=QJ c.s c.z c.k (c.k-1)
def lf (c:jF):As:=(wb c).map λr=>([zu r],.inl (.bl (c.w.contains r)))
def Hu (c:jF):Fn:=qt 6 (Vy (Ho c) Ug)
def oP (r:Nat->W):Cz.all (λc=>YX (lf c) (Hu c) (Jb c.n r))=true:=by kernel_rfl
def oQ (H:c∈Cz)(h:In c u):∀us A,Jf (zo u::us) A=oL (lf c) Jf (zo u::us) A:=WY (R':=Hu) oP H h λus A=>YT (j:=0) (t:=zo u) (by
 unfold Vy;exact qI (j9 (gF (oF (cn.mp Vb c H) h) qG)) (qI (Wu qG (qI (ZJ qG) j8) j8) (qI (Wu qG (qI (ZJ qG) j8) j8) (qI (Ze qG Qd (qI (Ze qG Qd (qI (j9 qG) (qI (Wu qG (qI (ZJ qG) j8) j8) j8))) j8)) (qI (ZJ qG) j8))))) rfl
def AO {a b:bK}(h:zu a=zu b):a=b:=by
 have h':a.map W.int=b.map W.int:=by injection h
 exact(List.map_inj_right λx y e=>by injection e).mp h'
theorem Md:∀r:bK,kG (r.map W.int) (r.map W.int)=true
 |[]=>rfl|x::r=>by
  show(decide (x=x)&&kG (r.map W.int) (r.map W.int))=true;rw[Md r];simp
def oR (r:bK):kG [zu r] [zu r]=true:=by
 show(kG (r.map W.int) (r.map W.int)&&true)=true;rw[Md]
 rfl
def oS (a:c∈Cz)(h:In c u){r:bK}(H:r∈wb c)(A:Hx):Jf [zo u,zu r] A=.ok (.bl (c.w.contains r)) A:=by
 rw[oQ a h];unfold oL ov;show(match ((lf c).find? λp=>kG p.1 [zu r]).map (·.2) with|some r=>JK r A|none=>_)=_
 cases hf:(lf c).find? (λp=>kG p.1 [zu r]) with
 |none=>
  exfalso
  have:=List.find?_eq_none.mp hf ([zu r],.inl (.bl (c.w.contains r))) (cu.mpr ⟨r,H,rfl⟩)
  exact this (oR r)
 |some p=>
  obtain⟨q,_,rfl⟩:=cu.mp (List.mem_of_find?_eq_some hf);have b:kG [zu q] [zu r]=true:=List.find?_some (p:=λp:List W×(W ⊕ List W)=>kG p.1 [zu r]) hf;have e:=Yt b;have E:zu q=zu r:=by injection e
  rw[AO E]
  rfl
def gS (c:jF):bJ:=(wb c).filter c.w.contains
def oU:(Cz.all λc=>oJ c.s c.z c.k&&decide (JC ((gS c).map zu)=some (gS c))&&decide ((gS c).length<64)&&kG (((Yz (gS c)).map Je).reverse) (c.w.map zu)&&decide ((wb c).length<900)&&c.z.all (λv=>decide (0<=v)&&decide (v<=8))&&decide (2<=c.k)&&decide (c.k<=8))=true:=by decide +kernel
abbrev fx (c:jF)(u:bJ)(p:Nat)(x4 x5 x6 x7 x8 x9 x10:Option W):En:=fr c.k (zo u) (rO p) x4 x5 x6 x7 x8 x9 x10
abbrev bX (c:jF)(B:Hx):Hx:=B++[O.lst ((gS c).map zu)]
abbrev bY (c:jF)(B:Hx):Hx:=bX c B++[O.lst ((Yz (gS c)).map Je)]
abbrev KBd:Ex:=zj (zM 5 (qi zm)) (zj (qF (qu zP) (zE 6) EB) (zj (zM 3 (qi zm)) (zj (qF (qu jq) (zE 6) RB) zx)))
def oV (o:c∈Cz)(h:In c u):∃n B,Vx [zo u] []=.ok (.ref n) B/\B[n]? =some (.lst (c.w.map zu)):=by
 have t:=cn.mp Vb c o;have hf:=cn.mp oU c o;simp only[ah,ai]at hf;obtain⟨⟨⟨⟨⟨⟨⟨f1,f2⟩,f3⟩,f4⟩,f5⟩,f6⟩,f7⟩,f8⟩:=hf;have H:=t;unfold gy at H;rw[ah,ah]at H;have w:=SV H.1.1;have b:c.z.length=c.k:=by
  have:=H.1.2
  rw[ah,ah,ah,ai]at this;exact this.1.1.1
 have d:=Iz t;have Z:∀i,0<=c.z.getD i 0/\c.z.getD i 0<=8:=λi=>by
  by_cases hi:i<c.z.length
  ·rw[aa,ae hi]
   have:=cn.mp f6 _ (aJ hi)
   rw[ah,ai,ai]at this;exact this
  ·rw[aa,aA (by omega)]
   show 0<=(0:Int)/\(0:Int)<=8;omega
 have nl:(jU c.s c.k [] c.k).length=zA c.k:=by rw[Xb d (aq _)];unfold zA;simp
 have a:(hB c.s c.z c.k).length=zA c.k+1:=by unfold hB;rw[av,nl];rfl
 obtain⟨S,B,e,p3,x4,x5,x6,x7,x8,x9,x10,rfl,x,g1,g2⟩:=wk (j:=ye 1 (((c.z.map W.int).length:Int)-1).toNat) (st:=turn (zE 4) KBd) (N:=c.k-1)
  (I:=λm ρ B=>∃p3 x4 x5 x6 x7 x8 x9 x10,ρ=fx c u p3 x4 x5 x6 x7 x8 x9 x10/\zA c.k<p3/\B[p3]? =some (.lst ((QJ c.s c.z c.k m).map zu))/\Kb c.s c.z c.k B)
  (λm ρ B hm ⟨p3,x4,x5,x6,x7,x8,x9,x10,l,x,g1,g2⟩=>by
   subst l;have l3:=yD g1;have J:=cn.mp f1 m (cj.mpr (by omega))
   simp only[ah,ai,aT]at J;obtain⟨⟨⟨b1,Q⟩,b3⟩,P⟩:=J;obtain⟨C,y6,p,M,cq⟩:=oM (T:=zo u) (κ:=m+1) (p3:=p3) (p5:=B.length) (B:=B++[O.lst []]) (rs:=QJ c.s c.z c.k m) (x6:=x6) (x7:=x7) (x8:=x8) (x9:=x9) (x10:=x10) b d (g2.ext .one) f8 (by omega) (Z _) (λr f=>by rw[b3 r f];omega) Q (jR g1) jm x l3
   have L:Kb c.s c.z c.k C:=Kq.kb (g2.ext .one) cq (by omega)
   have l5:=yD M;obtain⟨D,y,y7,X,U,Y,E,d3,dq⟩:=oO (T:=zo u) (κ:=m+1) (p3:=C.length) (p5:=B.length) (B:=C++[O.lst []]) (rs:=(QJ c.s c.z c.k m).flatMap (kP (c.z.getD (m+1) 0))) (x6:=y6) (x7:=x7) (x8:=x8) (x9:=x9) (x10:=x10) w b (L.ext .one) f8 (by omega) (λr f=>⟨(P r f).1,λv hv=>(P r f).2 v hv⟩) Q jm (jR M) (by omega) l5
   refine⟨.int (1+(m:Int)),fx c u C.length (iO (m+1)) (rO B.length) y y7 X U Y,D,kf (by rw[ak,b];omega),?_,C.length,_,_,_,_,_,_,_,rfl,by omega,d3,Kq.kb (L.ext .one) dq (by omega)⟩
   rw[show(1:Int)+(m:Int)=((m+1:Nat):Int) by omega]
   exact(yz rfl).trans ((zL ((jd (j6 qE)).trans rfl)).trans ((zL p).trans ((zL ((jd (j6 qE)).trans rfl)).trans ((zL E).trans jk)))))
  (λρ B _=>yY (by rw[ak,b];omega)) (c.k-1) 0 (fx c u (zA c.k+1) none none none none none none none) (hB c.s c.z c.k++[O.lst [zu [1]]]) (by omega)
  ⟨_,_,_,_,_,_,_,_,rfl,by omega,by rw[<- a];exact jm,⟨by rw[av,a];omega,λq hq=>ag (by omega)⟩⟩
 have K:=Uv (cap:=[0]) (mi:=qu zP) (ifs:=zH Jf (zh zt (zh zr zm))) (me:=zr) (ρ:=fx c u p3 x4 x5 x6 x7 x8 x9 x10) (A:=B) (N:=(wb c).length) (item:=λi=>zu ((wb c).getD i [])) (g:=λi=>zu ((wb c).getD i [])) (keep:=λi=>c.w.contains ((wb c).getD i []))
  (Z8 (zy rfl) g1) (by rw[ak]) (by unfold qj;omega) (λi hi=>(kB g1).trans (by rw[ax,aa,ae hi];rfl)) ((kB g1).trans (by rw[aA (by simp)]))
  (λi hi=>(jt (zS (zy rfl) (zS (zy rfl) qE))).trans (oS o h (by rw[aa,ae hi];exact aJ _) B)) (λi hi _=>zy rfl)
 have e8:((List.range (wb c).length).filter λi=>c.w.contains ((wb c).getD i [])).map (λi=>zu ((wb c).getD i []))=(gS c).map zu:=by
  unfold gS;have p:((List.range (wb c).length).filter λi=>c.w.contains ((wb c).getD i [])).map (λi=>zu ((wb c).getD i []))=(((List.range (wb c).length).map λi=>(wb c).getD i []).filter c.w.contains).map zu:=by
   rw[List.filter_map,a3]
   rfl
  have E:=QK (wb c) [] (λr=>r);rw[List.map_id']at E;rw[p,<- E]
 rw[e8]at K;have e7:=ko K;have e6:Xu (.ref B.length) (bX c B)=.ok (.ref (bX c B).length) (bY c B):=by
  unfold Xu;dsimp only;rw[jm];dsimp only;rw[f2];dsimp only;rw[aj f3]
 have e5:XD (Xr (qY (zU 1 [0] (qu zP) (zE 0) (zH Jf (zh zt (zh zr zm))) (zR zr)))) (yw Qs qp) (fx c u p3 x4 x5 x6 x7 x8 x9 x10) B=.ok (.ref (bY c B).length) (bY c B++[.lst (c.w.map zu)]):=by
  unfold XD Xr;rw[e7,zT,e6,zT];show(match (bY c B)[(bX c B).length]? with|some (.lst ws)=>_|_=>_)=_
  rw[jm];show R.ok _ (_++[O.lst ((Yz (gS c)).map Je).reverse])=_;rw[Yt f4]
 refine⟨(bY c B).length,bY c B++[O.lst (c.w.map zu)],jC ?_,jm⟩;unfold RL;have en:QL [zo u] []=.ok (.ref 0) (jU c.s c.k [] c.k):=Ib h.tab h.kd d h.sh [];have ez:Z3 [zo u] (jU c.s c.k [] c.k)=.ok (.ref (zA c.k)) (hB c.s c.z c.k):=by
  rw[Ss h [] _,<- nl]
  rfl
 refine(zL (Mq (wL (zS (cv rfl en) (zS (cv rfl ez) qE))) rfl)).trans ?_;refine(zL (ρ1:=fx c u (zA c.k+1) none none none none none none none) (A1:=hB c.s c.z c.k++[O.lst [zu [1]]]) ((jd (j6 (zS (wL (zS qy qE)) qE))).trans ?_)).trans ?_
 ·rw[a]
  rfl
 refine(zL ((ym (UW (i:=1) (j:=((c.z.map W.int).length:Int)) qy (KU rfl ((ag (by omega)).trans (SU d))) (by decide) (Jo (by rw[ak];omega) (by rw[ak];omega)))).trans ?_)).trans (jb (jM e5))
 rw[show(ye 1 (((c.z.map W.int).length:Int)-1).toNat).len=c.k-1 by show(((c.z.map W.int).length:Int)-1).toNat=_;rw[ak,b];omega]
 exact e
def oW (H:c∈Cz)(h:In c u)(A:Hx):J0 [zo u] A=.ok (.ref A.length) (A++[.lst (c.w.map zu)]):=by
 obtain⟨n,B,E,e⟩:=oV H h;exact G9 (gN u) E e (ZF G0 _)
def HB (c:jF):Fn:=qt 6 (V3 (oL (lz c) Za))
def oX (r:Nat->W):Cz.all (λc=>YX (lo c) (HB c) (Jb c.n r))=true:=by kernel_rfl
def oY (H:c∈Cz)(h:In c u):∀us A,Kh (zo u::us) A=oL (lo c) Kh (zo u::us) A:=WY (R':=HB) oX H h λus A=>YT (j:=0) (t:=zo u) (by
 unfold V3;exact qI (j9 qG) (qI (j9 qG) (qI (Ze (oj (gF (Rt h) qG) qG) Tc (qI (j9 qG) (qI (j9 qG) j8))) (qI (ZJ qG) j8)))) rfl
def S7 (c:jF):Fn:=qt 6 (TX (oL (lo c) Kh) (oL (lz c) Za) UL)
def oZ (H:c∈Cz)(h:In c u)(us:List W)(A:Hx):Tq (zo u::us) A=S7 c (zo u::us) A:=YT (j:=0) (t:=zo u) (by
 unfold TX;exact qI (j9 (gF (Rt h) qG)) (qI (j9 qG) (qI (Ze qG Qd (qI (j9 (gF (oY H h) qG)) (qI (YB qG) j8))) (qI (ZJ qG) j8)))) rfl
def Rn (c:jF):Fn:=λus A=>match us.tail with
 |[]=>.ok .non (A++[.lst (c.w.map zu)])|_=>Z1 us A
def o5:(Cz.all λc=>decide (c.w.length=c.k))=true:=by decide +kernel
def rw_c (H:c∈Cz)(h:In c u)(us:List W)(A:Hx):Z1 (zo u::us) A=Rn c (zo u::us) A:=by
 cases us with
 |nil=>exact rw_T (cn.mp Vb c H) h (of_decide_eq_true (cn.mp o5 c H))|cons x us=>rfl
def o6 {t:W}{m M:Ex}{us:List W}(h:Cs (Hs j t) m M)(p:Hs j t (us.map some++List.replicate (n-us.length) none)):kK n m us A=kK n M us A:=by
 unfold kK;rw[(h _ A p).1]
def o7 {P:En->Prop}{s s':Ex}(h:Cs P s s'):Cs P (λρ A=>(s ρ A).nox) (λρ A=>(s' ρ A).nox):=λρ A p=>by
 obtain⟨e,o⟩:=h ρ A p;refine⟨by show(s ρ A).nox=(s' ρ A).nox;rw[e],λfl A1 q=>?_⟩
 have Q:(s ρ A).nox=.ok fl A1:=q;cases H:s ρ A with
 |ok f B=>rw[H]at Q o;cases Q;exact o _ _ rfl|exc x B=>rw[H]at Q;cases Q|bad=>rw[H]at Q;cases Q
def ZY (c:jF):W:=match c.o with
 |none=>.non|some o=>ZS o
abbrev lr (c:jF):As:=[([],.inl (ZY c))]
def Hy (c:jF):Fn:=λws A=>(kK 6 (Kl Gn (oL (lw c) gA) (S7 c) (Rn c)) ws A).nox
def o8 (r:Nat->W):Cz.all (λc=>YX (lr c) (Hy c) (Jb c.n r))=true:=by kernel_rfl
def o9 (H:c∈Cz)(h:In c u):∀us A,Zv (zo u::us) A=oL (lr c) Zv (zo u::us) A:=WY (R':=Hy) o8 H h λus A=>by
 show(yK (zo u::us) A).nox=(kK 6 _ (zo u::us) A).nox;rw[show yK (zo u::us) A=kK 6 (Kl Gn (oL (lw c) gA) (S7 c) (Rn c)) (zo u::us) A from o6 (j:=0) (t:=zo u) (by
  unfold Kl;exact qI (YB (gF (rw_c H h) qG)) (o7 (qI (j9 (gF (oy H h) qG)) (qI (j9 (gF (oZ H h) qG)) (qI (j9 qG) (qI (Ze qG Qd (qI (j9 qG) (qI (j9 qG) j8))) (qI (ZJ qG) j8))))))) rfl]
def pa (H:c∈Cz)(h:In c u)(A:Hx):Zv [zo u] A=.ok (ZY c) A:=o9 H h [] A
def pb (A:Hx):Zv [.tup [.tup [.int 0]]] A=.ok (.tup [.int 0]) A:=ku (f:=λws A=>(yK ws A).nox) (r:=.inl (.tup [.int 0])) rfl (by decide +kernel) A
def Hv (c:jF):Fn:=qt 7 (Uc (oL (lz c) Z3))
def pd (r:Nat->W):Cz.all (λc=>YX (lo c) (Hv c) (Jb c.n r))=true:=by kernel_rfl
def pe (H:c∈Cz)(h:In c u):∀us A,Km (zo u::us) A=oL (lo c) Km (zo u::us) A:=WY (R':=Hv) pd H h λus A=>YT (j:=0) (t:=zo u) (by
 unfold Uc;exact qI (j9 (gF (Ss h) qG)) (qI (om Tc qG) (qI (Ze qG Tc (qI (j9 qG) (qI (j9 qG) j8))) (qI (ZJ qG) j8)))) rfl
def HQ (c:jF):Fn:=qt 6 (V2 VM (oL (lo c) Km) (oL (lz c) Z3))
def pf (H:c∈Cz)(h:In c u)(us:List W)(A:Hx):V4 (zo u::us) A=HQ c (zo u::us) A:=YT (j:=0) (t:=zo u) (by
 unfold V2;exact qI (j9 (gF (Ss h) qG)) (qI (j9 qG) (qI (Ze qG Qd (qI (j9 (gF (pe H h) qG)) (qI (YB qG) j8))) (qI (ZJ qG) j8)))) rfl
def ph (H:c∈Cz)(h:In c u):∀us A,J0 (zo u::us) A=oL (lw c) J0 (zo u::us) A:=Tt λA=>oW H h A
def HI (c:jF):Fn:=qt 12 (Uy (oL (lw c) J0) (HQ c))
def pj (r:Nat->W):Cz.all (λc=>YX (lr c) (HI c) (Jb c.n r))=true:=by kernel_rfl
def pk (H:c∈Cz)(h:In c u):∀us A,QS (zo u::us) A=oL (lr c) QS (zo u::us) A:=WY (R':=HI) pj H h λus A=>YT (j:=0) (t:=zo u) (by
 unfold Uy;exact qI (j9 (gF (ph H h) qG)) (qI (j9 (gF (pf H h) qG)) (qI (j9 qG) (qI (Ze qG Qd (qI (j9 qG) (qI (Ze qG Qd (qI (Ze qG Qd (qI (Wu qG (qI (j9 qG) (qI (j9 qG) (qI (Ze qG Qd (qI (j9 qG) (qI (YB qG) (qI (YB qG) j8)))) (qI (Wu qG (qI (YB qG) j8) j8) j8)))) j8) j8)) j8)) (qI (j9 qG) j8)))) (qI (ZJ qG) j8))))) rfl
def pl (H:c∈Cz)(h:In c u)(A:Hx):QS [zo u] A=.ok (ZY c) A:=pk H h [] A
def pq:(Cz.all λc=>Vj (OI [ZY c,ZY c] []) (.inl (.bl true))&&(ZY c).nr)=true:=by kernel_rfl
end
def GX (i:Nat):Hx:=[.lst (qo i 0 3),.lst (qo i 3 3),.lst (qo i 0 6),.lst (qo i 6 3),.lst (qo i 0 9),.lst (qo i 9 3),.lst (qo i 0 12),.lst (qo i 12 3),.lst (qo i 0 15),.lst (qo i 15 3),.lst (qo i 0 18),.lst [.int i]]
noncomputable def wM (x:Str):Option Nat:=if x = "NoTable" then some 0 else if x = "NotSteady" then some 1 else if x = "NotWhole" then some 16 else none
def O4 (h:wM x=some i):(x = "NoTable" /\ i=0)∨(x = "NotSteady" /\ i=1)∨(x = "NotWhole" /\ i=16):=by
 unfold wM at h
 by_cases h0:x = "NoTable"
 ·rw[aj h0]at h;cases h;exact .inl ⟨h0,rfl⟩
 ·rw[ao h0]at h
  by_cases h1:x = "NotSteady"
  ·rw[aj h1]at h;cases h;exact .inr (.inl ⟨h1,rfl⟩)
  ·rw[ao h1]at h
   by_cases h2:x = "NotWhole"
   ·rw[aj h2]at h;cases h;exact .inr (.inr ⟨h2,rfl⟩)
   ·rw[ao h2]at h;cases h
def Aw (H:wM x=some i)(u:W)(A:Hx):VI [some u,some (.xc x),none,none] A=.ok (.rt (.ref (A.length+11))) (A++GX i):=by
 have two:=O4 H;unfold VI;have d:∀(m:Option W)(A:Hx),(zh (jh (jw qT "NoTable") zt) (zh (jh (jw qT "NotSteady") zt) (zh (jh (jw qT "NoPlace") zt) zm))) [some u,some (.xc x),none,m] A=.ok (qo i 0 3) A:=λm A=>by
  rcases two with ⟨rfl,rfl⟩|⟨rfl,rfl⟩|⟨rfl,rfl⟩<;>kernel_rfl
 have a1:∀(m:Option W)(A:Hx),(zh (jh (jw qT "NoKind") zt) (zh (jh (jw qT "NoMix") zt) (zh (jh (jw qT "NoNumber") zt) zm))) [some u,some (.xc x),none,m] A=.ok (qo i 3 3) A:=λm A=>by
  rcases two with ⟨rfl,rfl⟩|⟨rfl,rfl⟩|⟨rfl,rfl⟩<;>kernel_rfl
 have a2:∀(m:Option W)(A:Hx),(zh (jh (jw qT "NoLot") zt) (zh (jh (jw qT "NoKinds") zt) (zh (jh (jw qT "NoPaper") zt) zm))) [some u,some (.xc x),none,m] A=.ok (qo i 6 3) A:=λm A=>by
  rcases two with ⟨rfl,rfl⟩|⟨rfl,rfl⟩|⟨rfl,rfl⟩<;>kernel_rfl
 have c:∀(m:Option W)(A:Hx),(zh (jh (jw qT "NoParting") zt) (zh (jh (jw qT "NoClosed") zt) (zh (jh (jw qT "TooMany") zt) zm))) [some u,some (.xc x),none,m] A=.ok (qo i 9 3) A:=λm A=>by
  rcases two with ⟨rfl,rfl⟩|⟨rfl,rfl⟩|⟨rfl,rfl⟩<;>kernel_rfl
 have b:∀(m:Option W)(A:Hx),(zh (jh (jw qT "NoText") zt) (zh (jh (jw qT "NoLine") zt) (zh (jh (jw qT "NoDeed") zt) zm))) [some u,some (.xc x),none,m] A=.ok (qo i 12 3) A:=λm A=>by
  rcases two with ⟨rfl,rfl⟩|⟨rfl,rfl⟩|⟨rfl,rfl⟩<;>kernel_rfl
 have a:∀(m:Option W)(A:Hx),(zh (jh (jw qT "NoWeights") zt) (zh (jh (jw qT "NotWhole") zt) (zh (jh (jw qT "NoNumbers") zt) zm))) [some u,some (.xc x),none,m] A=.ok (qo i 15 3) A:=λm A=>by
  rcases two with ⟨rfl,rfl⟩|⟨rfl,rfl⟩|⟨rfl,rfl⟩<;>kernel_rfl
 have ap:∀n,qo i 0 n++qo i n 3=qo i 0 (n+3):=λn=>by
  unfold qo;rw[<- aO]
  congr 1
  have:=List.range'_append_1 (s:=0) (m:=n) (n:=3)
  rw[zero_add]at this;exact this
 have E:zM 3 (qi (zh (jh (jw qT "NoTable") zt) (zh (jh (jw qT "NotSteady") zt) (zh (jh (jw qT "NoPlace") zt) zm)))) [some u,some (.xc x),none,none] A=.ok (.nx [some u,some (.xc x),none,some (.ref (A.length+0))]) (A++[.lst (qo i 0 3)]):=(jd (j6 (d _ A))).trans rfl;refine(zL E).trans ?_;refine(zL (KN (A:=A) (L:=[.lst (qo i 0 3)]) (j:=0) (xs:=qo i 0 3) (ys:=qo i 3 3) (zs:=qo i 0 6) rfl a1 (by simp[qo]) (ap 3))).trans ?_
 refine(zL (KN (A:=A) (L:=[.lst (qo i 0 3),.lst (qo i 3 3),.lst (qo i 0 6)]) (j:=2) (xs:=qo i 0 6) (ys:=qo i 6 3) (zs:=qo i 0 9) rfl a2 (by simp[qo]) (ap 6))).trans ?_
 refine(zL (KN (A:=A) (L:=[.lst (qo i 0 3),.lst (qo i 3 3),.lst (qo i 0 6),.lst (qo i 6 3),.lst (qo i 0 9)]) (j:=4) (xs:=qo i 0 9) (ys:=qo i 9 3) (zs:=qo i 0 12) rfl c (by simp[qo]) (ap 9))).trans ?_
 refine(zL (KN (A:=A) (L:=[.lst (qo i 0 3),.lst (qo i 3 3),.lst (qo i 0 6),.lst (qo i 6 3),.lst (qo i 0 9),.lst (qo i 9 3),.lst (qo i 0 12)]) (j:=6) (xs:=qo i 0 12) (ys:=qo i 12 3) (zs:=qo i 0 15) rfl b (by simp[qo]) (ap 12))).trans ?_
 refine(zL (KN (A:=A) (L:=[.lst (qo i 0 3),.lst (qo i 3 3),.lst (qo i 0 6),.lst (qo i 6 3),.lst (qo i 0 9),.lst (qo i 9 3),.lst (qo i 0 12),.lst (qo i 12 3),.lst (qo i 0 15)]) (j:=8) (xs:=qo i 0 15) (ys:=qo i 15 3) (zs:=qo i 0 18) rfl a (by simp[qo]) (ap 15))).trans ?_
 generalize hB:A++([.lst (qo i 0 3),.lst (qo i 3 3),.lst (qo i 0 6),.lst (qo i 6 3),.lst (qo i 0 9),.lst (qo i 9 3),.lst (qo i 0 12),.lst (qo i 12 3),.lst (qo i 0 15)]++[.lst (qo i 15 3),.lst (qo i 0 18)])=B;have hl:B.length=A.length+11:=by rw[<- hB];simp
 have hm:B[A.length+10]? =some (.lst (qo i 0 18)):=by rw[<- hB,ar (by omega),show A.length+10-A.length=10 by omega];rfl
 refine(zL (ρ1:=[some u,some (.xc x),none,some (.ref (A.length+10))]) (A1:=B) ((yP (A1:=B) (gD (k:=true) ?_)).trans rfl)).trans (jb (jM ?_))
 ·rcases two with ⟨rfl,rfl⟩|⟨rfl,rfl⟩|⟨rfl,rfl⟩<;>kernel_rfl
 have e:=Uv (cap:=[3]) (mi:=qN (zW (.int 18))) (j:=ye 0 18) (ifs:=zi zB zt zr) (me:=qh 0) (ρ:=[some u,some (.xc x),none,some (.ref (A.length+10))]) (A:=B) (N:=18) (item:=λk=>.int (0+(k:Int))) (g:=λk=>.int (0+(k:Int))) (keep:=λk=>decide (k=i)) rfl rfl (by unfold qj;omega) (λk h=>kf h) (yY (by omega))
  (λk h=>by
   refine(z7 (zy (i:=1) (w:=.ref (A.length+10)) rfl) (zy (i:=0) (w:=.int (0+(k:Int))) rfl)).trans ?_;rw[Int.zero_add];refine ZD hm ?_;unfold qo;rw[ax,List.getElem?_range' (by omega)]
   simp) (λk h _=>rfl)
 rw[ko e,hl];have hf:((List.range 18).filter λk=>decide (k=i)).map (λk:Nat=>W.int (0+(k:Int)))=[.int i]:=by
  rcases two with ⟨rfl,rfl⟩|⟨rfl,rfl⟩|⟨rfl,rfl⟩<;>rfl
 rw[hf,<- hB,aN]
 rfl
def pv (h:wM x=some i):qT.contains x=true:=by
 rcases O4 h with ⟨rfl,_⟩|⟨rfl,_⟩|⟨rfl,_⟩<;>decide +kernel
def RG (t:Lm)(k:Nat)(ws:List W)(A:Hx):R W:=match wR [t] k ws A with
 |.exc x A1=>(match wM x with
  |some i=>.ok (.ref (A1.length+11)) (A1++GX i)|none=>.bad)
 |_=>.bad
section
variable {PG:gM}{k:Nat}{t:Lm}{q:Str}
def pw (hl:wR [t] k ws A=.exc x A1)(h:wM x=some i):
  qt 4 (Kc PG (wR [t])) [.clo k ws (PG k)] A=.ok (.ref (A1.length+11)) (A1++GX i):=by
 have E:XU 0 PG (wR [t]) [some (.clo k ws (PG k)),some .non,none,none] A=.exc x A1:=by
  unfold XU;refine(aj rfl).trans hl
 have e:WD 0 1 2 qT PG (wR [t]) [some (.clo k ws (PG k)),some .non,none,none] A=.ok (.nx [some (.clo k ws (PG k)),some (.xc x),none,none]) A1:=by
  unfold WD;rw[E];dsimp only;rw[aj (pv h)]
  rfl
 refine jC ?_;unfold Kc;refine(zL (ρ1:=[some (.clo k ws (PG k)),some .non,none,none]) (A1:=A) rfl).trans ?_;exact(zL e).trans (Aw h _ A1)
def Ik (hl:wR [t] k ws A=.exc x A1)(h:wM x=some i):RG t k ws A=.ok (.ref (A1.length+11)) (A1++GX i):=by
 unfold RG;rw[hl];dsimp only;rw[h]
def Lo (us:List W)(A:Hx):Qu PG (RG t) us A=.bad∨qt 4 (Kc PG (wR [t])) us A=Qu PG (RG t) us A:=by
 by_cases H:Qu PG (RG t) us A=.bad
 ·exact .inl H
 right
 unfold Qu at H ⊢
 split
 ·rename_i k ws P
  dsimp only at H
  by_cases a:P=PG k
  ·subst a
   rw[aj rfl]at H ⊢;cases e:wR [t] k ws A with
   |exc x A1=>
    cases hm:wM x with
    |none=>exfalso;apply H;unfold RG;rw[e];dsimp only;rw[hm]|some i=>rw[pw e hm,Ik e hm]
   |ok w A1=>exfalso;apply H;unfold RG;rw[e]|bad=>exfalso;apply H;unfold RG;rw[e]
  ·rw[ao a]at H;exact absurd rfl H
 ·rename_i h
  exfalso
  apply H
  split
  ·rename_i k ws P
   exact(h k ws P rfl).elim
  ·rfl
def Mm (a:A[n]? =some (.tab q Pt))(H:JM t.idx ρ=some ws)(hl:t.m (ws.map some) A=.exc x A1)(h:wM x=some i):wN n q Pt t.idx (RG t 0) ρ A=.ok (.ref (A1.length+11)) (A1++GX i):=by
 unfold wN;rw[a];dsimp only;rw[aj ⟨rfl,rfl⟩,H];exact Ik hl h
def IF (A:Hx)(i:Nat):(A++GX i)[A.length+11]? =some (.lst [.int (i:Int)]):=by
 rw[ar (by omega),show A.length+11-A.length=11 by omega]
 rfl
def DD:wM "NoTable"=some 0:=by decide +kernel
def Ed:wM "NotSteady"=some 1:=by decide +kernel
def EN:wM "NotWhole"=some 16:=by decide +kernel
end
def two_N (h:kM (.ref j) A=some .lst):wH A (.tup [.tup [.int 0,.int 1],.ref j]):=λB k=>by
 unfold Zy Kz;refine jC ?_;unfold Gy;have H:=k _ _ h;have e:Yd [.ref j,.int 2] B=.ok (.bl false) B:=by
  unfold Yd Gx;refine jC ?_;unfold Up;exact jb (jM (K8 ((L9 (zy rfl) H).trans rfl)))
 have b:Z0 [.ref j,.int 2,.int 2] B=.ok (.bl false) B:=by
  unfold Z0 W9;refine jC ?_;unfold VA;exact jb (jM (K8 ((jt (ws:=[.ref j,.int 2]) (A1:=B) rfl).trans e)))
 have a:Z0 [.tup [.int 0,.int 1],.int 2,.int 2] B=.ok (.bl true) B:=by kernel_rfl
 have E:=GO (cap:=[1]) (A:=B) (ρ:=[some (.tup [.tup [.int 0,.int 1],.ref j]),some (.int 2)]) (ws:=[.tup [.int 0,.int 1],.ref j]) (me:=zH Z0 (zh zr (zh zt (zh zt zm)))) (g:=λw=>match w with|.tup _=>.bl true|_=>.bl false) (zy (i:=0) rfl) (by simp[qj]) (λw hw=>by
  rcases cm.mp hw with rfl|hw
  ·exact(jt (A1:=B) rfl).trans a
  ·rw[cw.mp hw]
   exact(jt (ws:=[.ref j,.int 2,.int 2]) (A1:=B) rfl).trans b)
 refine(zL (ρ1:=[some (.tup [.tup [.int 0,.int 1],.ref j]),none]) (A1:=B) rfl).trans ((zL (ρ1:=[some (.tup [.tup [.int 0,.int 1],.ref j]),some (.int 2)]) (A1:=B) rfl).trans ?_);exact jb ((gn (gD (k:=false) ((yB E).trans rfl))).trans (jb (jM qy)))
def px (s:jG n A):∃w B,J3 [.ref n] A=.ok w B/\wH B w/\Kn n A B:=by
 unfold J3 VD;unfold RY;have E:∀ρ,ET (qi (zh (qb (zh zV (zh qp zm))) (zh (qb (zh qp (zh zV zm))) zm))) ρ:=λρ A=>⟨_,_,j6 (zS (wL (zS qy (zS qy qE))) (zS (wL (zS qy (zS qy qE))) qE)),Ext.one,ID L5 (by decide)⟩
 have e:∀ρ,ET (qb (zh (qb (zh zV (zh qp zm))) (zh (qi (zh qp (zh zV zm))) zm))) ρ:=λρ A=>⟨_,_,wL (zS (wL (zS qy (zS qy qE))) (zS (j6 (zS qy (zS qy qE))) qE)),Ext.one,two_N L5⟩;obtain⟨a,g,d,t1⟩:=mY (k:=8) (ρ:=[rO n,none]) (wt (gG (m:=Q8) (λ_=>rfl)) (wt (gG (m:=zV) (λ_=>rfl)) (wt (gG (m:=qb zm) (w:=.tup []) (λ_=>rfl)) (wt (gG (m:=qb (zh (qb (zh qp zm)) zm)) (w:=.tup [.tup [.int 1]]) (λ_=>rfl)) (wt (gG (m:=qb (zh (qb (zh zV (zh qp zm))) (zh (qb (zh qp (zh zV zm))) (zh (qb (zh zV (zh zV zm))) zm)))) (w:=.tup [.tup [.int 0,.int 1],.tup [.int 1,.int 0],.tup [.int 0,.int 0]]) (λ_=>rfl))
  (wt (gG (m:=qb (zh (qb (zh zV (zh wG zm))) (zh (qb (zh wG (zh zV zm))) zm))) (w:=.tup [.tup [.int 0,.int 2],.tup [.int 2,.int 0]]) (λ_=>rfl)) (wt (gG (m:=qb (zh (qb (zh zV (zh qp zm))) (zh (qb (zh wG (zh zV zm))) zm))) (w:=.tup [.tup [.int 0,.int 1],.tup [.int 2,.int 0]]) (λ_=>rfl)) (wt (E _) L6)))))))) A
 obtain⟨r,f,c,t⟩:=mZ (k:=7) (i:=1) (ρ:=[rO n,rO a]) t1 (wt (gG (m:=qb (zh (qb (zh zV (zh zV zm))) (zh (qb (zh zV (zh zV zm))) zm))) (w:=.tup [.tup [.int 0,.int 0],.tup [.int 0,.int 0]]) (λ_=>rfl)) (wt (gG (m:=qb (zh (qb (zh zV (zh qa zm))) (zh (qb (zh qa (zh zV zm))) zm))) (w:=.tup [.tup [.int 0,.bl true],.tup [.bl true,.int 0]]) (λ_=>rfl)) (wt (e _)
  (wt (gG (m:=qb (zh (qb (zh zV (zh qp zm))) zm)) (w:=.tup [.tup [.int 0,.int 1]]) (λ_=>rfl)) (wt (gG (m:=zW (.str "01/10")) (λ_=>rfl)) (wt mX (wt (gG (m:=zi Qn (qb (zh (zi Qn (qb (zh zV zm)) WU) zm)) WU) (w:=.tup (List.replicate 9 (.tup (List.replicate 9 (.int 0))))) (λ_=>rfl)) L6))))))) rfl (by omega)
 obtain⟨w,C,b,hw,kn⟩:=m3 (i:=1) (ρ:=[rO n,rO r]) (mm:=zW (.int 15)) (m:=15) s t rfl rfl (λ_=>rfl) rfl (by decide) (by decide)
 refine⟨w,C,jC ?_,hw,kn⟩;exact(zL ((jd d).trans rfl)).trans ((zL ((jd c).trans rfl)).trans (jb (jM b)))
noncomputable def QH (m a b:Nat):bJ:=(List.range m).map λi=>(List.range m).map λj=>if i=j then 0 else if (i=a/\j=b)∨(i=b/\j=a) then 2 else 1
noncomputable def Vr:List (Nat×Nat×Nat):=[4,5,6,7,8].flatMap λm=>(List.range m).flatMap λa=>(List.range (m-1)).map λx=>(m,a,x)
noncomputable abbrev wV (q:Nat×Nat×Nat):Nat:=(q.2.1+1+q.2.2)%q.1
def pz:(Vr.all λq=>YS (QH q.1 q.2.1 (wV q))&&decide (qK (QH q.1 q.2.1 (wV q))=3)&&!(Zt (QH q.1 q.2.1 (wV q)) 3).isEmpty)=true:=by decide +kernel
def Rw:Ex:=zj (ZK k9 wG (zi zB zK zP) qd) (zj (ZK k9 wG (zi zB zK qd) zP) (zj (qA (mQ jA (zU 1 [] (qu zK) (zE 0) qa (zR (mQ jA (zN zr)))))) zx))
noncomputable def JU (m:Nat):bJ:=(List.range m).map λi=>(List.range m).map λj=>if i=j then 0 else 1
def QE (m:Nat)(o:O):Hx:=[o]++((JU m).map λr=>O.lst (r.map W.int))++[O.lst ((List.range (JU m).length).map λi=>W.ref ([o].length+i))]
noncomputable def S8 (a:W):R Fl->Option O
 |.ok (.rt w) (o::_)=>if w.beq a then some o else none|_=>none
def pA (o:O):Vr.map (λq=>S8 (zo (QH q.1 q.2.1 (wV q))) (Rw [rO 0,some (.int (q.1:Int)),rO (q.1+1),some (.int (q.2.1:Int)),some (.int (wV q:Int))] (QE q.1 o)))=List.replicate 160 (some o):=by kernel_rfl
def pB:(([4,5,6,7,8]:bP).all λ(m:Nat)=>Vj (Ua [.int (m:Int)] []) (.inl (zo (JU m))))=true:=by kernel_rfl
def U6 (m:Nat):(JU m).length=m:=by simp[JU]
def pC {q:Nat×Nat×Nat}(a:q∈Vr)(o:O):∃l,Rw [rO 0,some (.int (q.1:Int)),rO (q.1+1),some (.int (q.2.1:Int)),some (.int (wV q:Int))] (QE q.1 o)=.ok (.rt (zo (QH q.1 q.2.1 (wV q)))) (o::l):=by
 have h:=List.mem_map_of_mem (f:=λq=>S8 (zo (QH q.1 q.2.1 (wV q))) (Rw [rO 0,some (.int (q.1:Int)),rO (q.1+1),some (.int (q.2.1:Int)),some (.int (wV q:Int))] (QE q.1 o))) a;rw[pA o]at h;have e:=List.eq_of_mem_replicate h;unfold S8 at e
 split at e
 ·rename_i w o' l he
  by_cases H:w.beq (zo (QH q.1 q.2.1 (wV q)))=true
  ·rw[aj H]at e
   cases e;rw[W.eq_of H]at he;exact⟨l,he⟩
  ·rw[ao H]at e;cases e
 ·cases e
section
def pD (s:jG n A):∃t o,Kk [.ref n] A=.ok (zo t) (A.set n o)/\jG n (A.set n o)/\qQ t/\∃ws,∀B,Jh [zo t] B=.ok (.tup ws) B:=by
 obtain⟨x,b,E,U,h⟩:=s;have hm:=yD E;obtain⟨r,v,e1,N,rl,s1⟩:=Yp (n:=0) (A:=[.lst [.int x,.bl b]]) ⟨x,b,rfl,U,h⟩ (m:=5) (by decide) (by decide)
 obtain⟨d,rfl⟩:=a5 N;have hd:d<5:=by omega
 have M:4+d∈[4,5,6,7,8]:=by
  have c:d=0∨d=1∨d=2∨d=3∨d=4:=by omega
  rcases c with rfl|rfl|rfl|rfl|rfl<;>decide
 generalize H:4+d=m at M;have Z:∀B,Jl [.int (m:Int)] B=.ok (zo (JU m)) B:=λB=>ku (r:=.inl _) rfl (cn.mp pB m M) B;have s2:jG 0 (QE m v):=by obtain⟨y,z,u,q⟩:=s1;exact⟨y,z,u,q⟩
 obtain⟨r2,T,e2,p,L,s3⟩:=Yp s2 (m:=(m:Int)) (by omega) (by omega)
 obtain⟨a,rfl⟩:=a5 p;have g:jG 0 (QE m T):=s3;obtain⟨r3,e,e3,j,J,s4⟩:=Yp g (m:=(m:Int)-1) (by omega) (by omega)
 obtain⟨y,rfl⟩:=a5 j;have S:jG 0 (QE m e):=s4;have D:(m,a,y)∈Vr:=List.mem_flatMap.mpr ⟨m,M,List.mem_flatMap.mpr ⟨a,cj.mpr (by omega),cu.mpr ⟨y,cj.mpr (by omega),rfl⟩⟩⟩
 obtain⟨l,Y⟩:=pC D e;have w:=cn.mp pz _ D;simp only[ah,ai]at w;obtain⟨⟨h1,h2⟩,I⟩:=w;have hT:=KR h1;obtain⟨C,f,u,q,P⟩:=S;have Q:e=.lst [.int C,.bl f]:=by
  have:some e=some (O.lst [.int C,.bl f]):=u
  injection this
 refine⟨QH m a (wV (m,a,y)),.lst [.int C,.bl f],?_,⟨C,f,aC hm,q,P⟩,hT,?_⟩
 ·refine G8 (us:=[]) (A1:=e::l) E rfl ?_ (by rw[Q];rfl) (ZE _)
  refine jC ?_;unfold PQ;refine(zL (ρ1:=[rO 0,iO m,none,none,none]) (A1:=[v]) ((jd ((z7 qy ((jt (zS (zy rfl) (zS qy qE))).trans e1)).trans rfl)).trans ?_)).trans ?_
  ·rw[<- H]
   rfl
  refine(zL (ρ1:=[rO 0,iO m,rO (m+1),none,none]) (A1:=QE m v) ((jd (CF (t:=JU m) (by rw[U6];omega) (λr X=>?_) (cv rfl (Z _)))).trans ?_)).trans ?_
  ·obtain⟨i,_,rfl⟩:=cu.mp X
   rw[U6];simp
  ·unfold QE
   rw[U6,add_comm]
   rfl
  refine(zL (jd ((jt (zS (zy rfl) (zS (zy rfl) qE))).trans e2))).trans ?_;refine(zL (ρ1:=[rO 0,iO m,rO (m+1),iO a,some (.int (wV (m,a,y):Int))]) (A1:=QE m e) ((jd ((z7 ((z7 ((z7 (zy rfl) qy).trans rfl) ((jt (zS (zy rfl) (zS ((z7 (zy rfl) qy).trans rfl) qE))).trans e3)).trans rfl) (zy rfl)).trans (Jx (by omega)))).trans ?_)).trans ?_
  ·unfold wV
   rw[Int.natCast_emod]
   rfl
  exact Y
 ·have e9:∀B,_:=λB=>NX hT (K:=3) h2 B
  cases h:(Zt (QH m a (wV (m,a,y))) 3) with
  |nil=>rw[h]at I;cases I|cons z zs=>
   exact⟨[.int (z.1.1:Int),.int (z.1.2:Int),.int (z.2.1:Int),.int (z.2.2:Int)],λB=>by rw[e9 B,h];rfl⟩
variable {w:W}{Pu:Addr}{c:jF}{u:bJ}
def SO (h:Z1 [w] A=.exc x A1):yK [w] A=.exc x A1:=by
 refine Jq ?_;unfold Kl;exact ZA (Ta (cv rfl h))
def pE (h:wH A w):yK [w] A=.exc "NoTable" A:=SO (rw_E (nN h))
def pF (h:qQ t)(e:Jh [zo t] A=.ok (.tup ws) A):yK [zo t] A=.exc "NotSteady" A:=SO (rw_E (nO h e))
def pG (H:gy c=true)(h:In c u)(hw:c.w.length≠c.k):yK [zo u] A=.exc "NotWhole" (A++[.lst (c.w.map zu)]):=SO (rw_X H h hw)
abbrev T0:Lm:=KQ yK
abbrev T1:Lm:=KS yK
abbrev T2:Lm:=K0 yK
def pH (h:yK [w] A=.exc x A1):Q1 0 "self_order" yK (zh zt zm) [some (.fn "self_order"),some w] A=.exc x A1:=by
 unfold Q1;show(if ("self_order":Str) = "self_order" then _ else _)=_;rw[aj rfl];exact cv rfl h
def pI {t:Lm}{r g:Nat}(ti:t.idx=[0,1])(tm:t.m=Q1 0 "self_order" yK (zh zt zm))(c:A[2]? =some (.tab kS Pu))(h:A[r]? =some (.lst [.fn "self_order"]))(h1:ρ[1]? =some (rO r))(a:ρ[i]? =some (some w))(H:yK [w] A=.exc x A)(b:wM x=some g):
  qY (zU 1 [i] (qu zt) (zE 0) qa (zR (wN 2 kS Pu t.idx (RG t 0)))) ρ A=.ok (.ref (A++GX g).length) (A++GX g++[.lst [.ref (A.length+11)]]):=by
 refine ko ?_;unfold zU;rw[LR (zy h1) h,zT];have e:wN 2 kS Pu t.idx (RG t 0) [some (.fn "self_order"),some w] A=.ok (.ref (A.length+11)) (A++GX g):=Mm c (ws:=[.fn "self_order",w]) (by rw[ti];rfl) (by rw[tm];exact pH H) b
 have hn:Qo 1 [i] ρ=[none,some w]:=by
  unfold Qo;rw[List.map_singleton,a]
  rfl
 rw[hn];have go:jn ⟨λA i=>(zX (.ref r) A).map λws=>ws[i]?,1⟩ (zE 0) qa (zR (wN 2 kS Pu t.idx (RG t 0))) 1 0 [none,some w] [] A=.ok ([some (.fn "self_order"),some w],[.ref (A.length+11)]) (A++GX g):=by
  refine(Bv (w:=.fn "self_order") ((Wl h).trans rfl) e (by simp[qj])).trans (BM ?_)
  exact(Wl (Ext.at (A':=A++GX g) ⟨_,rfl⟩ h)).trans rfl
 show R.bind (R.nox (jn ⟨λA i=>(zX (.ref r) A).map λws=>ws[i]?,1⟩ (zE 0) qa (zR (wN 2 kS Pu t.idx (RG t 0))) 1 0 [none,some w] [] A)) _=_;rw[go]
 rfl
def pJ {a b:W}{d:PyData}(c:qL A 8 a=some d)(H:qL A 8 b=some d)(h:PyData.eqv d d=true):jB a b A=.ok (.bl true) A:=by
 show wU false a b A=_;unfold wU;rw[c,H];dsimp only;rw[h]
 rfl
def pK {g r:Nat}(h:A[r]? =some (.lst [.fn "self_order"]))(h1:ρ[1]? =some (rO r)):zi qx (qi (zh (qi (zh (zW (.int (g:Int))) zm)) zm)) (mQ qc (zN zt)) ρ A=.ok (.ref (A.length+2)) (A++[.lst [.int (g:Int)]]++[.lst [.ref A.length]]++[.lst [.ref A.length]]):=by
 have E:=j6 (zS (j6 (zS (qy (w:=.int (g:Int)) (ρ:=ρ) (A:=A)) qE)) qE);have e:=KU (i:=1) h1 (Ext.at (A':=A++[O.lst [.int (g:Int)]]++[O.lst [.ref A.length]]) ⟨_,aN ..⟩ h);refine(z7 E e).trans ?_;unfold qx;dsimp only;rw[jm];dsimp only;rw[aj (by show(jH 1&&decide (1 * 1<=qj))=true;decide)]
 simp
def LQ {t:Lm}{r g:Nat}(ti:t.idx=[0,1])(tm:t.m=Q1 0 "self_order" yK (zh zt zm))(p:A[2]? =some (.tab kS Pu))(e:A[r]? =some (.lst [.fn "self_order"]))(h1:ρ[1]? =some (rO r))(l:ρ[i]? =some (some w))(j:yK [w] A=.exc x A)(n:wM x=some g)(v:PyData.eqv (.list [.list [.int (g:Int)]]) (.list [.list [.int (g:Int)]])=true):
  ∃a b C,Ext A C/\qL C 8 a=some (.list [.list [.int (g:Int)]])/\qL C 8 b=some (.list [.list [.int (g:Int)]])/\∀f,zi f (qY (zU 1 [i] (qu zt) (zE 0) qa (zR (wN 2 kS Pu t.idx (RG t 0))))) (zi qx (qi (zh (qi (zh (zW (.int (g:Int))) zm)) zm)) (mQ qc (zN zt))) ρ A=f a b C:=by
 have E:=pI ti tm p e h1 l j n;have c:Ext A (A++GX g++[O.lst [.ref (A.length+11)]]):=Ext.trans ⟨_,rfl⟩ .one;have H:(A++GX g++[O.lst [.ref (A.length+11)]])[A.length+11]? =some (.lst [.int (g:Int)]):=jR (IF A g);have h:(A++GX g++[O.lst [.ref (A.length+11)]])[(A++GX g).length]? =some (.lst [.ref (A.length+11)]):=jm;generalize hB:A++GX g++[O.lst [.ref (A.length+11)]]=B at E c H h;have q:=pK (g:=g) (ρ:=ρ) (c.at e) h1;have X:Ext B (B++[O.lst [.int (g:Int)]]++[O.lst [.ref B.length]]++[O.lst [.ref B.length]]):=Ext.one.app.app;have o:(B++[O.lst [.int (g:Int)]]++[O.lst [.ref B.length]]++[O.lst [.ref B.length]])[B.length]? =some (.lst [.int (g:Int)]):=jR (jR jm);have d:(B++[O.lst [.int (g:Int)]]++[O.lst [.ref B.length]]++[O.lst [.ref B.length]])[B.length+2]? =some (.lst [.ref B.length]):=by
  rw[show B.length+2=(B++[O.lst [.int (g:Int)]]++[O.lst [.ref B.length]]).length by simp]
  exact jm
 refine⟨_,_,_,c.trans X,?_,?_,λf=>z7 E q⟩
 ·exact NV (k:=7) (X.at h) (O6 (Xc (X.at H)) rfl)
 ·exact NV (k:=7) d (O6 (Xc o) rfl)
def XZ (P:Addr):Fn:=qt 4 (Vt J3 Kk yK RG P)
def pL {r:Nat}(s:jG n A)(H:A[2]? =some (.tab kS Pu))(N:2<n)(h:A[r]? =some (.lst [.fn "self_order"]))(nr:r≠n):∃B,XZ Pu [.ref n,.ref r] A=.ok (.bl true) B/\Kn n A B:=by
 obtain⟨w,c,v,h1,k1⟩:=px s;obtain⟨t,o,e,s2,g,ws,j⟩:=pD k1.st;have k2:Kn n c (c.set n o):=⟨Kp.set,s2⟩;have h2:wH (c.set n o) w:=h1.mono (k2.ky k1.st);have K:=k1.trans k2;generalize l:c.set n o=f at e s2 k2 h2 K;have T:f[2]? =some (.tab kS Pu):=by rw[K.kp.at_ 2 (yD H) (by omega)];exact H
 have d:f[r]? =some (.lst [.fn "self_order"]):=by rw[K.kp.at_ r (yD h) nr];exact h
 obtain⟨a,b,C,x,c1,c2,p⟩:=LQ (t:=T0) (i:=2) (ρ:=[rO n,rO r,some w,some (zo t)]) rfl rfl T d rfl rfl (pE h2) DD (by decide +kernel)
 have u:=(p jo).trans (IC c1 c2 (by decide +kernel))
 obtain⟨J,I,D,X,z,y,E⟩:=LQ (t:=T1) (i:=3) (ρ:=[rO n,rO r,some w,some (zo t)]) rfl rfl (x.at T) (x.at d) rfl rfl (pF g (j C)) Ed (by decide +kernel)
 have q:=(E jB).trans (pJ z y (by decide +kernel))
 refine⟨D,jC ?_,K.trans (Kn.ext s2 (x.trans X))⟩;unfold Vt;exact(zL (Mq (wL (zS (cv rfl v) (zS (cv rfl e) qE))) rfl)).trans ((zL ((yP u).trans jk)).trans (jb (jM q)))
end
section
def pM (A:Hx):Jl [.int 5] A=.ok (zo (bT 0)) A:=ku (r:=.inl _) rfl (by decide +kernel) A
def pN (A:Hx):gB [.int 6] A=.ok (zo (bT 1)) A:=ku (r:=.inl _) rfl (by decide +kernel) A
def HH (A:Hx):gB [.int 4] A=.ok (zo (bT 2)) A:=ku (r:=.inl _) rfl (by decide +kernel) A
def pO (A:Hx):VX [.int 2,.int 3] A=.ok (zo (bT 3)) A:=ku (r:=.inl _) rfl (by decide +kernel) A
def pP (A:Hx):VW [.int 3] A=.ok (zo (bT 4)) A:=ku (r:=.inl _) rfl (by decide +kernel) A
def pQ (A:Hx):VH [.int 2] A=.ok (zo (bT 5)) A:=ku (r:=.inl _) rfl (by decide +kernel) A
def pR (A:Hx):Uj [.int 4] A=.ok (zo (bT 6)) A:=ku (r:=.inl _) rfl (by decide +kernel) A
def HJ (A:Hx):Jl [.int 2] A=.ok (zo [[0,1],[1,0]]) A:=ku (r:=.inl _) rfl (by decide +kernel) A
def pT (A:Hx):Jl [.int 3] A=.ok (zo [[0,1,1],[1,0,1],[1,1,0]]) A:=ku (r:=.inl _) rfl (by decide +kernel) A
def pU (A:Hx):V7 [zo [[0,1],[1,0]],zo [[0,1,1],[1,0,1],[1,1,0]]] A=.ok (zo (bT 7)) A:=ku (r:=.inl _) rfl (by decide +kernel) A
def pV (A:Hx):VZ [zo [[0,1],[1,0]],zo (bT 2)] A=.ok (zo (bT 8)) A:=ku (r:=.inl _) rfl (by decide +kernel) A
noncomputable abbrev c1 {m:Ev}{w v:W}(hm:m ρ A=.ok w A)(h:f [w] A=.ok v A):zH f (zh m zm) ρ A=.ok v A:=(jt (zS hm qE)).trans h
noncomputable abbrev c2 {m k:Ev}{w x v:W}(hm:m ρ A=.ok w A)(H:k ρ A=.ok x A)(h:f [w,x] A=.ok v A):zH f (zh m (zh k zm)) ρ A=.ok v A:=(jt (zS hm (zS H qE))).trans h
abbrev n6:List W:=[zo (bT 0),zo (bT 1),zo (bT 2),zo (bT 3),zo (bT 4),zo (bT 5)]
abbrev n3:List W:=[zo (bT 6),zo (bT 7),zo (bT 8)]
def M5 (s:jG n A):∃c u o,c∈Cz/\In c u/\Zu [.ref n] A=.ok (zo u) (A.set n o)/\jG n (A.set n o):=by
 obtain⟨x,b,d,j,B⟩:=s;have hm:=yD d;obtain⟨r,a,C,e,D,s1⟩:=Yp (n:=0) (A:=[.lst [.int x,.bl b]]) ⟨x,b,rfl,j,B⟩ (m:=9) (by decide) (by decide)
 obtain⟨i,rfl⟩:=a5 e;have H:i<9:=by omega
 have pt:=(ah _ _).mp (cn.mp LK i (cj.mpr H));have hT:=KR pt.1;have s2:jG 0 [a,.lst n6,.lst n3,.lst (n6++n3)]:=by obtain⟨y,z,Q,q⟩:=s1;exact⟨y,z,Q,q⟩
 obtain⟨p,o,g,E,⟨y,z,Q,q,f⟩,t,ho⟩:=N0 hT s2;obtain⟨c,v,l⟩:=in_of H t ho;refine⟨c,_,.lst [.int y,.bl z],v,l,?_,y,z,aC hm,q,f⟩;refine G8 (A1:=[a,.lst n6,.lst n3,.lst (n6++n3)].set 0 g) d rfl ?_ Q (ZE _);refine jC ?_;unfold RU;refine(zL (ρ1:=[rO 0,iO i,none]) (A1:=[a]) (jd ((jt (zS (zy rfl) (zS qy qE))).trans C))).trans ?_;refine(zL (ρ1:=[rO 0,iO i,rO 1]) (A1:=[a,.lst n6]) (jd (j6 (ws:=n6) (zS (c1 qy (pM _)) (zS (c1 qy (pN _)) (zS (c1 qy (HH _)) (zS (c2 qy qy (pO _)) (zS (c1 qy (pP _)) (zS (c1 qy (pQ _)) qE))))))))).trans ?_;refine(zL (ρ1:=[rO 0,iO i,rO 3]) (A1:=[a,.lst n6,.lst n3,.lst (n6++n3)]) (jd ((z7 (zy rfl) (j6 (ws:=n3) (A1:=[a,.lst n6]) (zS (c1 qy (pR _)) (zS (c2 (c1 qy (HJ _)) (c1 qy (pT _)) (pU _)) (zS (c2 (c1 qy (HJ _)) (c1 qy (HH _)) (pV _)) qE))))).trans (KI rfl rfl (by decide))))).trans ?_
 refine jb (jM ((jt (zS (zy rfl) (zS (bv rfl rfl (ZD (s:=i) rfl (w:=zo (bT i)) ?_)) qE))).trans E))
 match i,H with
 |0,_=>rfl|1,_=>rfl|2,_=>rfl|3,_=>rfl|4,_=>rfl|5,_=>rfl|6,_=>rfl|7,_=>rfl|8,_=>rfl
 |i+9,h=>exact absurd h (by omega)
def pW (A:Hx):gB [.int 5] A=.ok (zo (bT 9)) A:=ku (r:=.inl _) rfl (by decide +kernel) A
def pX (A:Hx):gB [.int 7] A=.ok (zo (bT 10)) A:=ku (r:=.inl _) rfl (by decide +kernel) A
def pY (A:Hx):gB [.int 8] A=.ok (zo (bT 11)) A:=ku (r:=.inl _) rfl (by decide +kernel) A
def rB (i:Nat)(l:bP):Bool:=!decide l.Nodup || (W3 i l (rz i l)&&gy (rz i l)&&decide ((rz i l).w.length≠(rz i l).k))
def r5:(gJ 2 2).all (rB 9)=true:=by decide +kernel
def r7:(gJ 3 3).all (rB 10)=true:=by decide +kernel
def pZ:((gJ 4 3).all λl=>rB 11 (0::l))=true:=by decide +kernel
def p0:((gJ 4 3).all λl=>rB 11 (1::l))=true:=by decide +kernel
def p4:((gJ 4 3).all λl=>rB 11 (2::l))=true:=by decide +kernel
def p6:((gJ 4 3).all λl=>rB 11 (3::l))=true:=by decide +kernel
def r8:(gJ 4 4).all (rB 11)=true:=cn.mpr λl hl=>by
 obtain⟨x,H,h2⟩:=List.mem_flatMap.mp hl;obtain⟨m,hm,rfl⟩:=cu.mp h2;have H:=cj.mp H
 match x,H with
 |0,_=>exact cn.mp pZ m hm|1,_=>exact cn.mp p0 m hm|2,_=>exact cn.mp p4 m hm|3,_=>exact cn.mp p6 m hm|x+4,h=>exact absurd h (by omega)
def rk:qK (bT 9)=3/\qK (bT 10)=4/\qK (bT 11)=5:=by decide +kernel
def rt:([9,10,11].all λi=>YS (bT i))=true:=by decide +kernel
def p7 {p:bP}(H:i∈[9,10,11])(h:p∈gJ (qK (bT i)-1).toNat (qK (bT i)-1).toNat):rB i p=true:=by
 obtain⟨k1,k2,k3⟩:=rk;have c:i=9∨i=10∨i=11:=by simpa using H
 rcases c with rfl|rfl|rfl
 ·rw[k1]at h;exact cn.mp r5 p h
 ·rw[k2]at h;exact cn.mp r7 p h
 ·rw[k3]at h;exact cn.mp r8 p h
def p8 (H:i∈[9,10,11])(s:jG n A):∃c u o,gy c=true/\In c u/\c.w.length≠c.k/\ZZ [.ref n,zo (bT i)] A=.ok (zo u) (A.set n o)/\jG n (A.set n o):=by
 have hT:qQ (bT i):=KR (cn.mp rt i H);obtain⟨p,o,a,e,s2,h,ho⟩:=N0 hT s;have P:=p7 H (Hf h);unfold rB at P;rw[bj,not_eq_true',decide_eq_false_iff_not]at P;have pc:=P.resolve_left λz=>z ((h.nodup_iff).mpr nodup_range);rw[ah,ah,ai]at pc;exact⟨rz i p,_,a,pc.1.2,Ij hT h ho pc.1.1,pc.2,e,s2⟩
structure jy (ns:bK)(Pt Pu:Addr)(A:Hx):Prop where
 h0:A[0]? =some (.ro (ns.map W.int))
 h1:A[1]? =some (.tab QZ Pt)
 h2:A[2]? =some (.tab kS Pu)
def jy.kn {P:Addr}(h:jy ns Pt P A)(k:Kn n A B)(hn:2<n):jy ns Pt P B:=
 ⟨(k.kp.at_ 0 (yD h.h0) (by omega)).trans h.h0,(k.kp.at_ 1 (yD h.h1) (by omega)).trans h.h1,(k.kp.at_ 2 (yD h.h2) (by omega)).trans h.h2⟩
abbrev WB:Ex:=zj (jf (yi (zH QP (zh (zH Zv (zh zP zm)) (zh (zH QS (zh zP zm)) zm)))) yU zx) zx
abbrev BL (p P:Addr):Ex:=zj (zM 2 (zH Ya (zh zr (zh zt zm)))) (zj (qF (qu (qi (zh (zH Zu (zh zK zm)) (zh (zH Zu (zh zK zm)) zm)))) (zE 3) WB) (zj (zM 4 (zH ZZ (zh zK (zh (zH gB (zh (zi zB (qi (zh YV (zh YY (zh JS zm)))) (zH yO (zh zK (zh QF zm)))) zm)) zm)))) (zj (jf (zi jo (wN 1 QZ p T2.idx (RG T2 0)) (qi (zh (zW (.int 16)) zm))) yU zx) (zj (jf (yi (zH (XZ P) (zh zK (zh (qi (zh (zW (.fn "self_order")) zm)) zm)))) yU zx) zx))))
def L8 {c:jF}{u:bJ}(h:c∈Cz)(H:In c u){x0 x1 x2 x4:Option W}:WB [x0,x1,x2,some (zo u),x4] A=.ok (.nx [x0,x1,x2,some (zo u),x4]) A:=by
 have s:=cn.mp pq c h;rw[ah]at s;have e:QP [ZY c,ZY c] A=.ok (.bl true) A:=ku (r:=.inl _) (by
  show((ZY c).nr&&((ZY c).nr&&true))=true;rw[s.2]
  rfl) s.1 A
 exact(zL ((yP (gD ((jt (zS (cv rfl (pa h H A)) (zS (cv rfl (pl h H A)) qE))).trans e))).trans jk)).trans jk
abbrev fl (k n:Nat)(x3 x4:Option W):En:=[rO 0,iO k,rO n,x3,x4]
def p9 {P:Addr}{k:Nat}{x2 x3 x4:Option W}(h:jy ns Pt P A):∃y2 y y4 B,BL Pt P [rO 0,iO k,x2,x3,x4] A=.ok (.nx [rO 0,iO k,y2,y,y4]) B/\jy ns Pt P B:=by
 have l2:=yD h.h2;obtain⟨o,L,s1⟩:=m7 h.h0 k;have h1:jy ns Pt P (A++[o]):=⟨jR h.h0,jR h.h1,jR h.h2⟩;generalize hn:A.length=n at L s1;generalize hA1:A++[o]=A1 at L s1 h1;obtain⟨c,u,X,hc,hu,e2,s2⟩:=M5 s1;have k2:Kn n A1 (A1.set n X):=⟨Kp.set,s2⟩;generalize hA2:A1.set n X=A2 at e2 s2 k2;obtain⟨c',U,T,E,C,e3,s3⟩:=M5 s2;have k3:Kn n A2 (A2.set n T):=⟨Kp.set,s3⟩;generalize hA3:A2.set n T=b at e3 s3 k3;have x:Ext b (b++[O.lst [zo u,zo U]]):=Ext.one;have l:(b++[O.lst [zo u,zo U]])[b.length]? =some (.lst [zo u,zo U]):=jm;have e4:qu (qi (zh (zH Zu (zh zK zm)) (zh (zH Zu (zh zK zm)) zm))) (fl k n x3 x4) A1=.ok ⟨λA i=>(zX (.ref b.length) A).map λws=>ws[i]?,2⟩ (b++[O.lst [zo u,zo U]]):=
  LR (j6 (zS (cv rfl e2) (zS (cv rfl e3) qE))) l
 have s4:=s3.ext x;have Z:=(k2.trans k3).trans (Kn.ext s3 x);generalize hA4:b++[O.lst [zo u,zo U]]=f at e4 s4 Z l x;obtain⟨ρ',B',e5,y,rfl,rfl⟩:=wk (j:=⟨λA i=>(zX (.ref b.length) A).map λws=>ws[i]?,2⟩) (st:=turn (zE 3) WB) (N:=2) (I:=λ_ ρ B=>∃y,ρ=(fl k n y x4)/\f=B)
  (λi ρ B hi ⟨y,q,hB⟩=>by
   subst q;subst hB;have ci:i=0∨i=1:=by omega
   rcases ci with rfl|rfl
   ·exact⟨_,_,_,(Wl l).trans rfl,(yz rfl).trans (L8 hc hu),_,rfl,rfl⟩
   ·exact⟨_,_,_,(Wl l).trans rfl,(yz rfl).trans (L8 E C),_,rfl,rfl⟩)
  (λρ B ⟨_,_,hB⟩=>by subst hB;exact(Wl l).trans rfl) 2 0 (fl k n x3 x4) f (by omega) ⟨x3,rfl,rfl⟩
 have s5:=s4.ext (Ext.one (o:=.lst [.int 5,.int 7,.int 8]));obtain⟨r,e,e6,hr,k5,l5⟩:=Lj s5 (m:=3) (by decide) (by decide)
 have n5:f.length≠n:=by have:=s4.lt;omega
 have D:e[f.length]? =some (.lst [.int 5,.int 7,.int 8]):=k5.kp.get jm n5;have ek:∃i,i∈[9,10,11]/\zH gB (zh (zi zB (qi (zh YV (zh YY (zh JS zm)))) (zH yO (zh zK (zh QF zm)))) zm) (fl k n y x4) f=.ok (zo (bT i)) e:=by
  have g:∀v:Int,[(.int 5:W),.int 7,.int 8][r]? =some (.int v)->zi zB (qi (zh YV (zh YY (zh JS zm)))) (zH yO (zh zK (zh QF zm))) (fl k n y x4) f=.ok (.int v) e:=λv z=>(z7 (j6 (zS qy (zS qy (zS qy qE)))) ((jt (zS (zy rfl) (zS qy qE))).trans e6)).trans (ZD D z);have cr:r=0∨r=1∨r=2:=by omega
  rcases cr with rfl|rfl|rfl
  ·exact⟨9,by decide,(jt (zS (g 5 rfl) qE)).trans (pW _)⟩
  ·exact⟨10,by decide,(jt (zS (g 7 rfl) qE)).trans (pX _)⟩
  ·exact⟨11,by decide,(jt (zS (g 8 rfl) qE)).trans (pY _)⟩
 obtain⟨i,hi,ei⟩:=ek;obtain⟨d,v,Q,hd,z,hw,e7,s⟩:=p8 hi k5.st;have Y:Kn n e (e.set n Q):=⟨Kp.set,s⟩;generalize hA6:e.set n Q=a at e7 s Y;have K:Kn n A1 a:=(Z.trans (Kn.ext s4 Ext.one)).trans (k5.trans Y);have h6:=h1.kn K (by omega)
 have em:T2.m ([zo v].map some) a=.exc "NotWhole" (a++[.lst (d.w.map zu)]):=(jt (ρ:=[some (zo v)]) (zS (zy (i:=0) rfl) qE)).trans (pG hd z hw);have e8:=Mm (ρ:=(fl k n y (some (zo v)))) (t:=T2) h6.h1 (ws:=[zo v]) rfl em EN;have g8:=IF (a++[.lst (d.w.map zu)]) 16;have x7:Ext a (a++[.lst (d.w.map zu)]++GX 16):=Ext.one.trans ⟨_,rfl⟩;generalize hA7:a++[O.lst (d.w.map zu)]++GX 16=M at e8 g8 x7;have e9:zi jo (wN 1 QZ Pt T2.idx (RG T2 0)) (qi (zh (zW (.int 16)) zm)) (fl k n y (some (zo v))) a=.ok (.bl false) (M++[.lst [.int 16]]):=
  (z7 e8 (j6 (zS qy qE))).trans (IC (d:=.list [.int 16]) (Xc (k:=7) (jR g8)) (Xc (k:=7) jm) (by decide +kernel))
 have x8:Ext a (M++[.lst [.int 16]]):=x7.app;have S:=s.ext x8;have H:=h6.kn (Kn.ext s x8) (by omega)
 generalize hA8:M++[O.lst [.int 16]]=A8 at e9 x8 S H;obtain⟨B,J,p⟩:=pL (r:=A8.length) (S.ext (Ext.one (o:=.lst [.fn "self_order"]))) (jR H.h2) (by omega) jm (by have:=S.lt;omega)
 have h9:jy ns Pt P (A8++[.lst [.fn "self_order"]]):=⟨jR H.h0,jR H.h1,jR H.h2⟩;refine⟨rO n,y,some (zo v),B,?_,h9.kn p (by omega)⟩
 refine(zL ((jd ((jt (zS (zy rfl) (zS (zy rfl) qE))).trans L)).trans rfl)).trans ?_;refine(zL ((ym e4).trans e5)).trans ?_;refine(zL ((jd ((jt (zS (zy rfl) (zS ei qE))).trans e7)).trans rfl)).trans ?_;refine(zL ((yP e9).trans jk)).trans ?_;exact(zL ((yP (gD ((jt (zS (zy rfl) (zS (j6 (zS qy qE)) qE))).trans J))).trans jk)).trans jk
end
def T5 (p P:Addr):Fn:=qt 5 (T9 QS (XZ P) gB QP Ya yO ZZ Zu Zv yK RG p)
def Ay:Lz QZ kS T5:=λns hl p P=>by
 have s:zX (.ref 0) [.ro (ns.map W.int),.tab QZ p,.tab kS P]=some (ns.map W.int):=rfl;generalize A:[O.ro (ns.map W.int),.tab QZ p,.tab kS P]=A0 at s;have h0:jy ns p P A0:=by rw[<- A];exact⟨rfl,rfl,rfl⟩
 have E:mQ qc (zN zr) [rO 0,none,none,none,none] A0=.ok (.int ns.length) A0:=by
  rw[yB (kx (w:=.ref 0) (A1:=A0) (zy rfl) s)];unfold qc;rw[ak]
 have em:zi Sk qp (zi XC (mQ qc (zN zr)) QF) [rO 0,none,none,none,none] A0=
   .ok (.int (if (if (3:Int)<ns.length then 3 else(ns.length:Int)) > 1 then(if (3:Int)<ns.length then 3 else(ns.length:Int)) else 1)) A0:=
  (z7 (qy (w:=.int 1)) ((z7 E (qy (w:=.int 3))).trans rfl)).trans rfl
 generalize d:(if (if (3:Int)<ns.length then 3 else(ns.length:Int)) > 1 then(if (3:Int)<ns.length then 3 else(ns.length:Int)) else 1)=v at em;have H:jH v=true:=by
  have:0<=v/\v<1000:=by
   rw[<- d]
   split<;>split<;>omega
  obtain⟨k,rfl⟩:=a5 this.1;exact Kv (by omega)
 obtain⟨c,B,e,_,a,Y,y,y4,rfl⟩:=wk (j:=ye 0 v.toNat) (st:=turn (zE 1) (BL p P)) (N:=v.toNat) (I:=λ_ ρ B=>jy ns p P B/\∃a Y y y4,ρ=[rO 0,a,Y,y,y4])
  (λi ρ B f ⟨h0,a,Y,y,y4,h⟩=>by
   subst h;obtain⟨l,Z,z,g,e,b⟩:=p9 (k:=i) (x2:=Y) (x3:=y) (x4:=y4) h0;refine⟨_,_,g,kf f,(yz (ρ1:=[rO 0,iO i,Y,y,y4]) ?_).trans e,b,_,_,_,_,rfl⟩;rw[Int.zero_add];rfl)
  (λρ B _=>yY (by omega)) v.toNat 0 [rO 0,none,none,none,none] A0 (by omega) ⟨h0,_,_,_,_,rfl⟩
 refine⟨B,jC ?_⟩;unfold T9;exact(zL ((ym (wm em H)).trans e)).trans (jb (jM ((z7 ((jt (zS (wL (zS (wL (zS qy qE)) qE)) qE)).trans (pb B)) (wL (zS qy qE))).trans rfl)))
section
variable {K:Frag}
def Pa (Z:Zz K h mg){PG:gM}{lam:Nat->Fn}(H:∀k,Q2 P w K mg base 10 (PG k) (lam k)):zJ P w K mg base 11 "_law_refused" 1 ((qt 4 (Kc PG lam))):=by
 obtain⟨f,fd,F,a⟩:=Z.T.F8;exact(Ej (k:=10) Z.B Z.C Z.T.zfH F (aP Z.X Z.G a) (aq _) H)
def qq (Z:Zz K h mg){p:Addr}(H:tabIn K "_law_no_table_right"=some (c,p))(hB:BMain mg base)(C:CodeHd base c p):zJ P w K mg base 12 "_law_no_table_right" 2 (XZ p):=by
 obtain⟨f,fd,F,a⟩:=Z.T.HU;exact HV (k:=11) (j:=9) (kk:=11) Z.B F a H (aP Z.X Z.G a) hB C (FP Z).up (EZ Z).up (by decide) (λbase=>(V0 Z).up)  (λt base PG L=>(Pa Z L).imp λus A _=>Lo us A)
def qr (Z:Zz K h mg){f d p:Addr}(F:kR K "law" "law" Wy f fd)(hn:nsIn K mainGlobals "law"=some (some (.ref f)))(b:tabIn K "law"=some (c,Pt))(H:tabIn K "_law_no_table_right"=some (d,p))(hB:BMain mg base)(C:CodeHd base c Pt)(D:CodeHd base d p):yG P w K mg base wc 13 f fd ["_law_script"] (Zo K 1 (T5 Pt p)):=
 o_law (k:=12) (j:=9) (kk:=11) Z.B F hn b hB C (Bd Z).up ((qq Z H hB D).up) (Gs Z).up (Ct Z).up (D1 Z).up (Jm Z).up (RI Z).up (FR Z).up (Dy Z).up (by decide) (λbase=>(V0 Z).up) (let ⟨f,_,_,a⟩:=Z.T.Oe;⟨f,a⟩) (λt base PG L=>(Pa Z L).imp λus A _=>Lo us A)
def all_mk {l:PySem.W.OpenLaw}{j P:Addr}(X:K.In h)(Gl:h.Ns mainGlobals mg)(b:mg "law"=some (.ref j))(T:Tx K)(t:∃c,tabIn K "law"=some (c,Pt)/\codeHdIn K c Pt=true)(H:∃c,tabIn K "_law_no_table_right"=some (c,P)/\codeHdIn K c P=true):
  ∃fd:FuncData,(∀(s:Shared)(v:Value),BindsTo s fd ⟨[v],[]⟩ [("_law_script",v)])/\∀base:Heap,K.In base->base.Ns mainGlobals mg->BMain mg base->yG l.prog w K mg base wc 13 j fd ["_law_script"] (Zo K 1 (T5 Pt P)):=by
 obtain⟨c,t,g⟩:=t;obtain⟨d,H,u⟩:=H;obtain⟨f,fd,F,a⟩:=T.zeZ;have e:=b.symm.trans (aP X Gl a);cases e;obtain⟨p,n,kV,doc,pm,an,C,ct,o,rfl,lk,i⟩:=id F.ex;exact⟨_,λs v=>.of_eq rfl,λbase kb nb hB=>qr (zz X Gl T) F a t H hB (codeHd_of_K kb g) (codeHd_of_K kb u)⟩
end
end G
namespace PySem.W.Fast
def tw5904679827517716573:Nat:=0
def tw7035079879023427002:Nat:=0
def tw566091252292628676:Nat:=0
def tw11977771493801961321:Nat:=0
def tw5175414061846867244:Nat:=0
def tw8373448518062611514:Nat:=0
def tw444990273144893230:Nat:=0
def tw16573397507469712878:Nat:=0
def tw12276314985416250211:Nat:=0
def tw6233815250928493666:Nat:=0
def tw8717625670794616348:Nat:=0
def tw9524489349267416058:Nat:=0
def tw9260466759396940425:Nat:=0
def tw6318514390642573118:Nat:=0
def tw14974603845948632430:Nat:=0
def tw15146243479135147309:Nat:=0
def tw12251231358647815146:Nat:=0
def tw1582425710888130526:Nat:=0
def tw4353883312726605172:Nat:=0
def tw13425208720447691456:Nat:=0
def tw8032785893338238042:Nat:=0
def tw2771121461478291040:Nat:=0
def tw4221126277085587172:Nat:=0
def tw14421928698423058945:Nat:=0
def tw6021197456253309527:Nat:=0
def tw5805148055105909546:Nat:=0
def tw1676734655713888626:Nat:=0
def tw13292423318098835574:Nat:=0
def tw4471910246371985681:Nat:=0
def tw11345494704706297481:Nat:=0
def tw13228792533876940205:Nat:=0
def tw9375554511941652403:Nat:=0
def tw7244459047502257762:Nat:=0
def tw6989903396510366427:Nat:=0
def tw17896684763405141272:Nat:=0
def tw18259466777615558760:Nat:=0
def tw12313081601702284619:Nat:=0
def tw3640039961463168316:Nat:=0
def tw12892558395170666271:Nat:=0
def tw14321319959154030132:Nat:=0
def tw5753018872958218215:Nat:=0
def tw3362929567709948302:Nat:=0
def tw2016038351424899584:Nat:=0
def tw10271037895424667447:Nat:=0
def tw10230301194500628039:Nat:=0
def tw970494451780781106:Nat:=0
def tw2156702885944924225:Nat:=0
def tw2803292893929937182:Nat:=0
def tw11867448290264743336:Nat:=0
def tw12969621549242706006:Nat:=0
def tw5966301334849468673:Nat:=0
def tw10944973240959358388:Nat:=0
end PySem.W.Fast
open PySem PySem.W PyProof.Rows
set_option maxRecDepth 100000 in
set_option maxHeartbeats 0 in
theorem PySem.Challenge.cw_nearkinds_k42_tables_that_turn_to_themse_holds : PySem.Challenge.rw_nearkinds_k42_tables_that_turn_to_themse.Holds := by
 w_on;o_law;k_head;(case hw=>w_witness2)
 k_fill
 refine' Mi.zeY (y := "_law_no_table_right") (l:=PySem.Challenge.rw_nearkinds_k42_tables_that_turn_to_themse) (k:=13) (x := "_law_script") G.Ay rfl rfl ⟨rfl,by decide,by decide⟩ ?ne (λw h Y=>PySem.W.km_in_of Y) (λw h Y=>⟨km_tabs_of Y _ ?m1,km_tabs_of Y _ ?m2⟩) ?ht ?hKP ?hu ?hKU ?F
 case m1=>exact au _ (aB ..)
 case m2=>exact aB ..
 case ne=>decide
 case ht=>exact λp=>by kernel_rfl
 case hKP=>exact λp=>by kernel_rfl
 case hu=>exact λp=>by kernel_rfl
 case hKU=>exact λp=>by kernel_rfl
 case F=>
  intro w mg fa h KX Gl hmg ht hu;have T:G.Tx (L2.Hr KX):=by
   dsimp only [L2.Hr]
   apply G.Tx.mk<;>first | (refine' Mi.zfp ?a ?l ?c ?k;(case a=>k_is);(case l=>k_is);(case c=>k_is);(case k=>k_is)) | (refine' Mi.zfh ?a;(case a=>k_is)) | k_is|kernel_rfl
  exact G.all_mk KX Gl hmg T ht hu
