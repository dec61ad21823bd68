import PyProof.Rows.All
import Wide.All
import OpenK.AllK
import Wide.FinOn
import Lean
import PyProof.EqAt
import PyProof.EqKinds
import PyProof.TupleCall
import OpenK.KOwn
import PyProof.Rows.FStr
import PyProof.FString
import PyProof.NsDelKeeps
import KE.KIsAll
import PyProof.ExcArgs
import KE.KLam
import KE.KNestM
import PyProof.Rows.SetFrom
import PyProof.ListMulRoad
import PyProof.FactsAll.set_1
import PyProof.FactsAll.set_2
import PyProof.CollectIter
import PyProof.TupleIter
import PyProof.CollectWalk
import PyProof.Rows.SortShell
import PyProof.SumAny
import PyProof.ListOps
import KE.KDictList
import PyProof.NoPylong
import KE.KUnpack
import PySem.Challenge.RW_nearkinds_k52_best_mixes
noncomputable section
open PySem.W (Frag)
open List (all_map any_cons ext_getElem? find?_cons flatMap_append forIn_cons forIn_nil getElem_inj length_nil length_set lookup_cons map_id map_nil mem_cons mem_filter mem_of_getElem? mem_range nil_append not_mem_nil of_mem_zip range'_succ range_eq_range' reverse_cons)
open Nat (le_add_right le_succ lt_trans zero_le)
open Int (emod_nonneg)
open Option (any_eq_true isSome_some)
open PySem.W (CodeHd callWith_K cellsFrom_some codeHdIn codeHd_of_K codeIn envX fnOf hideAll hideAll_none hideAll_size instObj keepIn kitAny kitOne kitx_bool kitx_dict kitx_float kitx_int kitx_list kitx_none kitx_str kitx_tuple kla_fn kla_obj lookIn methodObj nsIn of_hideAll plainGet tabIn tabObj)
open PySem.F (args_tuple_add_2 entry_tuple_add plain_sum_loop slot_set_iter slot_tuple_add)
abbrev aa:=@List.getElem?_eq_getElem
abbrev ae:=@List.getD_eq_getElem?_getD
abbrev af:=@PySem.Heap.get?_push_of_some
abbrev ag:=@List.length_map
abbrev ah:=@if_pos
abbrev ai:=@List.getElem?_append_left
abbrev aj:=@decide_eq_true_iff
abbrev ak:=@Bool.and_eq_true
abbrev ao:=@List.mem_cons_of_mem
abbrev aq:=@List.length_append
abbrev ar:=@if_neg
abbrev au:=@PySem.Heap.get?_push_size
abbrev av:=@Nat.le_refl
abbrev aw:=@List.getElem?_map
abbrev ax:=@List.mem_cons_self
abbrev ay:=@List.getElem?_append_right
abbrev az:=@decide_eq_false
abbrev aA:=@Bool.false_ne_true
abbrev aB:=@decide_eq_true
abbrev aC:=@List.size_toArray
abbrev aD:=@Option.some.inj
abbrev aE:=@Nat.lt_of_lt_of_le
abbrev aF:=@List.getElem?_eq_none
abbrev aG:=@Int.toNat_natCast
abbrev aH:=@PySem.Heap.lt_size
abbrev aI:=@List.getElem?_set_ne
abbrev aJ:=@List.length_range
abbrev aK:=@Nat.ne_of_lt
abbrev aL:=@List.getElem?_set_self
abbrev aM:=@beq_iff_eq
abbrev aN:=@List.getElem_mem
abbrev aO:=@List.map_append
abbrev aP:=@List.map_map
abbrev aQ:=@List.append_assoc
abbrev aR:=@PySem.Heap.get?_update_other
abbrev aS:=@Array.length_toList
abbrev aT:=@Nat.lt_irrefl
abbrev aU:=@List.getElem?_range
abbrev aV:=@List.length_singleton
abbrev aW:=@PySem.W.mg_of
abbrev aX:=@List.map_cons
abbrev aY:=@Int.eq_ofNat_of_zero_le
abbrev aZ:=@PySem.Heap.get?_update_self
abbrev a3:=@List.map_congr_left
abbrev a5:=@List.flatten_cons
abbrev a6:=@List.mem_append_right
abbrev a7:=@PySem.W.mg_none_of
abbrev a8:=@Nat.lt_succ_of_lt
abbrev a9:=@List.length_cons
abbrev ba:=@List.length_take
abbrev bb:=@Bool.false_eq_true
abbrev bc:=@List.range_succ
abbrev bf:=@PySem.Heap.size_push
abbrev bg:=@List.replicate_succ
abbrev bh:=@List.filterMap_cons
abbrev bj:=@Nat.lt_succ_self
abbrev bo:=@Int.zero_add
abbrev bp:=@Nat.ne_of_gt
abbrev bq:=@Nat.le_trans
abbrev br:=@List.drop_eq_getElem_cons
abbrev bw:=@List.all_eq_true
abbrev bx:=@Bool.or_eq_true
abbrev bz:=@Array.getElem?_toList
abbrev bA:=@List.getElem?_replicate
abbrev bC:=@List.ext_getElem
abbrev bD:=@Nat.le_of_lt
abbrev bE:=@beq_self_eq_true
abbrev bF:=@PySem.W.kia_one
abbrev bG:=@List.length_replicate
abbrev bH:=@List.append_nil
abbrev bI:=@List.take_length
abbrev bJ:=@List.length_drop
abbrev bK:=@PySem.W.hideAll_get
abbrev bL:=@Int.emod_lt_of_pos
abbrev bM:=@List.getElem_of_mem
abbrev bN:=@Nat.not_lt_zero
abbrev bO:=@List.drop_length
abbrev bP:=List (List Int)
abbrev bQ:=List Int
abbrev bR:=List PySem.Value
abbrev bS:=List PySem.Addr
abbrev bT:=List (PySem.Addr×PySem.Obj)
abbrev bU:=List Nat
abbrev bV:=List PySem.Str
abbrev bX:=PySem.Value->PySem.Shared->Prop
abbrev bY:=List PySem.Expr
abbrev bZ:=Option Int
abbrev b8:=PySem.Str->Option PySem.Value
abbrev b9:=List PySem.Env
abbrev cb:=List (PySem.Str×PySem.Addr)
abbrev cc:=List PySem.Keyword
abbrev cf:=Option PySem.Addr
abbrev cg:=List PySem.Stmt
abbrev ck:=@PySem.wpAny_bind
abbrev cm:=@PySem.wpAny_pure
abbrev cq:=@List.getElem?_eq_some_iff
abbrev cn:=@List.mem_cons
abbrev cx:=@List.all_eq_true
abbrev cu:=@List.mem_range
abbrev cw:=@List.mem_map
abbrev cy:=@List.mem_singleton
set_option Elab.async false
set_option linter.all false
set_option maxRecDepth 1000000
set_option maxHeartbeats 4000000
variable {XP:(PySem.Str->Option PySem.Value)->PySem.Heap->Prop}{D Pt a b c f:PySem.Addr}{osl:Array (Option PySem.Value)}{items:Array PySem.Value}{led:Bool}{op:PySem.CmpOp}{env:PySem.Env}{e elt tg:PySem.Expr}{fd:PySem.FuncData}{base h:PySem.Heap}{pins:List (PySem.Addr×PySem.Obj)}{es:List (Int×PySem.Value)}{t:bP}{cells:List (PySem.Str×PySem.Addr)}{fp φ:List PySem.Addr}{gens gs:List PySem.Comprehension}{elts ifs:List PySem.Expr}{l ns:bQ}{cap vs:bU}{body:List PySem.Stmt}{N ps:List PySem.Str}{its us:List PySem.Value}{M:PySem.Model}{i j kk n t':Nat}{μ:Nat->Nat->Int}{cpos p pos tpos:PySem.Pos}{P:PySem.Program}{sc scope:PySem.Scope}{s s':PySem.Shared}{qual x:PySem.Str}{mg:PySem.Str->Option PySem.Value}{α:Type}{u:PySem.Value}{E Q:PySem.Value->PySem.Shared->Prop}{w:PySem.World}
namespace L2
open PySem PySem.Spec PyProof.Rows
noncomputable abbrev Key:=Sum Int Str
noncomputable def JK:Key->Value->Bool
 |.inl k,v=>Value.isInt k v|.inr x,v=>Value.isStrOf x v
noncomputable def cz (w:World):Key->Int
 |.inl k=>hashInt k|.inr x=>hashStr w x
theorem ZI:∀{k:Key}{v:Value},JK k v=true->(∃i t,k=Sum.inl i/\v=Value.int i t)∨(∃x t,k=Sum.inr x/\v=Value.str x t)
 |.inl i,v,h=>by
  obtain⟨t,e⟩:=Value.isInt_shape (k:=i) (v:=v) h;exact .inl ⟨i,t,rfl,e⟩
 |.inr x,v,h=>by
  obtain⟨t,e⟩:=Value.isStrOf_shape (x:=x) (v:=v) h;exact .inr ⟨x,t,rfl,e⟩
def Er (i:Int)(t:Tok):JK (.inl i) (.int i t)=true:=by simp[JK,Value.isInt]
def E5 (x:Str)(t:Tok):JK (.inr x) (.str x t)=true:=by simp[JK,Value.isStrOf]
def cA (a b:Int):decide ((Sum.inl a:Key)=Sum.inl b)=(a==b):=by
 by_cases e:a=b
 ·subst e;simp
 ·have h:¬(Sum.inl a:Key)=Sum.inl b:=λq=>e (Sum.inl.inj q)
  rw[az h];exact(beq_eq_false_iff_ne.mpr e).symm
def cB (a b:Str):decide ((Sum.inr a:Key)=Sum.inr b)=decide (a=b):=by
 by_cases e:a=b
 ·subst e;simp
 ·have h:¬(Sum.inr a:Key)=Sum.inr b:=λq=>e (Sum.inr.inj q)
  rw[az h,az e]
def cC (a:Int)(b:Str):decide ((Sum.inl a:Key)=Sum.inr b)=false:=az (λq=>nomatch q)
def cD (a:Str)(b:Int):decide ((Sum.inr a:Key)=Sum.inl b)=false:=az (λq=>nomatch q)
def kM (prog:Program)(w:World):PySem.KeyKind prog w Key where
 is:=JK
 hash:=cz w
 inj:=λv a b f c=>by
  rcases ZI f with ⟨i,t,rfl,rfl⟩|⟨x,t,rfl,rfl⟩
  ·rcases ZI c with ⟨j,u,rfl,e⟩|⟨y,u,rfl,e⟩
   ·injection e with E _;rw[E]
   ·exact nomatch e
  ·rcases ZI c with ⟨j,u,rfl,e⟩|⟨y,u,rfl,e⟩
   ·exact nomatch e
   ·injection e with E _;rw[E]
 byValue:=λk v h=>by
  rcases ZI h with ⟨i,t,rfl,rfl⟩|⟨x,t,rfl,rfl⟩<;>rfl
 pyHash:=λH h=>by
  rcases ZI H with ⟨i,t,rfl,rfl⟩|⟨x,t,rfl,rfl⟩
  ·exact wpAny_pyHash_int h
  ·exact wpAny_pyHash_str h
 eqBool:=λd H h=>by
  rcases ZI d with ⟨i,t,rfl,rfl⟩|⟨x,t,rfl,rfl⟩
  ·rcases ZI H with ⟨j,u,rfl,rfl⟩|⟨y,u,rfl,rfl⟩
   ·rw[cA]at h;exact wpAny_eqBool_int h
   ·rw[cC]at h;exact SeqAt.EqAt.int_str i t y u _ _ _ _ h
  ·rcases ZI H with ⟨j,u,rfl,rfl⟩|⟨y,u,rfl,rfl⟩
   ·rw[cD]at h;exact SeqAt.EqAt.str_int x t j u _ _ _ _ h
   ·rw[cB]at h;exact wpAny_eqBool_str h
 «strs»:=λk x t v h=>by
  rcases ZI h with ⟨i,u,rfl,e⟩|⟨y,u,rfl,e⟩
  ·exact nomatch e
  ·injection e with E _
   subst E;cases v<;>rfl
def F6 (prog:Program)(w:World)(k:Key)(v:Value):(kM prog w).is k v=JK k v:=rfl
def Ff (prog:Program)(w:World)(i:Int)(t:Tok):(kM prog w).is (.inl i) (.int i t)=true:=Er i t
def HL (prog:Program)(w:World)(x:Str)(t:Tok):(kM prog w).is (.inr x) (.str x t)=true:=E5 x t
inductive V where
 |non|bl (b:Bool)|int (i:Int)|str (x:Str)|byt (b:Array UInt8)|flt (b:UInt64)|ref (a:Addr)|ty (n:String)
 deriving DecidableEq
noncomputable def RelV:V->Value->Prop
 |.non,u=>u=Value.none|.bl b,u=>u=Value.bool b|.int i,u=>∃t,u=Value.int i t|.str x,u=>∃t,u=Value.str x t|.byt b,u=>∃t,u=Value.bytes b t|.flt b,u=>∃t,u=Value.float b t|.ref a,u=>u=Value.ref a|.ty n,u=>u=Value.type n
abbrev Vals:List V->List Value->Prop:=Paired RelV
theorem Vals.length {xs:List V}(r:Vals xs us):xs.length=us.length:=Paired.length r
theorem Vals.get:∀{xs:List V}{us:bR}{i:Nat}{x:V},Vals xs us->xs[i]? =some x->∃u,us[i]? =some u/\RelV x u
 |_,_,_,_,.nil,e=>by simp at e|_,_,0,_,.cons r _,e=>by simp at e;subst e;exact⟨_,rfl,r⟩|_,_,i+1,x,.cons _ t,e=>by
  obtain⟨u,H,h⟩:=Vals.get (i:=i) (x:=x) t (by simpa using e)
  exact⟨u,by simpa using H,h⟩
theorem Vals.set {x:V}(r:RelV x u):∀{xs:List V}{us:bR}(i:Nat),Vals xs us->Vals (xs.set i x) (us.set i u)
 |_,_,_,.nil=>.nil|_,_,0,.cons _ t=>.cons r t|_,_,i+1,.cons q t=>.cons q (Vals.set r i t)
theorem Vals.append:∀{xs ys:List V}{us ws:bR},Vals xs us->Vals ys ws->Vals (xs++ys) (us++ws)
 |_,_,_,_,.nil,s=>s|_,_,_,_,.cons r t,s=>.cons r (Vals.append t s)
theorem Vals.take:∀{xs:List V}{us:bR}(n:Nat),Vals xs us->Vals (xs.take n) (us.take n)
 |_,_,0,_=>.nil|_,_,_+1,.nil=>.nil|_,_,n+1,.cons r t=>.cons r (Vals.take n t)
theorem Vals.drop:∀{xs:List V}{us:bR}(n:Nat),Vals xs us->Vals (xs.drop n) (us.drop n)
 |_,_,0,r=>r|_,_,_+1,.nil=>.nil|_,_,n+1,.cons _ t=>Vals.drop n t
def Vals.none_of:∀{xs:List V}{us:bR}{i:Nat},Vals xs us->xs[i]? =none->us[i]? =none:=λ {xs us i} r e=>by
 have H:=r.length;have h:xs.length<=i:=List.getElem?_eq_none_iff.mp e;exact List.getElem?_eq_none_iff.mpr (by omega)
def Qv:Option V->Option Value->Prop
 |some v,some u=>RelV v u|none,none=>True|_,_=>False
def KV {κ:Type}:List (κ×V)->List (κ×Value)->Prop:=Paired λ(p:κ×V) (q:κ×Value)=>p.1=q.1/\RelV p.2 q.2
noncomputable def kV:Key->V
 |.inl i=>.int i|.inr x=>.str x
inductive HO where
 |lst (xs:List V)
 |tup (xs:List V)
 |dK (kvs:List (Key×V))|dT (kvs:List (List Key×V))
 |set (S:Int->Bool) (n:Nat)
 |ins (C dx:Addr) (fs:List (Str×V))
 |own (x:Addr)
 |xd (fs:List (Str×V))
 |met (f x:Addr)
 |rng (lo hi:Int)
 |frz (o:Obj) (u:HO)
 |tbl (ps:Array Value)
 |ext (φ:Heap->Prop)
noncomputable abbrev Hp:=Addr->Option HO
noncomputable def upd (H:Hp)(a:Addr)(o:HO):Hp:=λb=>if b=a then some o else H b
def jN {H:Hp}{o:HO}:upd H a o a=some o:=by unfold upd;rw[ah rfl]
def qv {H:Hp}{o:HO}(h:b≠a):upd H a o b=H b:=by unfold upd;rw[ar h]
def YT {H:Hp}{o u:HO}(h:H a=some o)(h':H b=some u)(d:o≠u):a≠b:=by
 intro e;subst e;rw[h]at h';exact d (aD h')
def kX {H:Hp}{o:HO}(h:H a=some o)(h':H b=none):a≠b:=by
 intro e;subst e;rw[h]at h';cases h'
def Qh (h:Heap)(a:Addr)(items:Array Value):Prop:=∃o,h.get? a=some o/\(o.cls=.type "tuple" /\ o.dict=none)/\∃n,o.data=.seq items n
def Qh.tup {h:Heap}{a:Addr}{items:Array Value}(x:Qh h a items):IsTup h a items:=let ⟨o,e,c,d⟩:=x;⟨o,e,c.1,d⟩
def Qh.new (h:Heap)(items:Array Value):Qh (h.push { cls:=.type "tuple",data:=.seq items }) h.objs.size items:=⟨_,au h rfl,⟨rfl,rfl⟩,0,rfl⟩
section
variable (P:Program)(w:World)
def jk (H:Hp)(h:Heap)(a:Addr):HO->Prop
 |.lst xs=>xs.length<=sizeLine/\∃(its:bR) (n:Nat),Vals xs its/\h.get? a=some { cls:=.type "list",data:=.seq its.toArray n }
 |.tup xs=>xs.length<=sizeLine/\∃its:bR,Vals xs its/\Qh h a its.toArray|.dK kvs=>kvs.length<=sizeLine/\(a==sysModules)=false/\∃vs,KV kvs vs/\h.DictOf (kM P w) a vs|.dT kvs=>kvs.length<=sizeLine/\(a==sysModules)=false/\∃xs:List (List Key×Addr×Value),
   Paired (λ(p:List Key×V) (q:List Key×Addr×Value)=>p.1=q.1/\H q.2.1=some (.tup (p.1.map kV))/\RelV p.2 q.2.2) kvs xs/\
   ∃o e E,h.get? a=some o/\o.ExactDict/\o.data=.dict e E/\e.toList=xs.map (entryOfKey (tupleKind (kM P w)))/\(xs.map (·.1)).Nodup
 |.set S n=>h.SetOf (intKind P w) a S n|.ins C d fs=>H d=some (.own a)/\fs.length<=1000/\d≠a/\h.get? a=some (instObj C d)/\
   ∃M,h.Ns1 d M/\(∀f,Qv (fs.lookup f) (M f))/\PySem.Within M (fs.map (·.1))
 |.own _=>∃o,h.get? a=some o|.xd fs=>∃M,h.Ns1 a M/\∀f,Qv (fs.lookup f) (M f)|.rng lo hi=>∃t u v,h.get? a=some { cls:=.type "range",data:=.fields #[.int lo t,.int hi u,.int 1 v] }
 |.frz o u=>h.get? a=some o/\jk H h a u|.tbl ps=>h.get? a=some { cls:=.none,data:=.fields ps }|.met f x=>h.get? a=some (methodObj (.ref f) (.ref x))|.ext φ=>φ h/\(∃o,h.get? a=some o)/\∀c b:Heap,φ c->(∀o,c.get? a=some o->b.get? a=some o)->φ b
def jZ (H:Hp)(h:Heap):Prop:=∀a o,H a=some o->jk P w H h a o
end
section
variable {H H':Hp}{h':Heap}{o:HO}
theorem jk.lt (x:jk P w H h a o):a<h.objs.size:=by
 cases o with
 |lst xs=>obtain⟨_,_,_,_,e⟩:=x;exact aH e|tup xs=>obtain⟨_,_,_,p⟩:=x;exact p.tup.lt|dK kvs=>obtain⟨_,_,_,_,o,_,_,e,_⟩:=x;exact aH e|dT kvs=>obtain⟨_,_,_,_,o,_,_,e,_⟩:=x;exact aH e|set S n=>obtain⟨o,_,_,_,e,_⟩:=x;exact aH e|ins C d fs=>obtain⟨_,_,_,e,_⟩:=x;exact aH e|own y=>obtain⟨_,e⟩:=x;exact aH e|xd fs=>obtain⟨_,⟨_,_,_,e,_⟩,_⟩:=x;exact aH e|rng lo hi=>obtain⟨_,_,_,e⟩:=x;exact aH e|frz ob u=>obtain⟨e,_⟩:=x;exact aH e|tbl ps=>exact aH (show h.get? a=some _ from x)|met f y=>exact aH (show h.get? a=some _ from x)|ext φ=>obtain⟨_,⟨_,e⟩,_⟩:=x;exact aH e
theorem Paired.mapP {β:Type}{F G:α->β->Prop}:∀{L:List α}{l:List β},Paired F L l->(∀a b,F a b->G a b)->Paired G L l
 |_,_,.nil,_=>.nil|_,_,.cons r t,f=>.cons (f _ _ r) (Paired.mapP t f)
def jk.stay (x:jk P w H h a o)(k:∀b u,(b=a∨H b=some (.own a))->h.get? b=some u->h'.get? b=some u)
  (s:∀b,H b=some (.own a)->H' b=some (.own a))(l:∀b xs,H b=some (.tup xs)->H' b=some (.tup xs)):jk P w H' h' a o:=by
 induction o with
 |lst xs=>obtain⟨z,i,n,r,e⟩:=x;exact⟨z,i,n,r,k _ _ (.inl rfl) e⟩|tup xs=>obtain⟨z,i,r,ob,e,c⟩:=x;exact⟨z,i,r,ob,k _ _ (.inl rfl) e,c⟩|dK kvs=>obtain⟨z,y,vs,r,ob,E,g,e,c⟩:=x;exact⟨z,y,vs,r,ob,E,g,k _ _ (.inl rfl) e,c⟩|dT kvs=>
  obtain⟨z,y,xs,r,ob,E,g,e,c⟩:=x;exact⟨z,y,xs,Paired.mapP r λp q z=>⟨z.1,l _ _ z.2.1,z.2.2⟩,ob,E,g,k _ _ (.inl rfl) e,c⟩
 |set S n=>obtain⟨ob,E,g,t,e,c⟩:=x;exact⟨ob,E,g,t,k _ _ (.inl rfl) e,c⟩|ins C D fs=>
  obtain⟨d,z,ne,e,M,⟨j,E,g,A,c⟩,r⟩:=x;exact⟨s _ d,z,ne,k _ _ (.inl rfl) e,M,⟨j,E,g,k _ _ (.inr d) A,c⟩,r⟩
 |own y=>obtain⟨ob,e⟩:=x;exact⟨ob,k _ _ (.inl rfl) e⟩|xd fs=>obtain⟨M,⟨j,E,g,e,c⟩,r⟩:=x;exact⟨M,⟨j,E,g,k _ _ (.inl rfl) e,c⟩,r⟩|rng lo hi=>obtain⟨t,u,v,e⟩:=x;exact⟨t,u,v,k _ _ (.inl rfl) e⟩|frz ob u I=>obtain⟨e,q⟩:=x;exact⟨k _ _ (.inl rfl) e,I q⟩|tbl ps=>
  have e:h.get? a=some { cls:=.none,data:=.fields ps }:=x;show h'.get? a=some { cls:=.none,data:=.fields ps };exact k a _ (.inl rfl) e
 |met f y=>
  have e:h.get? a=some (methodObj (.ref f) (.ref y)):=x;show h'.get? a=some (methodObj (.ref f) (.ref y));exact k a _ (.inl rfl) e
 |ext φ=>obtain⟨p,⟨o,e⟩,st⟩:=x;exact⟨st _ _ p λo q=>k _ _ (.inl rfl) q,⟨o,k _ _ (.inl rfl) e⟩,st⟩
theorem jZ.lt (x:jZ P w H h)(e:H a=some o):a<h.objs.size:=(x a o e).lt
def jZ.fresh (x:jZ P w H h)(e:h.objs.size<=a):H a=none:=by
 cases q:H a with
 |none=>rfl|some u=>exact absurd (aE (x.lt q) e) (aT _)
def jZ.kept (x:jZ P w H h)(k:∀b u,h.get? b=some u->h'.get? b=some u):jZ P w H h':=λa o e=>
 (x a o e).stay (λb u _ q=>k b u q) (λ_ q=>q) λ_ _ q=>q
def jZ.laid (x:jZ P w H h)(k:∀b u,h.get? b=some u->h'.get? b=some u)(p:h.objs.size<=a)(new:jk P w (upd H a o) h' a o):jZ P w (upd H a o) h':=λb u e=>by
 have hn:=x.fresh p
 by_cases d:b=a
 ·subst d;rw[jN]at e;cases e;exact new
 ·rw[qv d]at e
  exact(x b u e).stay (λc v _ q=>k c v q) (λc q=>by rw[qv (kX q hn)];exact q) λc xs q=>by rw[qv (kX q hn)];exact q
end
def Rd (H:Hp)(a:Addr)(u:HO):Prop:=H a=some u∨∃o,H a=some (.frz o u)
def Rd.ok {H:Hp}{u:HO}(r:Rd H a u)(x:jZ P w H h):jk P w H h a u:=by
 rcases r with r|⟨o,r⟩
 ·exact x a u r
 ·obtain⟨_,q⟩:=x a _ r
  exact q
noncomputable def Ww:Option HO->Prop
 |some (.lst _)=>True|some (.dK _)=>True|some (.dT _)=>True|some (.set _ _)=>True|some (.ins _ _ _)=>True|some (.ext _)=>True|_=>False
section
variable {H:Hp}{h':Heap}{x e:Addr}{o':HO}
def jZ.write (ok:jZ P w H h)(M:Ww (H x))(he:e=x∨H e=some (.own x))(k:∀b u,b≠e->h.get? b=some u->h'.get? b=some u)(o:∃u,h'.get? e=some u)
  (new:jk P w (upd H x o') h' x o'):jZ P w (upd H x o') h':=λb u q=>by
 have n:∀c y,H c=some (.own y)->c≠x:=λc y r z=>by subst z;rw[r]at M;exact M
 have N:∀c xs,H c=some (.tup xs)->c≠x:=λc xs r z=>by subst z;rw[r]at M;exact M
 by_cases f:b=x
 ·subst f;rw[jN]at q;cases q;exact new
 ·rw[qv f]at q
  by_cases a:b=e
  ·have Q:H b=some (.own x):=by
    rcases he with z|z
    ·exact absurd (a.trans z) f
    ·rw[a];exact z
   rw[q]at Q;cases Q;obtain⟨v,g⟩:=o;exact⟨v,by rw[a];exact g⟩
  ·refine(ok b u q).stay (λc v d r=>k c v ?_ r) (λc r=>by rw[qv (n c b r)];exact r) λc xs r=>by rw[qv (N c xs r)];exact r
   rcases d with rfl|d
   ·exact a
   ·rintro rfl
    rcases he with z|z
    ·exact n c b d z
    ·rw[d]at z;cases z;exact f rfl
end
structure Un (fs ex:bS)(H H':Hp)(h h':Heap):Prop where
 keep:∀b o,h.get? b=some o->H b=none->b∉fs->b∉ex->h'.get? b=some o
 slot:∀b o,h.get? b=some o->H b=none->b∈fs->b∉ex->∃sl,h'.get? b=some { o with slots:=sl }
 free:∀b o,h.get? b=some o->H b=none->b∉ex->H' b=none
 there:∀b o,h.get? b=some o->b∉ex->∃o',h'.get? b=some o'
 tups:∀b xs,H b=some (.tup xs)->H' b=some (.tup xs)
 frzs:∀b o u,H b=some (.frz o u)->H' b=some (.frz o u)
 tbls:∀b ps,H b=some (.tbl ps)->∃more,H' b=some (.tbl (ps++more))
section
variable {fs ex:bS}{H H1:Hp}{h1 h':Heap}{x e:Addr}{o:HO}
def Un.any (u:Un fs ex H H1 h h1){ob:Obj}(q:h.get? b=some ob)(n:H b=none)(x:b∉ex):∃s,h1.get? b=some { ob with slots:=s }:=by
 by_cases a:b∈fs
 ·exact u.slot b ob q n a x
 ·exact⟨ob.slots,u.keep b ob q n a x⟩
def Un.kept (k:∀b u,h.get? b=some u->h'.get? b=some u):Un fs ex H H h h':=
 ⟨λb ob q _ _ _=>k b ob q,λb ob q _ _ _=>⟨ob.slots,k b ob q⟩,λ_ _ _ n _=>n,λb ob q _=>⟨ob,k b ob q⟩,λ_ _ q=>q,λ_ _ _ q=>q,λ_ ps q=>⟨#[],by rw[q];simp⟩⟩
def Un.refl:Un fs ex H H h h:=Un.kept λ_ _ q=>q
def Un.laid (k:∀b u,h.get? b=some u->h'.get? b=some u)(p:h.objs.size<=a)(hn:H a=none):Un fs ex H (upd H a o) h h' where
 keep:=λb u q _ _ _=>k b u q
 slot:=λb u q _ _ _=>⟨u.slots,k b u q⟩
 free:=λb u q n _=>by rw[qv (aK (aE (aH q) p))];exact n
 there:=λb u q _=>⟨u,k b u q⟩
 tups:=λb xs q=>by rw[qv (kX q hn)];exact q
 frzs:=λb u xs q=>by rw[qv (kX q hn)];exact q
 tbls:=λb ps q=>⟨#[],by rw[qv (kX q hn),q];simp⟩
def Un.write (M:Ww (H x))(he:e=x∨H e=some (.own x))(k:∀b u,b≠e->h.get? b=some u->h'.get? b=some u)(c:∃u,h'.get? e=some u):Un fs ex H (upd H x o) h h':=by
 have d:∀b,H b=none->b≠x:=λb n z=>by subst z;rw[n]at M;exact M
 have f:∀b,H b=none->b≠e:=λb n z=>by
  subst z;rcases he with r|r
  ·exact d b n r
  ·rw[n]at r;cases r
 have hm:∀b u,H b=some u->¬Ww (some u)->b≠x:=λb u q nm z=>by subst z;rw[q]at M;exact nm M
 refine⟨λb u q n _ _=>k b u (f b n) q,λb u q n _ _=>⟨u.slots,k b u (f b n) q⟩,λb u q n _=>by rw[qv (d b n)];exact n,λb u q _=>?_,
  λb xs q=>by rw[qv (hm b _ q λz=>z)];exact q,λb u xs q=>by rw[qv (hm b _ q λz=>z)];exact q,λb ps q=>⟨#[],by rw[qv (hm b _ q λz=>z),q];simp⟩⟩
 by_cases a:b=e
 ·subst a;exact c
 ·exact⟨u,k b u a q⟩
end
noncomputable def XH (h:Heap)(H:Hp):bS:=(List.range h.objs.size).filter λa=>(H a).isSome
def Z1 (h:Heap)(H:Hp):Heap:=hideAll h (XH h H)
def Dx (h:Heap)(H:Hp):(Z1 h H).objs.size=h.objs.size:=hideAll_size _ _
def CT {H:Hp}{o:Obj}(e:h.get? b=some o)(n:H b=none):(Z1 h H).get? b=some o:=
 bK _ e λhm=>by
  have q:(H b).isSome=true:=(List.mem_filter.mp hm).2;rw[n]at q;simp at q
def BB {H:Hp}{o:Obj}(e:(Z1 h H).get? b=some o):h.get? b=some o/\H b=none:=by
 have E:h.get? b=some o:=of_hideAll (XH h H) e;refine⟨E,?_⟩;cases q:H b with
 |none=>rfl|some x=>
  have hm:b∈XH h H:=List.mem_filter.mpr ⟨cu.mpr (aH E),by simp[q]⟩
  have z:(Z1 h H).get? b=none:=hideAll_none (XH h H) hm;rw[z]at e;cases e
structure Mod (K:Frag)(mg:b8)(base:Heap):Prop where
 kin:K.In base
 glob:base.Ns mainGlobals mg
 blt:∃mb,base.Ns builtinsNs mb/\∀x:Str,x ≠ "__name__" -> mb x=bootBuiltins x
 nolimit:base.NoLimit
structure Cx where
 prog:Program
 w:World
 K:Frag
 mg:Str->Option Value
 base:Heap
 A:Around
 N:bV
 s0:Shared
 H0:Hp
 env:Env
 outer:b9
 stack:b9
 ex:bS
 fn:Str->Bool
 calm:Bool
 pn:bT
 xe:Value->Shared->Prop
noncomputable def qV (l:b9):bS:=l.filterMap (·.frame)
abbrev Cx.fs (X:Cx):bS:=qV X.outer
def XI (sc:Scope)(x:Str):Prop:=sc.names.lookup x=some .local∨sc.names.lookup x=some .cell∨sc.names.lookup x=some .free
def Loc (sc:Scope)(x:Str):Prop:=sc.names.lookup x=some .local∨sc.names.lookup x=some .cell
def Look (env:Env)(h:Heap)(m:b8)(x:Str)(u:Value):Prop:=
 (env.kindOf x=some .local/\m x=some u)∨((env.kindOf x=some .cell∨env.kindOf x=some .free)/\∃c,env.cells.lookup x=some c/\h.IsCell c (some u))
structure Cx.Ok (X:Cx):Prop where
 mod:Mod X.K X.mg X.base
 kind:X.env.scope.kind=.function
 glob:X.env.globals=mainGlobals
 blt:X.env.builtins=builtinsNs
 above:X.s0.heap.objs.size<=X.env.locals
 inj:∀x y c,X.env.cells.lookup x=some c->X.env.cells.lookup y=some c->x=y
 has:∀x,(X.env.kindOf x=some .cell∨X.env.kindOf x=some .free)->∃c,X.env.cells.lookup x=some c
 cab:∀x c,X.fn x=true->X.env.cells.lookup x=some c->X.s0.heap.objs.size<=c
 hd:X.calm=true->X.A.handled=none
 frames:X.A.frames=some X.stack
 stk:X.stack=X.outer∨(X.stack=X.env::X.outer/\X.env.frame=some X.env.locals)
 exf:∀b∈X.ex,b≠X.env.locals/\∀x c,X.env.cells.lookup x=some c->c≠b
 bs:∀b o,X.base.get? b=some o->X.s0.heap.get? b=some o/\X.H0 b=none
 bsz:X.base.objs.size<=X.s0.heap.objs.size
 noex:∀b o,X.base.get? b=some o->b∉X.ex
 exfs:∀b∈X.ex,b∉X.fs
 funs:X.s0.heap.FunFrames X.base X.outer
 frf:∀b∈X.fs,X.H0 b=none
structure Inv (X:Cx)(pins:bT)(σ:List (Option V))(H:Hp)(s:Shared):Prop where
 ok:X.Ok
 os:s.os=X.s0.os
 bare:AllBare s.gens
 base:Un X.fs X.ex X.H0 H X.s0.heap s.heap
 loc:∃m,s.heap.Ns X.env.locals m/\∀(i:Nat)(x:Str)(v:V),X.N[i]? =some x->σ[i]? =some (some v)->XI X.env.scope x->∃u,RelV v u/\Look X.env s.heap m x u
 cell:∀x c,X.env.cells.lookup x=some c->∃v,s.heap.IsCell c v
 free:H X.env.locals=none
 freeC:∀x c,X.env.cells.lookup x=some c->H c=none
 pin:∀p∈X.pn++pins,s.heap.get? p.1=some p.2/\H p.1=none/\p.1≠X.env.locals/\p.1∉X.fs/\∀v,p.2.data≠.cell v
 hok:jZ X.prog X.w H s.heap
 len:σ.length=X.N.length
section
variable {X:Cx}{σ:List (Option V)}{H H':Hp}{h':Heap}
def Cx.Ok.nofr (ok:X.Ok){o:Obj}(e:X.base.get? b=some o):b∉X.fs:=λh=>by
 have:=(ok.funs.mem h).1
 rw[e]at this;cases this
theorem Inv.bs (I:Inv X pins σ H s):∀b o,X.base.get? b=some o->s.heap.get? b=some o/\H b=none:=λb o e=>
 ⟨I.base.keep b o (I.ok.bs b o e).1 (I.ok.bs b o e).2 (I.ok.nofr e) (I.ok.noex b o e),I.base.free b o (I.ok.bs b o e).1 (I.ok.bs b o e).2 (I.ok.noex b o e)⟩
def Inv.bk (I:Inv X pins σ H s):∀b o,X.base.get? b=some o->s.heap.get? b=some o:=λb o e=>(I.bs b o e).1
theorem Inv.mod (I:Inv X pins σ H s):Mod X.K X.mg X.base:=I.ok.mod
def Inv.kIn (I:Inv X pins σ H s):X.K.In s.heap:=I.ok.mod.kin.keeps I.bk
theorem Inv.lt (I:Inv X pins σ H s):X.env.locals<s.heap.objs.size:=let ⟨_,hn,_⟩:=I.loc;hn.lt
def Inv.sz (I:Inv X pins σ H s):X.s0.heap.objs.size<=s.heap.objs.size:=bq I.ok.above (bD I.lt)
def Inv.nofs (I:Inv X pins σ H s)(h:s.heap.objs.size<=a):a∉X.fs:=λc=>by
 obtain⟨_,o,b,_⟩:=I.ok.funs.mem c;exact absurd (aE (aH b) (bq I.sz h)) (aT _)
def Inv.cne (I:Inv X pins σ H s):∀x c,X.env.cells.lookup x=some c->c≠X.env.locals:=λx c e z=>by
 obtain⟨v,o,b,hd⟩:=I.cell x c e;obtain⟨m,⟨o',E,p,h,a,_⟩,_⟩:=I.loc;rw[z,h]at b;cases b;rw[a]at hd;cases hd
theorem Inv.funs (I:Inv X pins σ H s):s.heap.FunFrames X.base X.outer:=by
 have all:∀(l:b9),(∀b∈qV l,b∈X.fs)->X.s0.heap.FunFrames X.base l->s.heap.FunFrames X.base l:=by
  intro l
  induction l with
  |nil=>intro _ _;trivial|cons env r i=>
   intro c g;obtain⟨j,⟨L,o,hf,hn,f,hd⟩,d⟩:=g;have a:L∈X.fs:=c L (by unfold qV;rw[bh,hf];exact ax)
   obtain⟨S,e⟩:=I.base.slot L o f (I.ok.frf L a) a λz=>I.ok.exfs L z a;exact⟨j,⟨L,_,hf,hn,e,hd⟩,i (λb h=>c b (by unfold qV;rw[bh,hf];exact ao _ h)) d⟩
 exact all X.outer (λ_ h=>h) I.ok.funs
theorem Inv.stack (I:Inv X pins σ H s):s.heap.FunFrames X.base X.stack:=by
 rcases I.ok.stk with e|⟨e,hf⟩
 ·rw[e];exact I.funs
 ·rw[e]
  obtain⟨m,hn,_⟩:=I.loc;refine .cons (by rw[I.ok.kind];decide) hf hn ?_ I.funs
  exact Heap.get?_none_of_le (bq I.ok.bsz I.ok.above)
def Inv.stkSub (I:Inv X pins σ H s):∀b∈qV X.stack,b∈X.env.locals::X.fs:=λb h=>by
 rcases I.ok.stk with e|⟨e,hf⟩
 ·rw[e]at h;exact ao _ h
 ·rw[e]at h
  unfold qV at h;rw[bh,hf]at h;exact h
def Inv.stkFree (I:Inv X pins σ H s):∀b∈qV X.stack,H b=none:=λb h=>by
 rcases cn.mp (I.stkSub b h) with e|h
 ·rw[e];exact I.free
 ·obtain⟨_,o,a,_⟩:=I.ok.funs.mem h
  exact I.base.free b o a (I.ok.frf b h) λz=>I.ok.exfs b z h
def Inv.step {g':Array GenState}{d':Drawn}{ch:bS}(I:Inv X pins σ H s)
  (a:∀b∈ch,(b∈X.ex∨X.s0.heap.objs.size<=b)/\b≠X.env.locals/\(∀x c,X.env.cells.lookup x=some c->c≠b)/\∀p∈X.pn++pins,p.1≠b)
  (keep:∀b o,b≠X.env.locals->b∉X.fs->b∉ch->s.heap.get? b=some o->H b=none->h'.get? b=some o)
  (slot:∀b o,b≠X.env.locals->b∈X.fs->b∉ch->s.heap.get? b=some o->H b=none->∃t,h'.get? b=some { o with slots:=t })(free:∀b o,b∉ch->s.heap.get? b=some o->H b=none->H' b=none)
  (there:∀b o,b∉ch->s.heap.get? b=some o->∃o',h'.get? b=some o')
  (tups:∀b xs,H b=some (.tup xs)->H' b=some (.tup xs))(frzs:∀b o u,H b=some (.frz o u)->H' b=some (.frz o u))(tbls:∀b ps,H b=some (.tbl ps)->∃more,H' b=some (.tbl (ps++more)))
  (ns:∀m,s.heap.Ns X.env.locals m->h'.Ns X.env.locals m)(hok:jZ X.prog X.w H' h')(J:AllBare g'):
  Inv X pins σ H' { s with heap:=h',gens:=g',drawn:=d',toks:=t' }:=by
 have Y7:∀b o,X.s0.heap.get? b=some o->b≠X.env.locals:=λb o e=>aK (aE (aH e) I.ok.above);have C:∀b o,X.s0.heap.get? b=some o->b∉X.ex->b∉ch:=λb o e h f=>by
  rcases(a b f).1 with z|z
  ·exact h z
  ·exact absurd (aE (aH e) z) (aT _)
 have cellK:∀x c,X.env.cells.lookup x=some c->∀v,s.heap.IsCell c v->h'.IsCell c v:=λx c e v ⟨o,g,hd⟩=>by
  have N:c∉ch:=λz=>(a c z).2.2.1 x c e rfl
  by_cases B:c∈X.fs
  ·obtain⟨t,q⟩:=slot c o (I.cne x c e) B N g (I.freeC x c e)
   exact⟨_,q,hd⟩
  ·exact⟨o,keep c o (I.cne x c e) B N g (I.freeC x c e),hd⟩
 refine⟨I.ok,I.os,J,⟨λb o e n f h=>?_,λb o e n f h=>?_,λb o e n h=>?_,λb o e h=>?_,λb xs e=>tups b xs (I.base.tups b xs e),λb o xs e=>frzs b o xs (I.base.frzs b o xs e),λb ps e=>?_⟩,?_,λx c e=>?_,?_,λx c e=>?_,λp A=>?_,hok,I.len⟩
 ·exact keep b o (Y7 b o e) f (C b o e h) (I.base.keep b o e n f h) (I.base.free b o e n h)
 ·obtain⟨t,E⟩:=I.base.slot b o e n f h
  obtain⟨S,j⟩:=slot b _ (Y7 b o e) f (C b o e h) E (I.base.free b o e n h);exact⟨S,j⟩
 ·obtain⟨o',E⟩:=I.base.there b o e h
  exact free b o' (C b o e h) E (I.base.free b o e n h)
 ·obtain⟨o',E⟩:=I.base.there b o e h
  exact there b o' (C b o e h) E
 ·obtain⟨m1,E⟩:=I.base.tbls b ps e
  obtain⟨m2,j⟩:=tbls b _ E;exact⟨m1++m2,by rw[j,Array.append_assoc]⟩
 ·obtain⟨m,hn,D⟩:=I.loc
  refine⟨m,ns m hn,λi x v E j K=>?_⟩;obtain⟨u,r,l⟩:=D i x v E j K;refine⟨u,r,?_⟩;rcases l with l|⟨k,c,e,z⟩
  ·exact .inl l
  ·exact .inr ⟨k,c,e,cellK x c e _ z⟩
 ·obtain⟨v,z⟩:=I.cell x c e
  exact⟨v,cellK x c e v z⟩
 ·obtain⟨m,⟨o,_,_,g,_⟩,_⟩:=I.loc
  exact free _ o (λz=>(a _ z).2.1 rfl) g I.free
 ·obtain⟨v,o,g,hd⟩:=I.cell x c e
  exact free c o (λz=>(a c z).2.2.1 x c e rfl) g (I.freeC x c e)
 ·obtain⟨e,n,ne,y,d⟩:=I.pin p A
  have N:p.1∉ch:=λz=>(a p.1 z).2.2.2 p A rfl;exact⟨keep p.1 p.2 ne y N e n,free p.1 p.2 N e n,ne,y,d⟩
def Inv.un (I:Inv X pins σ H s)(u:Un X.fs [] H H' s.heap h')(hok:jZ X.prog X.w H' h'):Inv X pins σ H' { s with heap:=h',toks:=t' }:=by
 obtain⟨m,⟨o,f,p,c,r⟩,_⟩:=id I.loc;obtain⟨S,L⟩:=u.any c I.free (by simp)
 exact I.step (g':=s.gens) (d':=s.drawn) (ch:=[]) (λ_ z=>nomatch z) (λb o _ a _ e n=>u.keep b o e n a (by simp)) (λb o _ a _ e n=>u.slot b o e n a (by simp)) (λb o _ e n=>u.free b o e n (by simp)) (λb o _ e=>u.there b o e (by simp)) u.tups u.frzs u.tbls (λM hm=>by
  obtain⟨o',es',E,h,d⟩:=hm;rw[c]at h;cases h;exact⟨_,es',E,L,d⟩) hok I.bare
def Inv.call {g':Array GenState}{d':Drawn}{ch:bS}(I:Inv X pins σ H s)(u:Un (qV X.stack) ch H H' s.heap h')(hok:jZ X.prog X.w H' h')(i:AllBare g')
  (d:∀b∈ch,(b∈X.ex∨X.s0.heap.objs.size<=b)/\b≠X.env.locals/\(∀x c,X.env.cells.lookup x=some c->c≠b)/\∀p∈X.pn++pins,p.1≠b):
  Inv X pins σ H' { s with heap:=h',gens:=g',drawn:=d',toks:=t' }:=by
 obtain⟨m,⟨o,l,q,f,r⟩,_⟩:=id I.loc;obtain⟨S,L⟩:=u.any f I.free λz=>(d _ z).2.1 rfl;exact I.step (ch:=ch) d (λb o L j h e n=>u.keep b o e n (λz=>(cn.mp (I.stkSub b z)).elim L j) h) (λb o _ _ h e n=>u.any e n h) (λb o h e n=>u.free b o e n h) (λb o h e=>u.there b o e h) u.tups u.frzs u.tbls (λM hm=>by
  obtain⟨o',es',E,a,g⟩:=hm;rw[f]at a;cases a;exact⟨_,es',E,L,g⟩) hok i
def Inv.turned {it:Addr}(I:Inv X pins σ H s)(k:∀b o,b≠it->s.heap.get? b=some o->h'.get? b=some o)(hn:H it=none)(L:it≠X.env.locals)
  (i:it∈X.ex∨X.s0.heap.objs.size<=it)(g:∀x c,X.env.cells.lookup x=some c->c≠it)(f:∀p∈X.pn++pins,p.1≠it):Inv X pins σ H { s with heap:=h',toks:=t' }:=by
 have N:∀b u,H b=some u->b≠it:=λb u e z=>by rw[z,hn]at e;cases e
 refine I.step (g':=s.gens) (d':=s.drawn) (ch:=[it]) (λb d=>?_) (λb o _ _ h e _=>k b o (λz=>h (by simp[z])) e) (λb o _ _ h e _=>⟨o.slots,k b o (λz=>h (by simp[z])) e⟩) (λ_ _ _ _ n=>n)
  (λb o h e=>⟨o,k b o (λz=>h (by simp[z])) e⟩) (λ_ _ e=>e) (λ_ _ _ e=>e) (λb ps e=>⟨#[],by rw[e];simp⟩) (λm hm=>?_) (λb u e=>?_) I.bare
 ·have e:b=it:=by simpa using d
  subst e;exact⟨i,L,g,f⟩
 ·obtain⟨o,E,j,a,r⟩:=hm
  exact⟨o,E,j,k _ o (Ne.symm L) a,r⟩
 ·refine(I.hok b u e).stay (λc v h q=>k c v ?_ q) (λ_ q=>q) λ_ _ q=>q
  rcases h with z|z
  ·rw[z];exact N b u e
  ·exact N c _ z
def Inv.tok (I:Inv X pins σ H s)(t:Nat):Inv X pins σ H { s with toks:=t }:=I.un (h':=s.heap) (t':=t) Un.refl I.hok
theorem Inv.kept (I:Inv X pins σ H s)(k:∀b u,s.heap.get? b=some u->h'.get? b=some u):Inv X pins σ H { s with heap:=h',toks:=t' }:=I.un (Un.kept k) (I.hok.kept k)
theorem Inv.laid {o:HO}(I:Inv X pins σ H s)(k:∀b u,s.heap.get? b=some u->h'.get? b=some u)(h:s.heap.objs.size<=a)(new:jk X.prog X.w (upd H a o) h' a o):
  Inv X pins σ (upd H a o) { s with heap:=h',toks:=t' }:=I.un (Un.laid k h (I.hok.fresh h)) (I.hok.laid k h new)
theorem Inv.write {x e:Addr}{o:HO}(I:Inv X pins σ H s)(M:Ww (H x))(he:e=x∨H e=some (.own x))(k:∀b u,b≠e->s.heap.get? b=some u->h'.get? b=some u)(h:∃u,h'.get? e=some u)
  (new:jk X.prog X.w (upd H x o) h' x o):Inv X pins σ (upd H x o) { s with heap:=h',toks:=t' }:=I.un (Un.write M he k h) (I.hok.write M he k h new)
def Inv.pins_of {P:bT}(I:Inv X pins σ H s)(h:∀p∈P,s.heap.get? p.1=some p.2/\H p.1=none/\p.1≠X.env.locals/\p.1∉X.fs/\∀v,p.2.data≠.cell v):Inv X P σ H s:=
 ⟨I.ok,I.os,I.bare,I.base,I.loc,I.cell,I.free,I.freeC,λp a=>(List.mem_append.mp a).elim (λz=>I.pin p (List.mem_append_left _ z)) (h p),I.hok,I.len⟩
def V3 (h:N.Nodup)(a:N[i]? =some x)(b:N[j]? =some x):i=j:=by
 obtain⟨c,E⟩:=cq.mp a;obtain⟨H,e⟩:=cq.mp b;exact(getElem_inj h).mp (E.trans e.symm)
def Oe {A:Around}{v:V}{Q:Unit->Shared->Prop}(I:Inv X pins σ H s)(hN:X.N.Nodup)(hi:X.N[i]? =some x)(t:Loc X.env.scope x)(r:RelV v u)
  (h:∀s',Inv X pins (σ.set i (some v)) H s'->(∃a,Heap.SameBut a s.heap s'.heap/\(a=X.env.locals∨X.env.cells.lookup x=some a))->Q () s')(hf:X.fn x=true∨X.env.scope.names.lookup x=some .local:=by first|exact .inl rfl|exact .inr rfl|assumption):wpAny M A (storeName X.env x u) Q E s:=by
 obtain⟨m,hn,hl⟩:=id I.loc;have U:(X.env.scope.kind==.class || (X.env.scope.kind==.module&&X.env.locals != X.env.globals))=false:=by rw[I.ok.kind];rfl
 have J:i < σ.length:=by rw[I.len];exact(cq.mp hi).1
 have cne:=I.cne;have tracked:∀{a:Addr}{h':Heap},(∃o,s.heap.get? a=some o/\H a=none)->Heap.SameBut a s.heap h'->jZ X.prog X.w H h':=λ {a h'} ha f b ob e=>by
  obtain⟨_,_,B⟩:=ha;refine(I.hok b ob e).stay (λc w' l q=>(f.2 c ?_).trans q) (λ_ q=>q) λ_ _ q=>q
  rintro rfl
  rcases l with rfl|l
  ·rw[B]at e;cases e
  ·rw[B]at l;cases l
 rcases t with D|D
 ·refine wpAny_storeName_local D hn (λh' hn' f=>?_) U
  obtain⟨oL,_,_,hoL,_⟩:=id hn;refine h _ ⟨I.ok,I.os,I.bare,⟨λb o e n P t=>?_,λb o e n P t=>?_,I.base.free,λb o e t=>?_,I.base.tups,I.base.frzs,I.base.tbls⟩,⟨_,hn',λj y v' g C e3=>?_⟩,λy c e=>?_,I.free,I.freeC,λp hp=>?_,tracked ⟨oL,hoL,I.free⟩ f,by simpa using I.len⟩ ⟨_,f,.inl rfl⟩
  ·exact(f.2 b (aK (aE (aH e) I.ok.above))).trans (I.base.keep b o e n P t)
  ·obtain⟨sl,g⟩:=I.base.slot b o e n P t
   exact⟨sl,(f.2 b (aK (aE (aH e) I.ok.above))).trans g⟩
  ·obtain⟨o',g⟩:=I.base.there b o e t
   exact⟨o',(f.2 b (aK (aE (aH e) I.ok.above))).trans g⟩
  ·by_cases K:j=i
   ·subst K
    rw[hi]at g;cases g;rw[aL J]at C;cases C;exact⟨u,r,.inl ⟨D,by simp⟩⟩
   ·rw[aI (Ne.symm K)]at C
    obtain⟨u',r',q⟩:=hl j y v' g C e3;refine⟨u',r',?_⟩;rcases q with ⟨k,e⟩|⟨k,c,e,z⟩
    ·refine .inl ⟨k,?_⟩
     have:y≠x:=λe=>K (V3 hN g (e ▸ hi))
     simp[this,e]
    ·exact .inr ⟨k,c,e,z.sameBut f (cne y c e)⟩
  ·obtain⟨w',z⟩:=I.cell y c e
   exact⟨w',z.sameBut f (cne y c e)⟩
  ·obtain⟨e,n,ne,nf,d⟩:=I.pin p hp
   exact⟨(f.2 p.1 ne).trans e,n,ne,nf,d⟩
 ·have L:X.fn x=true:=by
   rcases hf with z|z
   ·exact z
   ·rw[z]at D;cases D
  obtain⟨c,l⟩:=I.ok.has x (.inl D);obtain⟨w',z⟩:=I.cell x c l;refine wpAny_storeName_cell I.ok.kind D l z (λh' Z f=>?_);obtain⟨oc,T,S⟩:=id z;refine h { s with heap:=h' } ⟨I.ok,I.os,I.bare,⟨λb o e n P t=>?_,λb o e n P t=>?_,I.base.free,λb o e t=>?_,I.base.tups,I.base.frzs,I.base.tbls⟩,⟨m,hn.sameBut f (Ne.symm (cne x c l)),λj y v' g C e3=>?_⟩,λy c' e=>?_,I.free,I.freeC,λp hp=>?_,tracked ⟨oc,T,I.freeC x c l⟩ f,by simpa using I.len⟩ ⟨c,f,.inr l⟩
  ·exact(f.2 b (aK (aE (aH e) (I.ok.cab x c L l)))).trans (I.base.keep b o e n P t)
  ·obtain⟨sl,g⟩:=I.base.slot b o e n P t
   exact⟨sl,(f.2 b (aK (aE (aH e) (I.ok.cab x c L l)))).trans g⟩
  ·obtain⟨o',g⟩:=I.base.there b o e t
   exact⟨o',(f.2 b (aK (aE (aH e) (I.ok.cab x c L l)))).trans g⟩
  ·by_cases K:j=i
   ·subst K
    rw[hi]at g;cases g;rw[aL J]at C;cases C;exact⟨u,r,.inr ⟨.inl D,c,l,Z⟩⟩
   ·rw[aI (Ne.symm K)]at C
    obtain⟨u',r',q⟩:=hl j y v' g C e3;refine⟨u',r',?_⟩;rcases q with q|⟨k,c',e,z'⟩
    ·exact .inl q
    ·refine .inr ⟨k,c',e,z'.sameBut f ?_⟩
     rintro rfl
     exact K (V3 hN g (I.ok.inj _ _ _ e l ▸ hi))
  ·by_cases Y:c'=c
   ·subst Y;exact⟨_,Z⟩
   ·obtain⟨w2,z2⟩:=I.cell y c' e
    exact⟨w2,z2.sameBut f Y⟩
  ·obtain⟨e,n,ne,nf,d⟩:=I.pin p hp
   refine⟨(f.2 p.1 ?_).trans e,n,ne,nf,d⟩;intro q;rw[q,T]at e;have q':oc=p.2:=aD e;exact d w' (by rw[<- q'];exact S)
def Yq {A:Around}{v:V}{Q:Unit->Shared->Prop}(I:Inv X pins σ H s)(b:X.N.Nodup)(hi:X.N[i]? =some x)(a:Loc X.env.scope x)(r:RelV v u)
  (h:∀s',Inv X pins (σ.set i (some v)) H s'->Q () s')(hf:X.fn x=true∨X.env.scope.names.lookup x=some .local:=by first|exact .inl rfl|exact .inr rfl|assumption):wpAny M A (storeName X.env x u) Q E s:=
 Oe I b hi a r (λs' c _=>h s' c) hf
def Inv.call' {ch:bS}(I:Inv X pins σ H s)(o:s'.os=s.os)(u:Un (qV X.stack) ch H H' s.heap s'.heap)(hok:jZ X.prog X.w H' s'.heap)(g:AllBare s'.gens)
  (h:∀b∈ch,(b∈X.ex∨X.s0.heap.objs.size<=b)/\b≠X.env.locals/\(∀x c,X.env.cells.lookup x=some c->c≠b)/\∀p∈X.pn++pins,p.1≠b):Inv X pins σ H' s':=by
 obtain⟨h',g',d',t',o'⟩:=s';have e:o'=s.os:=o;subst e;exact I.call (g':=g') (t':=t') (d':=d') u hok g h
end
abbrev XK:=Value->Option Addr->Hp->Prop
noncomputable abbrev St:=List (Option V)
abbrev VK:=V->Hp->Prop
abbrev TE:=St->Hp->VK->Prop
abbrev TT:=St->Hp->(Bool->Hp->Prop)->Prop
abbrev TA:=St->Hp->(List V->Hp->Prop)->Prop
structure Ends where
 nx:St->Hp->Prop
 rt:VK
 bk:St->Hp->Prop:=λ_ _=>False
 ct:St->Hp->Prop:=λ_ _=>False
abbrev TS:=Ends->St->Hp->Prop
inductive EP (X:Cx)(pins:bT)(σ:St)(Q:VK)(u:Value)(s':Shared):Prop
 |mk (v:V) (H':Hp) (I:Inv X pins σ H' s') (r:RelV v u) (q:Q v H')
def TP (X:Cx)(pins:bT)(σ:St)(Q:Bool->Hp->Prop)(b:Bool)(s':Shared):Prop:=∃H,Inv X pins σ H s'/\Q b H
inductive AP (X:Cx)(pins:bT)(σ:St)(Q:List V->Hp->Prop)(us:bR)(s':Shared):Prop
 |mk (vs:List V) (H':Hp) (I:Inv X pins σ H' s') (r:Vals vs us) (q:Q vs H')
def SP (X:Cx)(pins:bT)(D:Ends)(f:Flow)(s':Shared):Prop:=
 match f with
 |.next=>∃a H,Inv X pins a H s'/\D.nx a H|.brk=>∃a H,Inv X pins a H s'/\D.bk a H|.cont=>∃a H,Inv X pins a H s'/\D.ct a H|.ret u=>∃v a H,Inv X pins a H s'/\RelV v u/\D.rt v H
def PE (X:Cx)(e:Expr)(t:TE):Prop:=
 ∀(pins:bT)(s:Shared)(σ:St)(H:Hp)(Q:VK),Inv X pins σ H s->t σ H Q->wpAny (model X.prog X.w) X.A (eval e X.env) (EP X pins σ Q) X.xe s
def PT (X:Cx)(e:Expr)(t:TT):Prop:=
 ∀(pins:bT)(s:Shared)(σ:St)(H:Hp)(Q:Bool->Hp->Prop),Inv X pins σ H s->t σ H Q->wpAny (model X.prog X.w) X.A (isTrue e X.env (eval e X.env)) (TP X pins σ Q) X.xe s
def PW (X:Cx)(e:Expr)(t:TT):Prop:=
 ∀(whole:Sem Value)(pins:bT)(s:Shared)(σ:St)(H:Hp)(Q:Bool->Hp->Prop),Inv X pins σ H s->t σ H Q->wpAny (model X.prog X.w) X.A (isTrue e X.env whole) (TP X pins σ Q) X.xe s
def PW.pt {X:Cx}{t:TT}(h:PW X e t):PT X e t:=h _
def PA (X:Cx)(e:bY)(t:TA):Prop:=
 ∀(pos:Pos)(pins:bT)(s:Shared)(σ:St)(H:Hp)(Q:List V->Hp->Prop),Inv X pins σ H s->t σ H Q->wpAny (model X.prog X.w) X.A (spliced (backTo pos (starEach e X.env))) (AP X pins σ Q) X.xe s
def PS (X:Cx)(st:Stmt)(t:TS):Prop:=
 ∀(pins:bT)(s:Shared)(σ:St)(H:Hp)(D:Ends),Inv X pins σ H s->t D σ H->wpAny (model X.prog X.w) X.A (exec st X.env) (SP X pins D) X.xe s
def yU (X:Cx)(st:cg)(t:TS):Prop:=
 ∀(pins:bT)(s:Shared)(σ:St)(H:Hp)(D:Ends),Inv X pins σ H s->t D σ H->wpAny (model X.prog X.w) X.A (execs st X.env) (SP X pins D) X.xe s
def qa {t:Sem α}{Q Q':α->Shared->Prop}{A:Around}(h:wpAny M A t Q E s)(H:∀a s,Q a s->Q' a s):wpAny M A t Q' E s:=wpAny_mono h H λ_ _ x=>x
section
variable {X:Cx}
noncomputable def cE (i:Nat):TE:=λσ H Q=>∃v,σ[i]? =some (some v)/\Q v H
noncomputable def tC (v:V):TE:=λ_ H Q=>Q v H
def cF (n:X.N[i]? =some x)(g:XI X.env.scope x)(hd:(x==("__debug__":Str))=false:=by decide)(d:(x==("__classdict__":Str))=false:=by decide):PE X (.Name x pos) (cE i):=by
 intro pins s σ H Q I h;obtain⟨v,e,h⟩:=h;obtain⟨m,hn,j⟩:=I.loc;obtain⟨u,r,l⟩:=j i x v n e g;have fin:EP X pins σ Q u s:=⟨v,H,I,r,h⟩;rcases l with ⟨b,hm⟩|⟨b,c,f,a⟩
 ·exact wpAny_Name (wpAny_loadName_local I.ok.kind b hn hm fin) hd
 ·rcases b with b|b
  ·exact wpAny_Name (wpAny_loadName_cell I.ok.kind b f a fin) hd
  ·exact wpAny_Name (wpAny_loadName_free I.ok.kind b f a fin d) hd
def cG {i j pos}:PE X (.Constant (.int i) j pos) (tC (.int i)):=λ_ _ _ H _ I h=>wpAny_Constant_int ⟨.int i,H,I.tok _,⟨_,rfl⟩,h⟩
def cH {b j pos}:PE X (.Constant (.bool b) j pos) (tC (.bl b)):=λ_ _ _ H _ I h=>Constant_bool ⟨.bl b,H,I,rfl,h⟩
def cI {j pos}:PE X (.Constant .none j pos) (tC .non):=λ_ _ _ H _ I h=>Constant_none ⟨.non,H,I,rfl,h⟩
def cJ {x j pos}:PE X (.Constant (.str x) j pos) (tC (.str x)):=λ_ _ _ H _ I h=>Calls.Constant_str ⟨.str x,H,I.tok _,⟨_,rfl⟩,h⟩
def Gl (X:Cx)(x:Str):Prop:=X.env.kindOf x=some .globalImplicit
def KN {σ:St}{H:Hp}(I:Inv X pins σ H s)(g:Gl X x)(hm:X.mg x=some u)(h:Q u s)
  (hd:(x==("__debug__":Str))=false:=by decide):wpAny (model X.prog X.w) X.A (eval (.Name x pos) X.env) Q E s:=
 Calls.Name_function_global I.ok.kind g (Calls.loadGlobal_global (by rw[I.ok.glob];exact I.mod.glob.keeps I.bk) hm h) hd
def ZP {σ:St}{H:Hp}(I:Inv X pins σ H s)(g:Gl X x)(hm:X.mg x=none)(v:bootBuiltins x=some u)(h:Q u s)
  (hn:x ≠ "__name__":=by decide)(hd:(x==("__debug__":Str))=false:=by decide):wpAny (model X.prog X.w) X.A (eval (.Name x pos) X.env) Q E s:=by
 obtain⟨mb,b,a⟩:=I.mod.blt;exact Calls.Name_function_global I.ok.kind g (Calls.loadGlobal_builtin (by rw[I.ok.glob];exact I.mod.glob.keeps I.bk) hm (by rw[I.ok.blt];exact b.keeps I.bk) ((a x hn).trans v) h) hd
def cK {v:V}(g:Gl X x)(hm:X.mg x=some u)(r:RelV v u)(hd:(x==("__debug__":Str))=false:=by decide):PE X (.Name x pos) (tC v):=
 λ_ _ _ H _ I h=>KN I g hm ⟨v,H,I,r,h⟩ hd
def GK {v:V}(g:Gl X x)(hm:X.mg x=none)(a:bootBuiltins x=some u)(r:RelV v u)(hn:x ≠ "__name__":=by decide)(hd:(x==("__debug__":Str))=false:=by decide):PE X (.Name x pos) (tC v):=
 λ_ _ _ H _ I h=>ZP I g hm a ⟨v,H,I,r,h⟩ hn hd
variable {a b:Expr}{ta tb:TE}
def DK (b:Expr)(h:op≠.In)(H:op≠.NotIn):behindInMarks op b=false:=by
 have E:(op==CmpOp.In)=false:=by cases op<;>first|rfl|exact absurd rfl h
 have e:(op==CmpOp.NotIn)=false:=by cases op<;>first|rfl|exact absurd rfl H
 cases b<;>simp[behindInMarks,E,e]
noncomputable def tB (t:TE):TT:=λσ H Q=>t σ H λx H1=>∃c,x=.bl c/\Q c H1
def cL {t:TE}(h:PE X e t)(he:∀whole,isTrue e X.env whole=(do let v <- whole;standAt e.pos;holding [v] (truthy v)):=by intro _;rfl):PT X e (tB t):=by
 intro pins s σ H Q I hw;refine isTrue_plain (qa (h pins s σ H _ I hw) λv s1 ⟨x,H1,i,r,a⟩=>?_) (he _);obtain⟨d,rfl,q⟩:=a;cases r;exact wpAny_truthy_bool ⟨H1,i,q⟩
variable {tA tB':TT}{rest:bY}
noncomputable def cM (t u:TT):TT:=λσ H Q=>t σ H λc H1=>if c=true then u σ H1 Q else Q false H1
noncomputable def cN (t u:TT):TT:=λσ H Q=>t σ H λc H1=>if c=true then Q true H1 else u σ H1 Q
noncomputable def cO (t:TT):TT:=λσ H Q=>t σ H λc H1=>Q (!c) H1
def pw_and1 (b:PT X a tA):PW X (.BoolOp .And [a] pos) tA:=by
 intro w pins s σ H Q I h;refine isTrue_and (qa (b pins s σ H Q I h) λc s1 e=>?_);cases c with
 |true=>exact isTrue_and_nil e|false=>exact e
def pw_or1 (b:PT X a tA):PW X (.BoolOp .Or [a] pos) tA:=by
 intro w pins s σ H Q I h;refine isTrue_or (qa (b pins s σ H Q I h) λc s1 e=>?_);cases c with
 |false=>exact isTrue_or_nil e|true=>exact e
def pw_and (e:PT X a tA)(d:PW X (.BoolOp .And (b::rest) pos) tB'):PW X (.BoolOp .And (a::b::rest) pos) (cM tA tB'):=by
 intro w pins s σ H Q I h;refine isTrue_and (qa (e pins s σ H _ I h) λc s1 ⟨H1,i,q⟩=>?_);cases c with
 |true=>exact d w pins s1 σ H1 Q i q|false=>exact⟨H1,i,q⟩
def pw_or (e:PT X a tA)(d:PW X (.BoolOp .Or (b::rest) pos) tB'):PW X (.BoolOp .Or (a::b::rest) pos) (cN tA tB'):=by
 intro w pins s σ H Q I h;refine isTrue_or (qa (e pins s σ H _ I h) λc s1 ⟨H1,i,q⟩=>?_);cases c with
 |true=>exact⟨H1,i,q⟩|false=>exact d w pins s1 σ H1 Q i q
def cP (b:PT X a tA):PT X (.UnaryOp .Not a pos) (cO tA):=by
 intro pins s σ H Q I h;exact isTrue_not (b pins s σ H (λc H1=>Q (!c) H1) I h)
noncomputable def cQ (T t:TE):TE:=λσ H Q=>T σ H λx H1=>∃c,x=.bl c/\if c=true then t σ H1 Q else Q (.bl false) H1
noncomputable def cR (t:TE):TE:=λσ H Q=>t σ H λx H1=>∃c,x=.bl c/\Q (.bl (!c)) H1
def cS {op}{t:TE}(h:PE X a t):PE X (.BoolOp op [a] pos) t:=λpins s σ H Q I hw=>BoolOp_one (h pins s σ H Q I hw)
def cT (e:PE X a ta)(d:PE X (.BoolOp .And (b::rest) pos) tb):PE X (.BoolOp .And (a::b::rest) pos) (cQ ta tb):=by
 intro pins s σ H Q I h;refine BoolOp_and (qa (e pins s σ H _ I h) λv s1 ⟨x,H1,i,r,q⟩=>?_);obtain⟨c,rfl,q⟩:=q;cases r;refine wpAny_truthy_bool ?_;cases c with
 |true=>exact d pins s1 σ H1 Q i q|false=>exact⟨.bl false,H1,i,rfl,q⟩
def cU (b:PE X a ta):PE X (.UnaryOp .Not a pos) (cR ta):=by
 intro pins s σ H Q I h;refine UnaryOp_ (qa (b pins s σ H _ I h) λv s1 ⟨x,H1,i,r,q⟩=>?_);obtain⟨c,rfl,q⟩:=q;cases r;exact not_of (wpAny_truthy_bool ⟨.bl (!c),H1,i,rfl,q⟩)
noncomputable def cV (t:TT)(a T:TE):TE:=λσ H Q=>t σ H λc H1=>if c=true then a σ H1 Q else T σ H1 Q
def CP {c:Expr}(e:PT X c tA)(g:PE X a ta)(f:PE X b tb):PE X (.IfExp c a b pos) (cV tA ta tb):=by
 intro pins s σ H Q I h;refine wpAny_IfExp (qa (e pins s σ H _ I h) λd s1 ⟨H1,i,q⟩=>?_);cases d with
 |true=>exact g pins s1 σ H1 Q i q|false=>exact f pins s1 σ H1 Q i q
end
def jy (K:Frag)(H:Hp)(a:Addr)(xs:List V):Prop:=
 Rd H a (.lst xs)∨
  ∃(o:Obj) (its:Array Value) (n:Nat),K.lookup a=some o/\o.cls=.type "list" /\ o.dict=none/\o.data=.seq its n/\its.size<=sizeLine/\Vals xs its.toList
def qS (K:Frag)(H:Hp)(a:Addr)(xs:List V):Prop:=
 Rd H a (.tup xs)∨
  ∃(o:Obj) (its:Array Value) (n:Nat),K.lookup a=some o/\(o.cls=.type "tuple" /\ o.dict=none)/\o.data=.seq its n/\its.size<=sizeLine/\Vals xs its.toList
noncomputable def cW:Value->Option V
 |.none=>some .non|.bool b=>some (.bl b)|.int i _=>some (.int i)|.str x _=>some (.str x)|.bytes b _=>some (.byt b)|.float b _=>some (.flt b)|.ref a=>some (.ref a)|.type n=>some (.ty n)|_=>none
def RelV.abs {x:V}(r:RelV x u):cW u=some x:=by
 cases x with
 |non=>cases r;rfl|bl _=>cases r;rfl|int _=>obtain⟨t,rfl⟩:=r;rfl|str _=>obtain⟨t,rfl⟩:=r;rfl|byt _=>obtain⟨t,rfl⟩:=r;rfl|flt _=>obtain⟨t,rfl⟩:=r;rfl|ref _=>cases r;rfl|ty _=>cases r;rfl
def RelV.inj {x y:V}(r:RelV x u)(q:RelV y u):x=y:=aD (r.abs.symm.trans q.abs)
theorem Vals.inj:∀{xs ys:List V}{us:bR},Vals xs us->Vals ys us->xs=ys
 |_,_,_,.nil,.nil=>rfl|_,_,_,.cons r t,.cons a t'=>by rw[r.inj a,Vals.inj t t']
section
variable {X:Cx}{σ:St}{H:Hp}{xs ys:List V}
def jy.of {K:Frag}(h:H a=some (.lst xs)):jy K H a xs:=.inl (.inl h)
def qS.of {K:Frag}(h:H a=some (.tup xs)):qS K H a xs:=.inl (.inl h)
def Inv.list (I:Inv X pins σ H s)(h:jy X.K H a xs):∃i:bR,Vals xs i/\PlainL s.heap a i.toArray/\xs.length<=sizeLine:=by
 rcases h with h|⟨o,i,n,c,d,hd,b,f,r⟩
 ·obtain⟨z,i,n,r,e⟩:=h.ok I.hok
  exact⟨i,r,⟨_,n,e,rfl,rfl,rfl⟩,z⟩
 ·refine⟨i.toList,r,⟨o,n,I.kIn a o c,d,hd,by simpa using b⟩,?_⟩
  have e:=r.length;simp only[aS]at e;omega
def Inv.tuple (I:Inv X pins σ H s)(h:qS X.K H a xs):∃i:bR,Vals xs i/\IsTup s.heap a i.toArray/\xs.length<=sizeLine:=by
 rcases h with h|⟨o,i,n,c,d,b,f,r⟩
 ·obtain⟨z,i,r,p⟩:=h.ok I.hok
  exact⟨i,r,p.tup,z⟩
 ·refine⟨i.toList,r,⟨o,I.kIn a o c,d.1,n,by simpa using b⟩,?_⟩
  have e:=r.length;simp only[aS]at e;omega
def Inv.list_inj (I:Inv X pins σ H s)(h:jy X.K H a xs)(h':jy X.K H a ys):xs=ys:=by
 obtain⟨i,r,⟨o,n,e,_,_,d⟩,_⟩:=I.list h;obtain⟨its',b,⟨o',N,E,_,_,d'⟩,_⟩:=I.list h';rw[e]at E;cases E;rw[d]at d';injection d' with D _
 have:i=its':=by simpa using congrArg Array.toList D
 subst this;exact r.inj b
def Inv.tuple_inj (I:Inv X pins σ H s)(h:qS X.K H a xs)(h':qS X.K H a ys):xs=ys:=by
 obtain⟨i,r,⟨o,e,_,n,d⟩,_⟩:=I.tuple h;obtain⟨its',b,⟨o',E,_,N,d'⟩,_⟩:=I.tuple h';rw[e]at E;cases E;rw[d]at d';injection d' with D _
 have:i=its':=by simpa using congrArg Array.toList D
 subst this;exact r.inj b
end
noncomputable abbrev Cx.wish (X:Cx)(E:bX):Cx:={ X with xe:=E }
noncomputable abbrev Cx.nox (X:Cx):Cx:=X.wish λ_ _=>False
theorem Cx.Ok.wish {X:Cx}(ok:X.Ok)(E:bX):(X.wish E).Ok:=
 ⟨ok.mod,ok.kind,ok.glob,ok.blt,ok.above,ok.inj,ok.has,ok.cab,ok.hd,ok.frames,ok.stk,ok.exf,ok.bs,ok.bsz,ok.noex,ok.exfs,ok.funs,ok.frf⟩
def Cx.Ok.unwish {X:Cx}(ok:(X.wish E).Ok):X.Ok:=
 ⟨ok.mod,ok.kind,ok.glob,ok.blt,ok.above,ok.inj,ok.has,ok.cab,ok.hd,ok.frames,ok.stk,ok.exf,ok.bs,ok.bsz,ok.noex,ok.exfs,ok.funs,ok.frf⟩
section
variable {X:Cx}{σ:St}{H:Hp}
theorem Inv.wish (I:Inv X pins σ H s)(E:bX):Inv (X.wish E) pins σ H s:=⟨I.ok.wish E,I.os,I.bare,I.base,I.loc,I.cell,I.free,I.freeC,I.pin,I.hok,I.len⟩
theorem Inv.unwish (I:Inv (X.wish E) pins σ H s):Inv X pins σ H s:=⟨I.ok.unwish,I.os,I.bare,I.base,I.loc,I.cell,I.free,I.freeC,I.pin,I.hok,I.len⟩
theorem SP.unwish {D:Ends}{f:Flow}(h:SP (X.wish E) pins D f s'):SP X pins D f s':=by
 cases f with
 |next=>obtain⟨a,H,I,q⟩:=h;exact⟨a,H,I.unwish,q⟩|brk=>obtain⟨a,H,I,q⟩:=h;exact⟨a,H,I.unwish,q⟩|cont=>obtain⟨a,H,I,q⟩:=h;exact⟨a,H,I.unwish,q⟩|ret u=>obtain⟨v,a,H,I,r,q⟩:=h;exact⟨v,a,H,I.unwish,r,q⟩
theorem PT.nox {t:TT}(h:PT X.nox e t):PT X e t:=λpins s σ H Q I hw=>
 wpAny_mono (h pins s σ H Q (I.wish _) hw) (λ_ _ ⟨a,i,q⟩=>⟨a,i.unwish,q⟩) λ_ _ z=>False.elim z
theorem yU.nox {st:cg}{t:TS}(h:yU X.nox st t):yU X st t:=λpins s σ H D I hw=>
 wpAny_mono (h pins s σ H D (I.wish _) hw) (λ_ _ q=>q.unwish) λ_ _ z=>False.elim z
end
section
variable {X:Cx}{st:Stmt}{rest:cg}{t u:TS}{te:TE}
noncomputable def cX:TS:=λD σ H=>D.nx σ H
noncomputable def cY (t u:TS):TS:=λD σ H=>t { D with nx:=u D } σ H
def Ao:yU X [] cX:=λ_ _ σ H _ I h=>wpAny_execs_nil ⟨σ,H,I,h⟩
def Cj (c:PS X st t)(b:yU X rest u):yU X (st::rest) (cY t u):=by
 intro pins s σ H D I h;refine wpAny_execs_cons (qa (c pins s σ H { D with nx:=u D } I h) λf s1 q=>?_)
 cases f with
 |next=>
  obtain⟨a,d,i,q⟩:=q;exact b pins s1 a d D i q
 |ret v=>exact q|brk=>exact q|cont=>exact q
def Inv.quiet {σ:St}{H:Hp}(I:Inv X pins σ H s):interactive X.env=false:=by simp[interactive,I.ok.kind]
noncomputable def cZ (t:TE):TS:=λD σ H=>t σ H λ_ H1=>D.nx σ H1
def c4 (he:PE X e te)(a:swapsWith e none pos.line X.env=pure false:=by rfl):PS X (.Expr e pos) (cZ te):=by
 intro pins s σ H D I h;exact wpAny_Expr_any (qa (he pins s σ H _ I h) λv s1 ⟨x,H1,i,r,q⟩=>⟨σ,H1,i,q⟩) I.quiet a
noncomputable def c5 (t:TE):TS:=λD σ H=>t σ H D.rt
def c6 (he:PE X e te):PS X (.Return (some e) pos) (c5 te):=by
 intro pins s σ H D I h;exact wpAny_Return_some (qa (he pins s σ H _ I h) λv s1 ⟨x,H1,i,r,q⟩=>⟨x,σ,H1,i,r,q⟩)
noncomputable def c7 (c:TT)(t u:TS):TS:=λD σ H=>c σ H λb H1=>if b=true then t D σ H1 else u D σ H1
def c8 {c:Expr}{a b:cg}{T:TT}(e:PT X c T)(g:yU X a t)(f:yU X b u):PS X (.If c a b pos) (c7 T t u):=by
 intro pins s σ H D I h;refine wpAny_If (qa (e pins s σ H _ I h) λd s1 ⟨H1,i,q⟩=>?_);cases d with
 |true=>exact g pins s1 σ H1 D i q|false=>exact f pins s1 σ H1 D i q
end
abbrev TG:=V->St->Hp->(St->Hp->Prop)->Prop
abbrev J7:=List V->St->Hp->(St->Hp->Prop)->Prop
def PG (X:Cx)(target:Expr)(t:TG):Prop:=
 ∀(pins:bT)(s:Shared)(σ:St)(H:Hp)(v:V)(u:Value)(Q:St->Hp->Prop),Inv X pins σ H s->RelV v u->t v σ H Q->
  wpAny (model X.prog X.w) X.A (assign target X.env u) (λ_ s'=>∃a h,Inv X pins a h s'/\Q a h) X.xe s
def XS (X:Cx)(ts:bY)(t:J7):Prop:=
 ∀(pins:bT)(s:Shared)(σ:St)(H:Hp)(vs:List V)(us:bR)(Q:St->Hp->Prop),Inv X pins σ H s->Vals vs us->t vs σ H Q->
  wpAny (model X.prog X.w) X.A (assignInOrder ((assignEach ts X.env).map (·.2)) us) (λ_ s'=>∃a h,Inv X pins a h s'/\Q a h) X.xe s
abbrev J2:=V->V->V->Hp->(Hp->Prop)->Prop
def Xu (X:Cx)(t:J2):Prop:=
 ∀(pins:bT)(s:Shared)(σ:St)(H:Hp)(o i v:V)(a I u:Value)(Q:Hp->Prop),Inv X pins σ H s->RelV o a->RelV i I->RelV v u->t o i v H Q->
  wpAny (model X.prog X.w) X.A (setItem a I u) (λ_ s'=>∃h,Inv X pins σ h s'/\Q h) X.xe s
abbrev X1:=V->V->Hp->VK->Prop
def Mx (X:Cx)(op:Operator)(t:X1):Prop:=
 ∀(pins:bT)(s:Shared)(σ:St)(H:Hp)(x y:V)(v u:Value)(Q:VK),Inv X pins σ H s->RelV x v->RelV y u->t x y H Q->
  wpAny (model X.prog X.w) X.A (inplaceOp op v u) (EP X pins σ Q) X.xe s
section
variable {X:Cx}
noncomputable def Xk (i:Nat):TG:=λv σ H Q=>Q (σ.set i (some v)) H
def Yz (b:X.N.Nodup)(hi:X.N[i]? =some x)(a:Loc X.env.scope x)(hf:X.fn x=true∨X.env.scope.names.lookup x=some .local:=by first|exact .inl rfl|exact .inr rfl|assumption):PG X (.Name x pos) (Xk i):=by
 intro pins s σ H v u Q I r h;exact wpAny_assign_Name (Yq I b hi a r (λs' c=>⟨_,H,c,h⟩) hf)
noncomputable def c9:J7:=λvs σ H Q=>vs=[]/\Q σ H
noncomputable def da (t:TG)(u:J7):J7:=λvs σ H Q=>∃v r,vs=v::r/\t v σ H λa h=>u r a h Q
def Uz:XS X [] c9:=by
 intro pins s σ H vs us Q I r h;obtain⟨e,h⟩:=h;subst e;cases r;exact assignInOrder_nil ⟨σ,H,I,h⟩
def Yr {E:bY}{t:TG}{u:J7}(f:PG X e t)(d:XS X E u)
  (c:(assignEach (e::E) X.env).map (·.2)=assign e X.env::(assignEach E X.env).map (·.2):=by rfl):XS X (e::E) (da t u):=by
 intro pins s σ H vs us Q I r h;obtain⟨v,j,g,h⟩:=h;subst g;cases r with
 |cons r b=>
  rw[c];refine assignInOrder_cons (qa (f pins s σ H _ _ _ I r h) λ_ s1 ⟨a,H1,i,q⟩=>?_);exact d pins s1 a H1 _ _ Q i b q
noncomputable def jU (K:Frag)(n:Nat)(t:J7):TG:=λv σ H Q=>∃a xs,v=.ref a/\qS K H a xs/\xs.length=n/\t xs σ H Q
def US {E:bY}{k:Nat}{t:J7}(g:X.calm=true)(h:XS X E t)
  (hn:(assignEach E X.env).length=n:=by rfl)(c:(assignEach E X.env).findIdx? (·.1)=none:=by rfl):PG X (.Tuple E k pos) (jU X.K n t):=by
 intro pins s σ H v u Q I r hw;obtain⟨a,xs,j,q,l,hw⟩:=hw;subst j;cases r;obtain⟨i,d,f,z⟩:=I.tuple q;refine assign_Tuple_tuple (I.ok.hd g) f (by simp[hn,<- l,d.length]) c λh' x=>?_
 have p:Inv X pins σ H { s with heap:=h' }:=I.kept (t':=s.toks) λb o e=>x b o (aK (aH e)) e
 exact h pins _ σ H xs _ Q p (by simpa using d) hw
noncomputable def yT (to ti:TE)(t:J2):TG:=λv σ H Q=>to σ H λo H1=>ti σ H1 λi a=>t o i v a λh=>Q σ h
def dc {o i:Expr}{to ti:TE}{t:J2}(f:PE X o to)(hi:PE X i ti)(e:Xu X t)
  (g:∀v,assign (.Subscript o i pos) X.env v=(do
   let ov <- holding [v] (eval o X.env)
   let iv <- holding [v,ov] (eval i X.env)
   standAt pos
   holding [v,ov,iv] (setItem ov iv v)
   release [v,ov,iv] []):=by intro _;rfl):PG X (.Subscript o i pos) (yT to ti t):=by
 intro pins s σ H v u Q I r h;rw[g];refine ck (wpAny_holding (qa (f pins s σ H _ I h) λov s1 ⟨x,H1,n,b,d⟩=>?_));refine ck (wpAny_holding (qa (hi pins s1 σ H1 _ n d) λiv s2 ⟨y,w,l,a,c⟩=>?_));refine ck (wpAny_standAt (ck (wpAny_holding (qa (e pins s2 σ w x y v ov iv u _ l b a r c) λ_ s3 ⟨p,j,q⟩=>?_))));exact wpAny_release ⟨σ,p,j,q⟩
noncomputable def Xw (t:TE)(g:TG):TS:=λD σ H=>t σ H λx H1=>g x σ H1 D.nx
def NH {t:TE}{g:TG}(he:PE X e t)(b:PG X tg g)(a:swapsWithSole [tg] e pos.line X.env=pure false:=by rfl)(hw:swappedStores [tg] e X.env=pure none:=by rfl)
  (c:(assignEach [tg] X.env).map (·.2)=[assign tg X.env]:=by rfl):PS X (.Assign [tg] e pos) (Xw t g):=by
 intro pins s σ H D I h;refine wpAny_Assign_stores (qa (he pins s σ H _ I h) λv s1 ⟨x,H1,i,r,Q⟩=>?_) a hw;rw[c];exact qa (b pins s1 σ H1 x v _ i r Q) λ_ s2 q=>q
def de {t:TE}{pos':Pos}(c:X.N.Nodup)(hi:X.N[i]? =some x)(a:Loc X.env.scope x)(he:PE X e t)(b:swapsWith e (some (.Name x pos')) pos.line X.env=pure false:=by rfl)(hf:X.fn x=true∨X.env.scope.names.lookup x=some .local:=by first|exact .inl rfl|exact .inr rfl|assumption):
  PS X (.Assign [.Name x pos'] e pos) (Xw t (Xk i)):=by
 intro pins s σ H D I h;refine wpAny_Assign_Name (qa (he pins s σ H _ I h) λv s1 ⟨y,H1,f,r,q⟩=>?_) b;exact Yq f c hi a r (λs2 d=>⟨_,H1,d,q⟩) hf
noncomputable def df (i j:Nat)(t:TA):TS:=λD σ H=>t σ H λvs H1=>∃v w,vs=[v,w]/\D.nx ((σ.set i (some v)).set j (some w)) H1
def dh {y:Str}{a b:Expr}{t:TA}{P py pt:Pos}{kt k2 pt2}(L:X.calm=true)(l:X.N.Nodup)(hi:X.N[i]? =some x)(K:X.N[j]? =some y)(d:i≠j)
  (g:X.env.scope.names.lookup x=some .local)(f:X.env.scope.names.lookup y=some .local)(M:PA X [a,b] t)
  (hw:swappedStores [.Tuple [.Name x P,.Name y py] kt pt] (.Tuple [a,b] k2 pt2) X.env=pure (some [x,y]))
  (J:swapsWithSole [.Tuple [.Name x P,.Name y py] kt pt] (.Tuple [a,b] k2 pt2) pos.line X.env=pure false:=by rfl):
  PS X (.Assign [.Tuple [.Name x P,.Name y py] kt pt] (.Tuple [a,b] k2 pt2) pos) (df i j t):=by
 intro pins s σ H D I h;rw[exec_Assign_arm];refine ck (wpAny_standAt ?_);rw[J];refine ck (cm ?_);rw[ar (by decide)]
 refine ck (Tuple_ (qa (M _ pins s σ H _ I h) λus s1 ⟨vs,H1,I1,B,Q⟩=>?_));obtain⟨v,w,S,Q⟩:=Q;subst S;obtain⟨U,u,rfl,z,r⟩:∃U u,us=[U,u]/\RelV v U/\RelV w u:=by
  cases B with
  |cons p q=>
   cases q with
   |cons E C=>
    cases C;exact⟨_,_,rfl,p,E⟩
 refine wpAny_newObj_type ?_ (by show 2<=sizeLine;decide)
 have Z:Inv X pins σ H1 { s1 with heap:=s1.heap.push { cls:=.type "tuple",data:=.seq [U,u].toArray } }:=I1.kept (t':=s1.toks) λb o e=>af _ e
 rw[hw];refine ck (cm ?_);show wpAny (model X.prog X.w) X.A (do rule "assign.swapped-stores";let items <- unpackItems (.ref s1.heap.objs.size) 2 none;assignInOrder [λv=>bindName X.env y v,λv=>bindName X.env x v] items.reverse;pure Flow.next) _ _ _
 refine ck (wpAny_rule (ck (unpackItems_tuple (items:=#[U,u]) (I.ok.hd L) (IsTup.new s1.heap _) λh' c=>?_)));have Y:=Z.kept (h':=h') (t':=s1.toks) λb o e=>c b o (aK (aH e)) e;show wpAny _ _ (assignInOrder [λv=>bindName X.env y v,λv=>bindName X.env x v] [u,U] >>= λ_=>pure Flow.next) _ _ _;refine ck (assignInOrder_cons (wpAny_bindName (Yq Y l K (.inl f) r (λs2 T=>?_) (.inr f))));refine assignInOrder_cons (wpAny_bindName (Yq T l hi (.inl g) z (λs3 n=>assignInOrder_nil (cm ?_)) (.inr g)));rw[List.set_comm _ _ (Ne.symm d)]at n;exact⟨_,H1,n,Q⟩
noncomputable def di (to ti e:TE)(T:V->V->Hp->VK->Prop)(p:X1)(t:J2):TS:=λD σ H=>to σ H λo H1=>ti σ H1 λi d=>T o i d λx c=>e σ c λy b=>p x y b λz a=>t o i z a λh=>D.nx σ h
def Mm (X:Cx)(t:V->V->Hp->VK->Prop):Prop:=
 ∀(pins:bT)(s:Shared)(σ:St)(H:Hp)(o i:V)(v I:Value)(Q:VK),Inv X pins σ H s->RelV o v->RelV i I->t o i H Q->
  wpAny (model X.prog X.w) X.A (getItem v I) (EP X pins σ Q) X.xe s
def dj {o i:Expr}{to ti c:TE}{T:V->V->Hp->VK->Prop}{p:X1}{t:J2}{op:Operator}(z:PE X o to)(hi:PE X i ti)(A:Mm X T)(he:PE X e c)(y:Mx X op p)(x:Xu X t)
  (B:∀a b new,augStore i a b new=(do holding [new,a,b] (setItem a b new);release [new,a,b] [];pure .next):=by intros;rfl):PS X (.AugAssign (.Subscript o i tpos) op e pos) (di to ti c T p t):=by
 intro pins s σ H D I h;refine wpAny_AugAssign_SubscriptAny (qa (z pins s σ H _ I h) λa s1 ⟨x1,H1,M,d,w⟩=>?_) B;refine qa (hi pins s1 σ H1 _ M w) λb s2 ⟨x2,Y,L,r,u⟩=>?_;refine qa (A pins s2 σ Y x1 x2 a b _ L d r u) λold s3 ⟨x3,U,K,j,n⟩=>?_;refine qa (he pins s3 σ U _ K n) λv s4 ⟨x4,S,J,g,l⟩=>?_;refine qa (y pins s4 σ S x3 x4 old v _ J j g l) λnew s5 ⟨x5,P,E,f,Q⟩=>?_;exact qa (x pins s5 σ P x1 x2 x5 a b new _ E d r f Q) λ_ Z ⟨N,C,q⟩=>⟨σ,N,C,q⟩
noncomputable def dk (f:Int->Int->Int):X1:=λx y H Q=>∃i j,x=.int i/\y=.int j/\Q (.int (f i j)) H
def dm:Mx X .Add (dk λi j=>i+j):=by
 intro pins s σ H x y v u Q I a r h;obtain⟨i,j,E,e,q⟩:=h;subst E;subst e;obtain⟨t,rfl⟩:=a;obtain⟨t',rfl⟩:=r;exact iadd_int ⟨.int _,H,I.tok _,⟨_,rfl⟩,q⟩
def dq (c:TT)(t:TS):TS:=λD σ H=>∃W:Nat->St->Hp->Prop,(∃m,W m σ H)/\∀m σ H,W m σ H->
 c σ H λb H1=>if b=true then ∃N:St->Hp->Prop,(∀a h,N a h->∃M,M<m/\W M a h)/\t { D with nx:=N,ct:=N,bk:=D.nx } σ H1 else D.nx σ H1
def DA {c:Expr}{t:TT}{T:TS}(p:PassesOwn (model X.prog X.w) X.A X.env X.xe)(B:PT X c t)(C:yU X body T):PS X (.While c body [] pos) (dq t T):=by
 intro pins s σ H D I h;obtain⟨W,⟨m0,z⟩,turn⟩:=h;refine wpAny_While (codeAny_whileLoop (λn s'=>∃e x,Inv X pins e x s'/\W n e x) ?_ m0 ⟨σ,H,I,z⟩)
 rintro n s1 ⟨d,H1,E,y⟩
 refine wpAny_passesOwn p (qa (B pins s1 d H1 _ E (turn n d H1 y)) λb s2 ⟨u,r,Q⟩=>?_);cases b with
 |true=>
  obtain⟨N,o,Q⟩:=Q;rw[ah rfl];refine wpAny_passesOwn p (qa (C pins s2 d u _ r Q) λf s3 q=>?_);cases f with
  |next=>
   obtain⟨a,g,l,j⟩:=q;obtain⟨M,hm,i⟩:=o a g j;exact⟨M,hm,a,g,l,i⟩
  |cont=>
   obtain⟨a,g,l,j⟩:=q;obtain⟨M,hm,i⟩:=o a g j;exact⟨M,hm,a,g,l,i⟩
  |brk=>exact q|ret v=>exact q
 |false=>
  rw[ar aA];exact wpAny_execs_nil ⟨d,u,r,Q⟩
end
structure It where
 go:Nat->Hp->Prop
 yld:Nat->Hp->V->Hp->Prop
 stop:Nat->Hp->Prop
def wV (X:Cx)(pins:bT)(H:Hp)(b:Addr):Prop:=
 H b=none/\b≠X.env.locals/\b∉X.fs/\(b∈X.ex∨X.s0.heap.objs.size<=b)/\(∀x c,X.env.cells.lookup x=some c->c≠b)/\∀p∈X.pn++pins,p.1≠b
def Inv.fpOk {X:Cx}{σ:St}{H a:Hp}(I:Inv X pins σ H s)(h:s.heap.objs.size<=b)(hn:a b=none):wV X pins a b:=by
 refine⟨hn,bp (aE I.lt h),I.nofs h,.inr (bq I.sz h),λx c e z=>?_,λp d z=>?_⟩
 ·obtain⟨v,q⟩:=I.cell x c e
  exact absurd (aE q.lt (by rw[z];exact h)) (aT _)
 ·exact absurd (aE (aH (I.pin p d).1) (by rw[z];exact h)) (aT _)
structure Turn (P:Program)(w:World)(K:Frag)(tg:Expr)(J:It)(fp:bS)(it:Addr)(tn:Nat->Heap->Prop):Prop where
 mem:it∈fp
 obj:∀i h,tn i h->∀b∈fp,∃o,h.get? b=some o/\∀v,o.data≠.cell v
 keep:∀i h h',tn i h->(∀b∈fp,∀o,h.get? b=some o->h'.get? b=some o)->tn i h'
 item:∀(X:Cx),X.prog=P->X.w=w->X.K=K->X.calm=true->∀(i:Nat)(pins:bT)(s:Shared)(σ:St)(H:Hp)(E:bX),Inv X pins σ H s->(∀b∈fp,wV X pins H b)->tn i s.heap->J.go i H->
  wpAny (model P w) X.A (pyNext (.ref it)) (λr s1=>∃u,r=some u/\
   wpAny (model P w) X.A (letOwnedTupleGo tg (.ref it) u) (λ_ s2=>∃x H',Inv X pins σ H' s2/\RelV x u/\J.yld i H x H'/\tn (i+1) s2.heap/\∀b∈fp,H' b=none) E s1) E s
 done:∀(X:Cx),X.prog=P->X.w=w->X.K=K->X.calm=true->∀(i:Nat)(pins:bT)(s:Shared)(σ:St)(H:Hp)(E:bX),Inv X pins σ H s->(∀b∈fp,wV X pins H b)->tn i s.heap->J.stop i H->
  wpAny (model P w) X.A (pyNext (.ref it)) (λr s1=>r=none/\Inv X pins σ H s1) E s
 self:∀(A:Around)(i:Nat)(s:Shared)(Q:bX)(E:bX),tn i s.heap->Q (.ref it) s->wpAny (model P w) A (pyIter (.ref it)) Q E s
abbrev TI:=St->Hp->(It->Hp->Prop)->Prop
inductive MV (X:Cx)(pins:bT)(σ:St)(tg:Expr)(R:It->Hp->Prop)(itv:Value)(s2:Shared):Prop
 |mk (it:Addr) (fp:bS) (tn:Nat->Heap->Prop) (J:It) (H':Hp) (e:itv=.ref it) (I:Inv X pins σ H' s2) (T:Turn X.prog X.w X.K tg J fp it tn) (t0:tn 0 s2.heap) (f:(∀b∈fp,wV X pins H' b)) (q:R J H')
def PI (X:Cx)(t iter:Expr)(i:TI):Prop:=
 ∀(pins:bT)(s:Shared)(σ:St)(H:Hp)(R:It->Hp->Prop),Inv X pins σ H s->i σ H R->
  wpAny (model X.prog X.w) X.A (eval iter X.env) (λv s1=>wpAny (model X.prog X.w) X.A (pyIter v) (MV X pins σ t R) X.xe s1) X.xe s
def To {A:Around}{it:Addr}{o:Obj}{n:String}{vs:Array Value}{Q:Unit->Shared->Prop}(a:s.heap.get? it=some o)(c:o.cls=.type n)(hd:o.data=.fields vs)
  (hn:["enumerate","zip","dict_itemiterator","dict_reverseitemiterator","odict_iterator","itertools.zip_longest","itertools.pairwise"].contains n=false)(H:Q () s):wpAny M A (letOwnedTupleGo tg (.ref it) u) Q E s:=by
 unfold letOwnedTupleGo;cases tg<;>first
  |exact cm H
  |(cases u<;>first
    |exact cm H
    |(
      refine ck (wpAny_load a ?_);rw[c,hd];show wpAny M A (if (["enumerate","zip","dict_itemiterator","dict_reverseitemiterator","odict_iterator","itertools.zip_longest","itertools.pairwise"].contains n&&vs[0]?==some (rawInt _))=true then _ else _) Q E s;rw[ar (by intro h;rw[hn,Bool.false_and]at h;cases h)]
      exact cm H))
noncomputable def Mz (K:Frag)(a:Addr):It:=
 ⟨λi H=>∃xs x,jy K H a xs/\xs[i]? =some x,λi H x h=>h=H/\∀xs,jy K H a xs->xs[i]? =some x,λi H=>∃xs,jy K H a xs/\xs.length<=i⟩
noncomputable def MJ (K:Frag)(a:Addr):It:=
 ⟨λi H=>∃xs x,qS K H a xs/\xs[i]? =some x,λi H x h=>h=H/\∀xs,qS K H a xs->xs[i]? =some x,λi H=>∃xs,qS K H a xs/\xs.length<=i⟩
noncomputable def Wx (lo:Int)(n:Nat):It:=⟨λi _=>i<n,λi H x h=>h=H/\x=.int (lo+i),λi _=>n<=i⟩
def ED {K:Frag}(a it:Addr):Turn P w K tg (Mz K a) [it] it (λi h=>h.IsListIter it a i) where
 mem:=by simp
 obj:=λi h st b f=>by
  have e:b=it:=by simpa using f
  subst e;obtain⟨o,e,c,d⟩:=st;exact⟨o,e,λv z=>by rw[d]at z;cases z⟩
 keep:=λi h h' st k=>st.at λo e=>k it (by simp) o e
 item:=by
  intro X n hw t B i pins s σ H E I hf st l;subst n hw t;obtain⟨xs,x,q,j⟩:=l;obtain⟨g,r,p,J⟩:=I.list q;obtain⟨u,M,D⟩:=r.get j;obtain⟨f0,f1,f2,A,f4,y⟩:=hf it (by simp)
  refine wpAny_pyNext_list_item st p.isList (x:=u) (by simpa using M) λh' S C=>?_
  have Q:Inv X pins σ H { s with heap:=h' }:=I.turned (t':=s.toks) (λb o f e=>(C.2 b f).trans e) f0 f1 A f4 y
  obtain⟨o,e,c,d⟩:=id S;exact⟨u,rfl,To (s:={ s with heap:=h' }) e c d (by decide) ⟨x,H,Q,D,⟨rfl,λys L=>by rw[I.list_inj L q];exact j⟩,S,λb f=>(hf b f).1⟩⟩
 done:=by
  intro X n hw t B i pins s σ H E I hf st l;subst n hw t;obtain⟨xs,q,j⟩:=l;obtain⟨g,r,p,J⟩:=I.list q;obtain⟨f0,f1,f2,A,f4,y⟩:=hf it (by simp)
  have T:=r.length;exact wpAny_pyNext_list_end (I.ok.hd B) st p.isList (by simp;omega) λh' N=>⟨rfl,I.turned (t':=s.toks) (λb o f e=>N b o f e) f0 f1 A f4 y⟩
 self:=λ_ _ _ _ _ st h=>wpAny_pyIter_listiter st h
def FC {K:Frag}(a it:Addr):Turn P w K tg (MJ K a) [it] it (λi h=>h.IsTupleIter it a i) where
 mem:=by simp
 obj:=λi h st b g=>by
  have e:b=it:=by simpa using g
  subst e;obtain⟨o,e,c,d⟩:=st;exact⟨o,e,λv z=>by rw[d]at z;cases z⟩
 keep:=λi h h' st k=>st.at λo e=>k it (by simp) o e
 item:=by
  intro X n hw t B i pins s σ H E I hf st l;subst n hw t;obtain⟨xs,x,q,j⟩:=l;obtain⟨f,r,p,J⟩:=I.tuple q;obtain⟨u,M,D⟩:=r.get j;obtain⟨f0,f1,f2,A,f4,y⟩:=hf it (by simp)
  refine wpAny_pyNext_tuple_item st (show s.heap.IsTuple a f.toArray from p) (x:=u) (by simpa using M) λh' S C=>?_
  have Q:Inv X pins σ H { s with heap:=h' }:=I.turned (t':=s.toks) (λb o g e=>(C.2 b g).trans e) f0 f1 A f4 y
  obtain⟨o,e,c,d⟩:=id S;exact⟨u,rfl,To (s:={ s with heap:=h' }) e c d (by decide) ⟨x,H,Q,D,⟨rfl,λys L=>by rw[I.tuple_inj L q];exact j⟩,S,λb g=>(hf b g).1⟩⟩
 done:=by
  intro X n hw t B i pins s σ H E I hf st l;subst n hw t;obtain⟨xs,q,j⟩:=l;obtain⟨f,r,p,J⟩:=I.tuple q;obtain⟨f0,f1,f2,A,f4,y⟩:=hf it (by simp)
  have T:=r.length;exact wpAny_pyNext_tuple_end (I.ok.hd B) st (show s.heap.IsTuple a f.toArray from p) (by simp;omega) λh' N=>⟨rfl,I.turned (t':=s.toks) (λb o g e=>N b o g e) f0 f1 A f4 y⟩
 self:=λ_ _ _ _ _ st h=>wpAny_pyIter_tupleiter st h
def Fv {K:Frag}(it:Addr)(lo:Int)(n:Nat):Turn P w K tg (Wx lo n) [it] it (λi h=>IsRangeIter h it (lo+(i:Nat) * 1) ((n:Int)-(i:Nat)) 1) where
 mem:=by simp
 obj:=λi h st b a=>by
  have e:b=it:=by simpa using a
  subst e;exact⟨_,st,λv z=>by
   have Z:Data.fields _=Data.cell v:=z;cases Z⟩
 keep:=λi h h' st k=>k it (by simp) _ st
 item:=by
  intro X d hw f c i pins s σ H E I hf st g;subst d hw f;obtain⟨f0,f1,f2,l,f4,j⟩:=hf it (by simp)
  have W:=Walks.range (prog:=X.prog) (w:=X.w) (I.ok.hd c) it lo 1 n;refine W.item i s _ _ g st λv h' tk p S kk=>?_;obtain⟨t,rfl⟩:=p;have r:Inv X pins σ H { s with heap:=h',toks:=tk }:=I.turned (λb o a e=>kk b o (by simpa using a) e) f0 f1 l f4 j
  refine⟨_,rfl,To (s:={ s with heap:=h',toks:=tk }) (n := "range_iterator") S rfl rfl (by decide) ⟨.int (lo+i),H,r,⟨t,?_⟩,⟨rfl,rfl⟩,S,λb a=>(hf b a).1⟩⟩
  rw[Int.mul_one]
 done:=by
  intro X d hw f c i pins s σ H E I hf st g;subst d hw f;obtain⟨f0,f1,f2,l,f4,j⟩:=hf it (by simp)
  exact wpAny_pyNext_range_end (I.ok.hd c) st (by have:n<=i:=g;omega) λh' q=>⟨rfl,I.turned (t':=s.toks) (λb o a e=>q b o a e) f0 f1 l f4 j⟩
 self:=λ_ _ _ _ _ st h=>wpAny_pyIter_rangeiter st h
section
variable {X:Cx}
def OH {σ:St}{H:Hp}{R:It->Hp->Prop}{lo hi:Int}{t u v:Tok}{tk:Nat}(I:Inv X pins σ H s)(f:-(2 ^ 62)<=lo)(d:lo<2 ^ 62)(c:-(2 ^ 62)<=hi)(a:hi<2 ^ 62)
  (q:R (Wx lo (hi-lo).toNat) H):wpAny (model X.prog X.w) X.A (pyIter (.ref s.heap.objs.size)) (MV X pins σ tg R) E { s with heap:=s.heap.push { cls:=.type "range",data:=.fields #[.int lo t,.int hi u,.int 1 v] },toks:=tk }:=by
 refine wpAny_pyIter_range (IsRange.new ..) (small_one f d c a) ?_;have i:Inv X pins σ H { s with heap:=s.heap.push { cls:=.type "range",data:=.fields #[.int lo t,.int hi u,.int 1 v] },toks:=tk }:=I.kept λb o e=>af _ e
 refine⟨(s.heap.push { cls:=.type "range",data:=.fields #[.int lo t,.int hi u,.int 1 v] }).objs.size,[(s.heap.push { cls:=.type "range",data:=.fields #[.int lo t,.int hi u,.int 1 v] }).objs.size],_,_,H,rfl,
  i.kept (t':=tk) λb o e=>af _ e,Fv _ lo (hi-lo).toNat,?_,λb h=>?_,q⟩
 ·have j:lo+((0:Nat):Int) * 1=lo:=by simp
  have g:(((hi-lo).toNat:Nat):Int)-((0:Nat):Int)=Builtin.Range.rangeSize lo hi 1:=by rw[rangeSize_one];split<;>omega
  show IsRangeIter _ _ (lo+((0:Nat):Int) * 1) ((((hi-lo).toNat:Nat):Int)-((0:Nat):Int)) 1;rw[j,g];exact au _ rfl
 ·have e:b=(s.heap.push { cls:=.type "range",data:=.fields #[.int lo t,.int hi u,.int 1 v] }).objs.size:=by simpa using h
  subst e;exact i.fpOk (av _) (i.hok.fresh (av _))
def dr (t:TA):TI:=λσ H R=>t σ H λvs H1=>∃j:Int,vs=[.int j]/\-(2 ^ 62)<=j/\j<2 ^ 62/\R (Wx 0 j.toNat) H1
def dt (t:TA):TI:=λσ H R=>t σ H λvs H1=>∃i j:Int,vs=[.int i,.int j]/\(-(2 ^ 62)<=i/\i<2 ^ 62/\-(2 ^ 62)<=j/\j<2 ^ 62)/\R (Wx i (j-i).toNat) H1
def ER {a:Expr}{T:TA}(g:Gl X "range")(hm:X.mg "range"=none)(i:PA X [a] T)(f:starEach [a] X.env=[(false,eval a X.env)]:=by rfl):PI X tg (.Call (.Name "range" p) [a] [] pos) (dr T):=by
 intro pins s σ H R I h;refine Call_ (ZP I g hm boot_range (PyProof.Rows.callWith_type1 (qa (i pos pins s σ H _ I h) λus s1 ⟨vs,H1,l,c,Q⟩=>?_) f rfl));obtain⟨j,e,Q,d,q⟩:=Q;subst e;cases c with
 |cons r b=>
  cases b;obtain⟨t,rfl⟩:=r;exact call_range_1 (OH l (by omega) (by omega) Q d (by simpa using q))
def E9 {a b:Expr}{T:TA}(v:Gl X "range")(hm:X.mg "range"=none)(w:PA X [a,b] T)(u:starEach [a,b] X.env=[(false,eval a X.env),(false,eval b X.env)]:=by rfl)(c:starEach [b] X.env=[(false,eval b X.env)]:=by rfl):
  PI X tg (.Call (.Name "range" p) [a,b] [] pos) (dt T):=by
 intro pins s σ H R I h;refine Call_ (ZP I v hm boot_range (PyProof.Rows.callWith_type1 (qa (w pos pins s σ H _ I h) λus s1 ⟨vs,H1,x,f,Q⟩=>?_) (by rw[u,c]) (by rw[c];rfl)))
 obtain⟨i,j,e,⟨Q,o,n,l⟩,q⟩:=Q;subst e;cases f with
 |cons r d=>
  cases d with
  |cons g d=>
   cases d;obtain⟨t,rfl⟩:=r;obtain⟨t',rfl⟩:=g;exact call_range_2 (OH x Q o n l q)
def du (w:TI)(g:TG)(t:TS):TS:=λD σ H=>w σ H λJ H1=>∃W:Nat->Nat->St->Hp->Prop,(∃m,W 0 m σ H1)/\∀i m σ H,W i m σ H->
 (J.stop i H/\D.nx σ H)∨(J.go i H/\∃N:St->Hp->Prop,(∀a h,N a h->∃M,M<m/\W (i+1) M a h)/\∀x h,J.yld i H x h->g x σ h λb c=>t { D with nx:=N,ct:=N,bk:=D.nx } b c)
noncomputable def K1 (fp:bS)(h:Heap):bT:=fp.filterMap λb=>(h.get? b).map λo=>(b,o)
def Gh {o:Obj}(H:b∈fp)(e:h.get? b=some o):(b,o)∈K1 fp h:=List.mem_filterMap.mpr ⟨b,H,by rw[e];rfl⟩
def Ek {p:Addr×Obj}(H:p∈K1 fp h):p.1∈fp/\h.get? p.1=some p.2:=by
 obtain⟨b,a,e⟩:=List.mem_filterMap.mp H;cases q:h.get? b with
 |none=>rw[q]at e;cases e|some o=>
  rw[q]at e;have E:(b,o)=p:=aD e;subst E;exact⟨a,q⟩
def Inv.pinned {σ:St}{H:Hp}(I:Inv X pins σ H s)(hf:∀b∈fp,wV X pins H b)(c:∀b∈fp,∃o,s.heap.get? b=some o/\∀v,o.data≠.cell v):Inv X (pins++K1 fp s.heap) σ H s:=
 I.pins_of λp a=>(List.mem_append.mp a).elim (λz=>I.pin p (a6 _ z)) λz=>by
  obtain⟨h,e⟩:=Ek z;obtain⟨f0,f1,f2,_⟩:=hf p.1 h;obtain⟨o,E,d⟩:=c p.1 h;rw[e]at E;cases E;exact⟨e,f0,f1,f2,d⟩
def Inv.unpinned {P:bT}{σ:St}{H:Hp}(I:Inv X (pins++P) σ H s):Inv X pins σ H s:=I.pins_of λp h=>I.pin p (a6 _ (List.mem_append_left _ h))
def dv {iter:Expr}{U:TI}{g:TG}{Z:TS}(z:PassesOwn (model X.prog X.w) X.A X.env X.xe)(hc:X.calm=true)(hi:PI X tg iter U)(hg:PG X tg g)(l:yU X body Z)
  (hs:∀x,foldedSetIterable iter X.env x=pure x:=by intro _;rfl):PS X (.For tg iter body [] pos) (du U g Z):=by
 intro pins s σ H D I h;refine wpAny_For (qa (hi pins s σ H _ I h) λv s1 h1=>qa h1 λitv s2 h2=>?_) hs;obtain⟨it,fp,Y,J,H2,e,I2,T,g7,f2,W,⟨m0,w0⟩,turn⟩:=h2;subst e;have S:∀{H':Hp},(∀b∈fp,H' b=none)->∀b∈fp,wV X pins H' b:=λhn b l=>⟨hn b l,(f2 b l).2⟩;refine codeAny_forLoop_any (λn s'=>∃i j H',Inv X pins j H' s'/\Y i s'.heap/\(∀b∈fp,H' b=none)/\W i n j H') ?_ m0 ⟨0,σ,H2,I2,g7,λb l=>(f2 b l).1,w0⟩
 rintro n s3 ⟨i,c,C,I3,ZE,B,w3⟩
 rcases turn i n c C w3 with ⟨stop,qn⟩|⟨go,N,hN,step⟩
 ·refine wpAny_passesOwn z (qa (T.done X rfl rfl rfl hc i pins s3 c C X.xe I3 (S B) ZE stop) λr s4 ⟨L,I4⟩=>?_)
  subst L;exact wpAny_execs_nil ⟨c,C,I4,qn⟩
 ·refine wpAny_passesOwn z (qa (T.item X rfl rfl rfl hc i pins s3 c C X.xe I3 (S B) ZE go) λr s4 ⟨u,L,h4⟩=>?_)
  subst L;refine wpAny_passesOwn z (qa h4 λ_ s5 ⟨x,H5,I5,r5,y5,t,M⟩=>?_);have P:=I5.pinned (S M) (T.obj _ _ t);refine wpAny_passesOwn z (qa (hg _ s5 c H5 x u _ P r5 (step x H5 y5)) λ_ s6 ⟨E,H6,I6,q6⟩=>?_);refine wpAny_passesOwn z (qa (l _ s6 E H6 _ I6 q6) λf K Q=>?_);have again:∀{a:St}{q:Hp},Inv X (pins++K1 fp s5.heap) a q K->N a q->∃m,m<n/\∃i j H',Inv X pins j H' K/\Y i K.heap/\(∀b∈fp,H' b=none)/\W i m j H':=λ {a q} p y=>by
   obtain⟨m',hm,w7⟩:=hN a q y;refine⟨m',hm,i+1,a,q,p.unpinned,T.keep _ _ _ t λb l o e=>(p.pin (b,o) (a6 _ (a6 _ (Gh l e)))).1,λb l=>?_,w7⟩;obtain⟨o,e,d⟩:=T.obj _ _ t b l;exact(p.pin (b,o) (a6 _ (a6 _ (Gh l e)))).2.1
  cases f with
  |next=>obtain⟨a,q,p,y⟩:=Q;exact again p y|cont=>obtain⟨a,q,p,y⟩:=Q;exact again p y|brk=>obtain⟨a,q,p,Q⟩:=Q;exact⟨a,q,p.unpinned,Q⟩|ret v=>obtain⟨x7,a,q,p,r7,Q⟩:=Q;exact⟨x7,a,q,p.unpinned,r7,Q⟩
end
abbrev R2:=V->V->Hp->VK->Prop
def jc (X:Cx)(f:Value->Value->Sem Value)(r:R2):Prop:=
 ∀(pins:bT)(s:Shared)(σ:St)(H:Hp)(x y:V)(v u:Value)(Q:VK),Inv X pins σ H s->RelV x v->RelV y u->r x y H Q->
  wpAny (model X.prog X.w) X.A (f v u) (EP X pins σ Q) X.xe s
def XY (X:Cx)(f:Value->Sem Value)(r:V->Hp->VK->Prop):Prop:=
 ∀(pins:bT)(s:Shared)(σ:St)(H:Hp)(x:V)(v:Value)(Q:VK),Inv X pins σ H s->RelV x v->r x H Q->
  wpAny (model X.prog X.w) X.A (f v) (EP X pins σ Q) X.xe s
def yc (X:Cx)(f:Value)(r:List V->Hp->VK->Prop):Prop:=
 ∀(pins:bT)(s:Shared)(σ:St)(H:Hp)(xs:List V)(us:bR)(Q:VK),Inv X pins σ H s->Vals xs us->r xs H Q->
  wpAny (model X.prog X.w) X.A (call f us) (EP X pins σ Q) X.xe s
noncomputable def Wz (r:R2)(T t:TE):TE:=λσ H Q=>T σ H λx H1=>t σ H1 λy h=>r x y h Q
noncomputable def MK (r:V->Hp->VK->Prop)(t:TE):TE:=λσ H Q=>t σ H λx H1=>r x H1 Q
noncomputable def rI (C:Int->Int->Prop)(g:Int->Int->V):R2:=λx y H Q=>∃i j,x=.int i/\y=.int j/\C i j/\Q (g i j) H
noncomputable def ZC (g:Int->Int->V):R2:=λx y H Q=>∃i j,x=.int i/\y=.int j/\Q (g i j) H
noncomputable def rU (g:Int->V):V->Hp->VK->Prop:=λx H Q=>∃i,x=.int i/\Q (g i) H
section
variable {X:Cx}{a b:Expr}{ta tb:TE}
def Tt (j:PE X a ta)(i:PE X b tb){σ:St}{H:Hp}{R:V->V->Hp->Prop}(I:Inv X pins σ H s)
  (h:ta σ H λx H1=>tb σ H1 λy c=>R x y c){f:Value->Value->Sem Value}
  (hf:∀v u s2 x y c,Inv X pins σ c s2->RelV x v->RelV y u->R x y c->wpAny (model X.prog X.w) X.A (f v u) Q X.xe s2):
  wpAny (model X.prog X.w) X.A (eval a X.env) (λv d=>wpAny (model X.prog X.w) X.A (eval b X.env) (λu S=>wpAny (model X.prog X.w) X.A (f v u) Q X.xe S) X.xe d) X.xe s:=by
 refine qa (j pins s σ H _ I h) λv s1 ⟨x,H1,n,e,g⟩=>?_;refine qa (i pins s1 σ H1 _ n g) λu s2 ⟨y,c,l,r,q⟩=>?_;exact hf v u s2 x y c l e r q
def dw {op:Operator}{r:R2}(o:jc X (binaryOp op) r)(f:PE X a ta)(e:PE X b tb):PE X (.BinOp a op b pos) (Wz r ta tb):=by
 intro pins s σ H Q I h;exact wpAny_BinOp (Tt f e I h λv u s2 x y g i d c q=>o pins s2 σ g x y v u Q i d c q)
def dy {op:UnaryOp}{r:V->Hp->VK->Prop}(o:XY X (unaryOp op) r)(c:PE X a ta):PE X (.UnaryOp op a pos) (MK r ta):=by
 intro pins s σ H Q I h;exact UnaryOp_ (qa (c pins s σ H _ I h) λv s1 ⟨x,H1,i,b,q⟩=>o pins s1 σ H1 x v Q i b q)
def XU {f:Value->Value->Sem Value}{C:Int->Int->Prop}{g:Int->Int->Int}
  (rule:∀(i j:Int)(t u:Tok)(s:Shared)(Q:bX)(E:bX),C i j->Q (.int (g i j) s.toks) { s with toks:=s.toks+1 }->wpAny (model X.prog X.w) X.A (f (.int i t) (.int j u)) Q E s):
  jc X f (rI C λi j=>.int (g i j)):=by
 intro pins s σ H x y v u Q I a r h;obtain⟨i,j,rfl,rfl,c,q⟩:=h;obtain⟨t,rfl⟩:=a;obtain⟨t',rfl⟩:=r;exact rule i j t t' s _ _ c ⟨.int (g i j),H,I.tok _,⟨_,rfl⟩,q⟩
def Tp {f:Value->Value->Sem Value}{g:Int->Int->Int}
  (rule:∀(i j:Int)(t u:Tok)(s:Shared)(Q:bX)(E:bX),Q (.int (g i j) s.toks) { s with toks:=s.toks+1 }->wpAny (model X.prog X.w) X.A (f (.int i t) (.int j u)) Q E s):
  jc X f (ZC λi j=>.int (g i j)):=by
 intro pins s σ H x y v u Q I a r h;obtain⟨i,j,rfl,rfl,q⟩:=h;obtain⟨t,rfl⟩:=a;obtain⟨t',rfl⟩:=r;exact rule i j t t' s _ _ ⟨.int (g i j),H,I.tok _,⟨_,rfl⟩,q⟩
def XA {f:Value->Value->Sem Value}{g:Int->Int->Bool}
  (rule:∀(i j:Int)(t u:Tok)(s:Shared)(Q:bX)(E:bX),Q (.bool (g i j)) s->wpAny (model X.prog X.w) X.A (f (.int i t) (.int j u)) Q E s):
  jc X f (ZC λi j=>.bl (g i j)):=by
 intro pins s σ H x y v u Q I a r h;obtain⟨i,j,rfl,rfl,q⟩:=h;obtain⟨t,rfl⟩:=a;obtain⟨t',rfl⟩:=r;exact rule i j t t' s _ _ ⟨.bl (g i j),H,I,rfl,q⟩
def Mf (i j:Int):Prop:=0<=j/\j<=1000000/\i.natAbs<2 ^ 64
def Wq (i j:Int):Prop:=(-(2 ^ 64)<i/\i<2 ^ 64)∨(-(2 ^ 64)<j/\j<2 ^ 64)
def Wq.ok {i j:Int}(h:Wq i j):IntMulOk i j:=by
 rcases h with ⟨a,H⟩|⟨a,H⟩
 ·exact .of_left (intBits_le_64 a H)
 ·exact .of_right (intBits_le_64 a H)
def dz:jc X (binaryOp .Add) (ZC λi j=>.int (i+j)):=Tp λ_ _ _ _ _ _ _ q=>add_int q
def dA:jc X (binaryOp .Sub) (ZC λi j=>.int (i-j)):=Tp λ_ _ _ _ _ _ _ q=>sub_int q
def dB:jc X (binaryOp .Mult) (rI Wq λi j=>.int (i * j)):=XU λ_ _ _ _ _ _ _ h q=>mul_int q h.ok
def dC:jc X (binaryOp .Mod) (rI (λ_ j=>0<j) λi j=>.int (i%j)):=XU λi j _ _ _ _ _ h q=>by
 have H:(0:Int)<j:=h;exact mod_int' (by omega) (by rw[Int.fmod_eq_emod_of_nonneg i (by omega)];exact q)
def dD:jc X (binaryOp .Pow) (rI Mf λi j=>.int (i ^ j.toNat)):=XU λ_ _ _ _ _ _ _ h q=>pow_int_small h.1 h.2.1 h.2.2 q
def dE:jc X (binaryOp .BitXor) (ZC λi j=>.int (Builtin.bitXor i j)):=Tp λ_ _ _ _ _ _ _ q=>xor_int q
def dF {f:Value->Sem Value}{g:Int->Int}
  (rule:∀(i:Int)(t:Tok)(s:Shared)(Q:bX)(E:bX),Q (.int (g i) s.toks) { s with toks:=s.toks+1 }->wpAny (model X.prog X.w) X.A (f (.int i t)) Q E s):
  XY X f (rU λi=>.int (g i)):=by
 intro pins s σ H x v Q I r h;obtain⟨i,rfl,q⟩:=h;obtain⟨t,rfl⟩:=r;exact rule i t s _ _ ⟨.int (g i),H,I.tok _,⟨_,rfl⟩,q⟩
def dG:XY X (unaryOp .USub) (rU λi=>.int (-i)):=dF λ_ _ _ _ _ q=>neg_int q
variable {c:Expr}{tc:TE}
def Nx {σ:St}{H:Hp}{Q:VK}{k K:Bool}(I:Inv X pins σ H s)(q:Q (.bl k) H)(e:k=K):EP X pins σ Q (.bool K) s:=by
 subst e;exact⟨.bl k,H,I,rfl,q⟩
def dH:jc X (compareOp .Lt) (ZC λi j=>.bl (decide (i<j))):=XA λ_ _ _ _ _ _ _ q=>lt_int q
def dI:jc X (compareOp .LtE) (ZC λi j=>.bl (decide (i<=j))):=XA λ_ _ _ _ _ _ _ q=>le_int q
def dJ:jc X (compareOp .Gt) (ZC λi j=>.bl (decide (j<i))):=XA λ_ _ _ _ _ _ _ q=>gt_int q
def dM:jc X (compareOp .GtE) (ZC λi j=>.bl (decide (j<=i))):=XA λ_ _ _ _ _ _ _ q=>ge_int q
def dN:jc X (compareOp .Is) (λx y H Q=>y=.non/\Q (.bl (decide (x=.non))) H):=by
 intro pins s σ H x y v u Q I r a h;obtain⟨rfl,q⟩:=h;cases a;refine is_none_gen (Nx I q ?_);cases x<;>first
  |(cases r;rfl)
  |(obtain⟨t,rfl⟩:=r;rfl)
def A8:jc X (compareOp .IsNot) (λx y H Q=>y=.non/\Q (.bl (!decide (x=.non))) H):=by
 intro pins s σ H x y v u Q I r a h;obtain⟨rfl,q⟩:=h;cases a;refine isnot_none_gen (Nx I q ?_);cases x<;>first
  |(cases r;rfl)
  |(obtain⟨t,rfl⟩:=r;rfl)
def jc.or {f:Value->Value->Sem Value}{r c:R2}(h:jc X f r)(h':jc X f c):jc X f (λx y H Q=>r x y H Q∨c x y H Q):=by
 intro pins s σ H x y v u Q I b a q;rcases q with q|q
 ·exact h pins s σ H x y v u Q I b a q
 ·exact h' pins s σ H x y v u Q I b a q
def BV {r:R2}(o:jc X (compareOp op) r)(f:PE X a ta)(e:PE X b tb)(hm:behindInMarks op b=false):PE X (.Compare a [op] [b] pos) (Wz r ta tb):=by
 intro pins s σ H Q I h;exact wpAny_Compare1 (Tt f e I h λv u s2 x y g i d c q=>o pins s2 σ g x y v u Q i d c q) hm
noncomputable def NU (t:TE):TT:=λσ H Q=>t σ H λx h=>∃k,x=.bl k/\Q k h
def Ax {r:R2}(o:jc X (compareOp op) r)(n:PE X a ta)(l:PE X b tb)(hm:behindInMarks op b=false):PT X (.Compare a [op] [b] pos) (NU (Wz r ta tb)):=by
 intro pins s σ H Q I h;refine wpAny_isTrue_Compare1 (qa (n pins s σ H _ I h) λv s1 ⟨x,H1,w,g,j⟩=>qa (l pins s1 σ H1 _ w j) λu s2 ⟨y,B,t,f,i⟩=>
  qa (o pins s2 σ B x y v u _ t g f i) λc s3 ⟨z,A,p,d,k,e,q⟩=>?_) hm
 subst e;cases d;exact wpAny_truthy_bool ⟨A,p,q⟩
noncomputable def U1 (r b:R2)(a T t:TE):TE:=λσ H Q=>a σ H λx H1=>T σ H1 λy d=>r x y d λz h=>∃k,z=.bl k/\
 (if k=true then t σ h λw c=>b y w c Q else Q (.bl false) h)
def Cw {o:CmpOp}{r i:R2}(D:jc X (compareOp op) r)(f:jc X (compareOp o) i)(K:PE X a ta)(J:PE X b tb)(E:PE X c tc)
  (hm:lastMarks [op,o] [b,c]=false:=by with_unfolding_all rfl):PE X (.Compare a [op,o] [b,c] pos) (U1 r i ta tb tc):=by
 intro pins s σ H Q I h;refine Compare_chain (qa (K pins s σ H _ I h) λv s1 ⟨x,H1,N,t,C⟩=>chain_link (qa (J pins s1 σ H1 _ N C) λu s2 ⟨y,S,M,g,B⟩=>
  qa (D pins s2 σ S x y v u _ M t g B) λd s3 ⟨z,l,j,p,k,e,q⟩=>?_)) hm
 subst e;cases p;refine wpAny_truthy_bool ?_;cases k with
 |false=>exact ite_ff ⟨.bl false,l,j,rfl,q⟩|true=>exact ite_tt (chain_last (qa (E pins s3 σ l _ j q) λw s4 ⟨Z,P,L,n,A⟩=>f pins s4 σ P y Z u w Q L g n A))
def Cn {o:CmpOp}{r i:R2}(K:jc X (compareOp op) r)(f:jc X (compareOp o) i)(N:PE X a ta)(M:PE X b tb)(L:PE X c tc)
  (hm:lastMarks [op,o] [b,c]=false:=by with_unfolding_all rfl):PT X (.Compare a [op,o] [b,c] pos) (NU (U1 r i ta tb tc)):=by
 intro pins s σ H Q I h;refine isTrue_chain (qa (N pins s σ H _ I h) λv s1 ⟨x,H1,I1,A,E⟩=>test_link (qa (M pins s1 σ H1 _ I1 E) λu s2 ⟨y,H2,Y,g,D⟩=>
  qa (K pins s2 σ H2 x y v u _ Y A g D) λd s3 ⟨z,l,j,t,k,e,q⟩=>?_)) hm
 subst e;cases t;refine wpAny_truthy_bool ?_;cases k with
 |false=>
  obtain⟨k',S,J⟩:=q;cases S;exact ite_ff ⟨l,j,J⟩
 |true=>
  refine ite_tt (test_last (qa (L pins s3 σ l _ j q) λw s4 ⟨Z,H4,U,p,C⟩=>qa (f pins s4 σ H4 y Z u w _ U g p C) λd' s5 ⟨z2,H5,T,n,k2,P,B⟩=>?_));subst P;cases n;exact wpAny_truthy_bool ⟨H5,T,B⟩
def YJ:(sizeLine:Nat)<2 ^ 63:=by rw[sizeLine_eq];decide
def vals1 {x:V}(r:Vals [x] us):∃u,us=[u]/\RelV x u:=by
 cases r with
 |cons b a=>cases a;exact⟨_,rfl,b⟩
def vals2 {x y:V}(r:Vals [x,y] us):∃u w,us=[u,w]/\RelV x u/\RelV y w:=by
 cases r with
 |cons d c=>
  cases c with
  |cons b a=>cases a;exact⟨_,_,rfl,d,b⟩
def DD:yc X (.builtin "abs") (λxs H Q=>∃i,xs=[.int i]/\Q (.int (if i<0 then -i else i)) H):=by
 intro pins s σ H xs us Q I r h;obtain⟨i,rfl,q⟩:=h;obtain⟨u,rfl,t,rfl⟩:=vals1 r;exact call_abs_int λu tk=>⟨.int (if i<0 then -i else i),H,I.tok _,⟨_,rfl⟩,q⟩
def Dj (c:X.calm=true):yc X (.builtin "max") (λxs H Q=>∃i j,xs=[.int i,.int j]/\Q (.int (if j > i then j else i)) H):=by
 intro pins s σ H xs us Q I r h;obtain⟨i,j,rfl,q⟩:=h;obtain⟨u,w,rfl,⟨t,rfl⟩,⟨t',rfl⟩⟩:=vals2 r;refine max_two_ints (I.ok.hd c) λh' tk k=>⟨_,H,I.kept k,?_,q⟩
 by_cases a:j > i
 ·rw[ah a,ah a];exact⟨_,rfl⟩
 ·rw[ar a,ar a];exact⟨_,rfl⟩
def Et (c:X.calm=true):yc X (.builtin "min") (λxs H Q=>∃i j,xs=[.int i,.int j]/\Q (.int (if j<i then j else i)) H):=by
 intro pins s σ H xs us Q I r h;obtain⟨i,j,rfl,q⟩:=h;obtain⟨u,w,rfl,⟨t,rfl⟩,⟨t',rfl⟩⟩:=vals2 r;refine min_two_ints (I.ok.hd c) λh' tk k=>⟨_,H,I.kept k,?_,q⟩
 by_cases a:j<i
 ·rw[ah a,ah a];exact⟨_,rfl⟩
 ·rw[ar a,ar a];exact⟨_,rfl⟩
def Dt:yc X (.type "int") (λxs H Q=>(∃i,xs=[.int i]/\Q (.int i) H)∨∃k,xs=[.bl k]/\Q (.int (if k then 1 else 0)) H):=by
 intro pins s σ H xs us Q I r h;rcases h with ⟨i,rfl,q⟩|⟨k,rfl,q⟩
 ·obtain⟨u,rfl,t,rfl⟩:=vals1 r
  exact call_int_int ⟨.int i,H,I,⟨_,rfl⟩,q⟩
 ·obtain⟨u,rfl,a⟩:=vals1 r
  cases a;exact call_int_bool ⟨.int (if k then 1 else 0),H,I.tok _,⟨_,rfl⟩,q⟩
end
structure TC (h:Heap)(x dx C:Addr)(mA:b8):Prop where
 obj:h.get? x=some (instObj C dx)
 ns:h.Ns1 dx mA
 ne:dx≠x
def Eb {D:Addr}{M:b8}(n:h.Ns1 D M):∃d,h.get? D=some d/\∀name,lookIn name d=some (M name):=by
 obtain⟨o,E,p,c,hd,f,_,hm⟩:=n;refine⟨o,c,λname=>?_⟩;have e:=hm name;unfold nsFind findBy at e;rw[<- Array.find?_toList]at e;unfold lookIn;rw[hd];dsimp only
 split
 ·rename_i y q
  rw[q]at e;exact congrArg some e
 ·rename_i q
  rw[q]at e;have a:E.toList.any (·.refKey)=false:=by
   rw[List.any_eq_false];intro y b;obtain⟨z,t,H⟩:=f y (Array.mem_toList_iff.mp b);simp[DictEntry.refKey,H]
  have A:¬E.toList.any (·.refKey)=true:=by rw[a];exact aA
  rw[ar A];exact congrArg some e
def TC.look {x d C:Addr}{M:b8}(I:TC h x d C M):∃o,PySem.W.InstAt h x (instObj C d) C (some o)/\∀name,lookIn name o=some (M name):=
 let ⟨o,H,l⟩:=Eb I.ns
 ⟨o,⟨I.obj,rfl,rfl,H⟩,l⟩
def Qv.some_of {v:V}{o:Option Value}(r:Qv (some v) o):∃u,o=some u/\RelV v u:=by
 cases o with
 |none=>exact(show False from r).elim|some u=>exact⟨u,rfl,r⟩
section
variable {H:Hp}{C dx:Addr}{fs:List (Str×V)}
def AN (hok:jZ P w H h)(e:H a=some (.ins C dx fs)):∃M,TC h a dx C M/\(∀f,Qv (fs.lookup f) (M f))/\PySem.Within M (fs.map (·.1))/\fs.length<=1000/\H dx=some (.own a):=by
 obtain⟨d,z,ne,ob,M,n,r,q⟩:=(show jk P w H h a (.ins C dx fs) from hok a _ e)
 exact⟨M,⟨ob,n,ne⟩,r,q,z,d⟩
end
structure gq (K:Frag)(C:Addr):Prop where
 pg:plainGet K C Str.empty=true
 hd:PySem.W.hasDictIn K C=true
 po:PySem.W.plainOver K C=true
 sa:PySem.W.findIn K (.ref C) "__setattr__"=some (some (.builtin "object.__setattr__"))
def gq.get {K:Frag}{C:Addr}(c:gq K C)(f:Str):plainGet K C f=true:=c.pg
section
variable {X:Cx}{σ:St}{H:Hp}{A:Around}{c:Value}{b:Bool}
inductive gH (K:Frag)(H:Hp):V->Value->Prop where
 |non:gH K H .non (.type "NoneType")
 |bl (x:Bool):gH K H (.bl x) (.type "bool")
 |int (i:Int):gH K H (.int i) (.type "int")
 |str (x:Str):gH K H (.str x) (.type "str")
 |flt (x:UInt64):gH K H (.flt x) (.type "float")
 |lst {a:Addr} {xs:List V} (e:H a=some (.lst xs)):gH K H (.ref a) (.type "list")
 |frz {a:Addr} {o:Obj} {xs:List V} (e:H a=some (.frz o (.lst xs))):gH K H (.ref a) (.type "list")
 |tup {a:Addr} {xs:List V} (e:H a=some (.tup xs)):gH K H (.ref a) (.type "tuple")
 |dK {a:Addr} {kvs:List (Key×V)} (e:H a=some (.dK kvs)):gH K H (.ref a) (.type "dict")
 |dT {a:Addr} {kvs:List (List Key×V)} (e:H a=some (.dT kvs)):gH K H (.ref a) (.type "dict")
 |ins {a C dx:Addr} {fs:List (Str×V)} (e:H a=some (.ins C dx fs)) (cl:gq K C) (ha:PySem.W.findIn K (.ref C) "__class__"=some (some (.builtin "object.__class__")))
   (hn:PySem.W.specialIn K (.builtin "object.__class__") "__get__"=some (some (.builtin "getset_descriptor.__get__"))) (htk:PySem.W.takesIn K (.builtin "object.__class__")=some true)
   (hm:PySem.W.mroIn K C (.type "object")=some true):gH K H (.ref a) (.ref C)
def PM {x:V}{t:Value}(I:Inv X pins σ H s)(r:RelV x u)(ty:gH X.K H x t)(e:kitOne X.K t c=some b)(h:∀tk,Q (.bool b) { s with toks:=tk }):
  wpAny (model X.prog X.w) A (call (.builtin "isinstance") [u,c]) Q E s:=by
 cases ty with
 |non=>cases (show u=Value.none from r);exact bF kitx_none I.kIn True.intro e (λz=>nomatch z) h
 |bl y=>cases (show u=Value.bool y from r);exact bF kitx_bool I.kIn True.intro e (λz=>nomatch z) h
 |int i=>obtain⟨t,q⟩:=(show ∃t,u=Value.int i t from r);cases q;exact bF kitx_int I.kIn True.intro e (λz=>nomatch z) h
 |str y=>obtain⟨t,q⟩:=(show ∃t,u=Value.str y t from r);cases q;exact bF kitx_str I.kIn True.intro e (λz=>nomatch z) h
 |flt y=>obtain⟨t,q⟩:=(show ∃t,u=Value.float y t from r);cases q;exact bF kitx_float I.kIn True.intro e (λz=>nomatch z) h
 |@lst a xs ea=>
  cases (show u=Value.ref a from r)
  obtain⟨_,_,n,_,d⟩:=(show jk X.prog X.w H s.heap a (.lst xs) from I.hok a _ ea)
  exact bF kitx_list I.kIn ⟨_,d,rfl⟩ e (λz=>nomatch z) h
 |@frz a ob xs ea=>
  cases (show u=Value.ref a from r)
  obtain⟨_,_,_,n,_,d⟩:=(show jk X.prog X.w H s.heap a (.frz ob (.lst xs)) from I.hok a _ ea)
  exact bF kitx_list I.kIn ⟨_,d,rfl⟩ e (λz=>nomatch z) h
 |@tup a xs ea=>
  cases (show u=Value.ref a from r)
  obtain⟨_,_,_,p⟩:=(show jk X.prog X.w H s.heap a (.tup xs) from I.hok a _ ea)
  obtain⟨o,d,f,_⟩:=p;exact bF kitx_tuple I.kIn ⟨o,d,f.1⟩ e (λz=>nomatch z) h
 |@dK a kvs ea=>
  cases (show u=Value.ref a from r)
  obtain⟨_,_,vs,_,p⟩:=(show jk X.prog X.w H s.heap a (.dK kvs) from I.hok a _ ea)
  obtain⟨o,l,v,d,f,_⟩:=p;exact bF kitx_dict I.kIn ⟨o,d,f.1⟩ e (λz=>nomatch z) h
 |@dT a kvs ea=>
  cases (show u=Value.ref a from r)
  obtain⟨_,_,xs,_,o,l,v,d,f,_⟩:=(show jk X.prog X.w H s.heap a (.dT kvs) from I.hok a _ ea)
  exact bF kitx_dict I.kIn ⟨o,d,f.1⟩ e (λz=>nomatch z) h
 |@ins a C dx fs ea cl j hn g hm=>
  cases (show u=Value.ref a from r)
  obtain⟨M,O,_⟩:=AN I.hok ea;obtain⟨B,J,_⟩:=O.look;exact bF (PySem.W.kitx_own (cl.get _) cl.hd j hn g hm) I.kIn J e (λz=>nomatch z) h
end
structure jQ (k:Nat)(A:Around):Prop where
 hd:A.handled=none
 dp:A.depth+3 * k+5<recursionLimit
 un:A.units+16 * k+200<cLine
def jQ.mono {k:Nat}{A:Around}(r:jQ k A)(h:j<=k):jQ j A:=⟨r.hd,by have:=r.dp;omega,by have:=r.un;omega⟩
theorem jQ.deeper {k:Nat}{A:Around}(r:jQ (k+1) A)(env:Env):jQ k (A.deeper env):=
 ⟨r.hd,by have:=r.dp;show A.depth+1+3 * k+5<_;omega,by have:=r.un;show A.units+3+16 * k+200<_;omega⟩
theorem jQ.depth {k:Nat}{A:Around}(r:jQ k A):A.depth<recursionLimit:=by have:=r.dp;omega
theorem jQ.units {k:Nat}{A:Around}(r:jQ k A):A.units+64<cLine:=by have:=r.un;omega
noncomputable def Tz:TA:=λ_ H Q=>Q [] H
noncomputable def Xn (T:TE)(t:TA):TA:=λσ H Q=>T σ H λx H1=>t σ H1 λxs h=>Q (x::xs) h
section
variable {X:Cx}{es:bY}{te:TE}{t:TA}
def j5:PA X [] Tz:=λ_ _ _ _ H Q I h=>Calls.spliced_nil ⟨[],H,I,.nil,h⟩
def jo (f:PE X e te)(d:PA X es t)(c:starEach (e::es) X.env=(false,eval e X.env)::starEach es X.env:=by rfl):PA X (e::es) (Xn te t):=by
 intro pos pins s σ H Q I h;rw[c];show wpAny _ _ (spliced ((false,eval e X.env)::backTo pos (starEach es X.env))) _ _ s;refine Calls.spliced_cons (qa (f pins s σ H _ I h) λu s1 ⟨x,H1,g,a,b⟩=>?_);exact qa (d pos pins s1 σ H1 _ g b) λus s2 ⟨xs,j,i,r,q⟩=>⟨x::xs,j,i,.cons a r,q⟩
def dO (t:TA):TE:=λσ H Q=>t σ H λxs H1=>xs.length<=sizeLine/\∀p,H1 p=none->Q (.ref p) (upd H1 p (.tup xs))
def dP (t:TA):TE:=λσ H Q=>t σ H λxs H1=>xs.length<=sizeLine/\∀p,H1 p=none->Q (.ref p) (upd H1 p (.lst xs))
def ND {x1}(h:PA X es t):PE X (.Tuple es x1 pos) (dO t):=by
 intro pins s σ H Q I a;refine wpAny_Tuple_spliced (qa (h pos pins s σ H _ I a) λus s1 ⟨xs,H1,i,r,z,q⟩=>⟨by rw[<- r.length];exact z,?_⟩)
 have hf:H1 s1.heap.objs.size=none:=i.hok.fresh (av _);refine⟨.ref s1.heap.objs.size,upd H1 s1.heap.objs.size (.tup xs),i.laid (t':=s1.toks) (λb u e=>af _ e) (av _) ?_,rfl,q _ hf⟩;exact⟨z,us,r,⟨_,au _ rfl,⟨rfl,rfl⟩,_,rfl⟩⟩
def dQ (h:PA X es t):PE X (.List es pos) (dP t):=by
 intro pins s σ H Q I a;refine wpAny_List_spliced (qa (h pos pins s σ H _ I a) λus s1 ⟨xs,H1,i,r,z,q⟩=>⟨by rw[<- r.length];exact z,?_⟩)
 have hf:H1 s1.heap.objs.size=none:=i.hok.fresh (av _);refine⟨.ref s1.heap.objs.size,upd H1 s1.heap.objs.size (.lst xs),i.laid (t':=s1.toks) (λb u e=>af _ e) (av _) ?_,rfl,q _ hf⟩;exact⟨z,us,0,r,au _ rfl⟩
end
abbrev Sp:=List V->Hp->VK->XK->Prop
abbrev Zc:=List Env->Hp->Shared->XK->Value->Shared->Prop
structure YY (P:Program)(w:World)(K:Frag)(mg:b8)(base:Heap)(A:Around)(outer:b9)(s:Shared)(H:Hp):Prop where
 frames:A.frames=some outer
 mod:Mod K mg base
 bs:∀b o,base.get? b=some o->s.heap.get? b=some o/\H b=none
 bsz:base.objs.size<=s.heap.objs.size
 funs:s.heap.FunFrames base outer
 frf:∀b∈qV outer,H b=none
 hok:jZ P w H s.heap
 bare:AllBare s.gens
inductive CE (outer:b9)(P:Program)(w:World)(H:Hp)(s:Shared)(Q:VK)(u:Value)(s':Shared):Prop
 |mk (v:V) (H':Hp) (os:s'.os=s.os) (b:AllBare s'.gens) (un:Un (qV outer) [] H H' s.heap s'.heap) (hk:jZ P w H' s'.heap) (r:RelV v u) (q:Q v H')
def CR (C:Zc)(outer:b9)(P:Program)(w:World)(H:Hp)(s:Shared)(Q:VK)(E:XK)(r:Result)(s':Shared):Prop:=
 match r with
 |.ok (.ret u)=>CE outer P w H s Q u s'|.ok _=>False|.error e=>C outer H s E e s'
structure kh (P:Program)(w:World)(K:Frag)(mg:b8)(base:Heap)(CX:Zc)(k:Nat)(f:Addr)(fd:FuncData)(ps:bV)(sp:Sp):Prop where
 len:∀vs H Q E,sp vs H Q E->vs.length=ps.length
 run:∀(A:Around)(outer:b9)(s:Shared)(H:Hp)(args:Args)(us:bR)(vs:List V)(Q:VK)(E:XK),jQ k A->YY P w K mg base A outer s H->BindsTo s fd args (ps.zip us)->Vals vs us->sp vs H Q E->
  codeAny (model P w) A (.call (.ref f) args) (CR CX outer P w H s Q E) s
theorem kh.mono {K:Frag}{C:Zc}{k:Nat}{sp:Sp}(F:kh P w K mg base C j f fd ps sp)(h:j<=k):
  kh P w K mg base C k f fd ps sp:=⟨F.len,λA outer s H args us vs Q E r=>F.run A outer s H args us vs Q E (r.mono h)⟩
def kh.imp {K:Frag}{C:Zc}{k:Nat}{sp S:Sp}(F:kh P w K mg base C k f fd ps sp)
  (h:∀vs H Q E,S vs H Q E->sp vs H Q E):kh P w K mg base C k f fd ps S:=
 ⟨λvs H Q E q=>F.len vs H Q E (h _ _ _ _ q),λA outer s H args us vs Q E r he b v a=>F.run A outer s H args us vs Q E r he b v (h _ _ _ _ a)⟩
section
variable {X:Cx}{σ:St}{H:Hp}
def Inv.env0 (I:Inv X pins σ H s):YY X.prog X.w X.K X.mg X.base X.A X.stack s H:=
 ⟨I.ok.frames,I.ok.mod,I.bs,bq I.ok.bsz I.sz,I.stack,I.stkFree,I.hok,I.bare⟩
def Inv.after {Q:VK}(I:Inv X pins σ H s)(h:CE X.stack X.prog X.w H s Q u s'):EP X pins σ Q u s':=by
 obtain⟨v,c,os,bare,un,hok,r,q⟩:=h;obtain⟨a,g,d,t,o⟩:=s';obtain rfl:o=s.os:=os;exact⟨v,c,I.call (h':=a) (g':=g) (d':=d) (t':=t) (ch:=[]) un hok bare (λb z=>absurd z (by simp)),r,q⟩
end
noncomputable def dR (sp:Sp)(d:List V)(E:XK)(t:TA):TE:=λσ H Q=>t σ H λvs H1=>sp (vs++d) H1 Q E
def Binds (K:Frag)(fd:FuncData)(ps:bV)(ds:bR):Prop:=
 ∀(s:Shared)(us:bR),K.In s.heap->(us++ds).length=ps.length->BindsTo s fd ⟨us,[]⟩ (ps.zip (us++ds))
def Binds.all {K:Frag}(h:∀us:bR,us.length=ps.length->bindArgs fd ⟨us,[]⟩=pure (ps.zip us)):Binds K fd ps []:=λs us _ H=>by
 rw[bH]at H ⊢;exact .of_eq (h us H)
def Passes (C:Zc)(X:Cx)(E:XK):Prop:=∀(pins:bT)(σ:St)(H:Hp)(s:Shared)(e:Value)(s':Shared),Inv X pins σ H s->C X.stack H s E e s'->X.xe e s'
section
variable {X:Cx}{CX:Zc}{k:Nat}{sp:Sp}{dvs:List V}{ds:bR}{E:XK}{es:bY}{t:TA}
def dS {σ:St}{H:Hp}{Q:VK}{vs:List V}(F:kh X.prog X.w X.K X.mg X.base CX k f fd ps sp)(b:jQ k X.A)(c:Binds X.K fd ps ds)(hd:Vals dvs ds)(x:Passes CX X E)
  (I:Inv X pins σ H s)(r:Vals vs us)(h:sp (vs++dvs) H Q E):wpAny (model X.prog X.w) X.A (call (.ref f) us) (EP X pins σ Q) X.xe s:=by
 have a:Vals (vs++dvs) (us++ds):=r.append hd;have l:(us++ds).length=ps.length:=by rw[<- a.length];exact F.len _ _ _ _ h
 refine wpAny_call (codeAny_mono (F.run X.A X.stack s H ⟨us,[]⟩ (us++ds) (vs++dvs) Q E b I.env0 (c s us I.kIn l) a h) λr s' q=>?_);cases r with
 |error e=>exact x pins σ H s e s' I q|ok d=>
  cases d with
  |ret u=>exact I.after q|next=>exact False.elim q|brk=>exact False.elim q|cont=>exact False.elim q
def OT (F:kh X.prog X.w X.K X.mg X.base CX k f fd ps sp)(c:jQ k X.A)(g:Gl X x)(hm:X.mg x=some (.ref f))(d:keepIn X.K (.ref f)=true)(j:Binds X.K fd ps ds)(hd:Vals dvs ds)(a:Passes CX X E)
  (n:PA X (e::es) t)(b:(x==("__debug__":Str))=false:=by decide)(he:starEach (e::es) X.env=(false,eval e X.env)::starEach es X.env:=by rfl)(l:(backTo pos (starEach es X.env)).any (·.1)=false:=by rfl):
  PE X (.Call (.Name x p) (e::es) [] pos) (dR sp dvs E t):=by
 intro pins s σ H Q I h;refine wpAny_Call_Name_kw (KN I g hm ?_ b);refine callWith_K (h₀:=X.base) I.ok.mod.kin d (qa (n pos pins s σ H _ I h) λus s1 ⟨vs,H1,i,r,q⟩=>⟨i.kIn,?_⟩) he l;exact dS F c j hd a i r q
end
structure qX (N P:bV)(sc:Scope):Prop where
 kind:sc.kind=.function
 co:sc.isCoroutine=false
 gen:sc.isGenerator=false
 nd:N.Nodup
 pre:N.take P.length=P
 par:∀x∈P,sc.names.lookup x=some .local∨sc.names.lookup x=some .cell
 nofree:∀y∈sc.names,y.2≠.free
theorem PZ {kindOf:Str->Option NameKind}:∀{binds:List (Str×Value)}{m:b8},(∀v,(x,v)∉binds)->bindL kindOf binds m x=m x
 |[],_,_=>rfl|(n,v)::r,m,h=>by
  unfold bindL;rw[PZ λw hw=>h w (ao _ hw)]
  split
  ·have:x≠n:=by rintro rfl;exact h v ax
   simp[this]
  ·rfl
theorem P1 {kindOf:Str->Option NameKind}:∀{binds:List (Str×Value)}{m:b8},(∀v,(x,v)∉binds)->bindC kindOf binds m x=m x
 |[],_,_=>rfl|(n,v)::r,m,h=>by
  unfold bindC;rw[P1 λw hw=>h w (ao _ hw)]
  split
  ·rfl
  ·have:x≠n:=by rintro rfl;exact h v ax
   simp[this]
theorem PY {kindOf:Str->Option NameKind}{v:Value}:∀{P:bV}{vs:bR}{i:Nat}{m:b8},P.Nodup->P[i]? =some x->vs[i]? =some v->kindOf x=some .local->
  bindL kindOf (P.zip vs) m x=some v
 |[],_,_,_,_,h,_,_=>by simp at h|_::_,[],_,_,_,_,h,_=>by simp at h|p::P,w::vs,0,m,nd,h1,H,a=>by
  simp at h1 H;subst h1;subst H;show bindL kindOf ((p,w)::P.zip vs) m p=_;unfold bindL;rw[PZ λv b=>(List.nodup_cons.mp nd).1 (of_mem_zip b).1,ah a];simp
 |p::P,w::vs,i+1,m,nd,h1,H,a=>by
  show bindL kindOf ((p,w)::P.zip vs) m x=_;unfold bindL;exact PY (i:=i) (List.nodup_cons.mp nd).2 (by simpa using h1) (by simpa using H) a
theorem P2 {kindOf:Str->Option NameKind}{v:Value}:∀{P:bV}{vs:bR}{i:Nat}{m:b8},P.Nodup->P[i]? =some x->vs[i]? =some v->kindOf x≠some .local->
  bindC kindOf (P.zip vs) m x=some v
 |[],_,_,_,_,h,_,_=>by simp at h|_::_,[],_,_,_,_,h,_=>by simp at h|p::P,w::vs,0,m,nd,h1,H,a=>by
  simp at h1 H;subst h1;subst H;show bindC kindOf ((p,w)::P.zip vs) m p=_;unfold bindC;rw[P1 λv b=>(List.nodup_cons.mp nd).1 (of_mem_zip b).1,ar a];simp
 |p::P,w::vs,i+1,m,nd,h1,H,a=>by
  show bindC kindOf ((p,w)::P.zip vs) m x=_;unfold bindC;exact P2 (i:=i) (List.nodup_cons.mp nd).2 (by simpa using h1) (by simpa using H) a
noncomputable def start (N:bV)(vs:List V):St:=vs.map some++List.replicate (N.length-vs.length) none
noncomputable def gE (C:Zc)(P:Program)(w:World)(K:Frag)(mg:b8)(base:Heap)(N:bV)(qual:Str)(scope:Scope)(f:Addr)(cd:Value)(A:Around)(outer:b9)(s:Shared)(H:Hp)(E:XK):Cx where
 prog:=P
 w:=w
 K:=K
 mg:=mg
 base:=base
 A:=A.deeper (envOfC qual scope s.heap.objs.size f cd)
 N:=N
 s0:=s
 H0:=H
 env:=envOfC qual scope s.heap.objs.size f cd
 outer:=outer
 stack:=envOfC qual scope s.heap.objs.size f cd::outer
 ex:=[]
 calm:=true
 fn:=λ_=>true
 pn:=[]
 xe:=λe s'=>wpAny (model P w) (A.deeper (envOfC qual scope s.heap.objs.size f cd)) (leaving (envOfC qual scope s.heap.objs.size f cd) e) (λ_ S=>C outer H s E e S) (λa S=>C outer H s E a S) s'
def Oj (h:sc.names.lookup x=some .cell):∃c,(cellsFrom n sc.names []).lookup x=some c:=by
 have q:=cellsFrom_some sc.names n [] (.inl h);exact Option.isSome_iff_exists.mp q
def Df {X:Zc}{K:Frag}{cd:Value}{A:Around}{outer:b9}{s1:Shared}{H:Hp}{E:XK}{vs:List V}
  (S:qX N ps scope)(hd:A.handled=none)(g:YY P w K mg base A outer s H)(M:vs.length=ps.length)(r:Vals vs us)
  (x:InCallC s s.heap.objs.size (bindL (envOfC qual scope s.heap.objs.size f cd).kindOf (ps.zip us) λ_=>none) (cellsFrom (s.heap.objs.size+1) scope.names []) (bindC (envOfC qual scope s.heap.objs.size f cd).kindOf (ps.zip us) λ_=>none) s1):
  Inv (gE X P w K mg base N qual scope f cd A outer s H E) [] (start N vs) H s1:=by
 have J:ps.length<=N.length:=by have:=congrArg List.length S.pre;rw[ba]at this;omega
 obtain⟨B,tk,rfl,D⟩:=x.done;have j:∀b:Addr,b∉(gE X P w K mg base N qual scope f cd A outer s H E).ex:=λb z=>absurd (show b∈([]:bS) from z) (by simp)
 refine⟨⟨g.mod,S.kind,rfl,rfl,av _,λy z c B d=>?_,λy l=>?_,λy c _ h=>?_,λ_=>hd,Around.frames_deeper g.frames,.inr ⟨rfl,rfl⟩,λb z=>absurd z (j b),g.bs,g.bsz,λb _ _=>j b,λb z=>absurd z (j b),g.funs,g.frf⟩,
  rfl,g.bare,Un.kept D,⟨_,x.toInCall.ns,λi y v B d Q=>?_⟩,λy c h=>⟨_,x.cell y c h⟩,g.hok.fresh (av _),λy c h=>?_,λp t=>absurd (show p∈([]:bT) from t) (by simp),g.hok.kept D,?_⟩
 ·exact name_of_addr x.apart (PySem.mem_of_lookup B) (PySem.mem_of_lookup d)
 ·have l:scope.names.lookup y=some .cell∨scope.names.lookup y=some .free:=l
  rcases l with l|l
  ·exact Oj l
  ·exact absurd rfl (S.nofree _ (PySem.mem_of_lookup l))
 ·exact bD (x.above y c (PySem.mem_of_lookup h))
 ·have hi:i<vs.length:=by
   unfold start at d
   by_cases hi:i<vs.length
   ·exact hi
   ·rw[ay (by simpa using hi)]at d
    rw[bA]at d
    split at d<;>cases d
  have L:vs[i]? =some v:=by
   unfold start at d;rw[ai (by simpa using hi),aw]at d
   cases e:vs[i]? with
   |none=>rw[e]at d;cases d|some a=>rw[e]at d;cases d;rfl
  obtain⟨u,C,I⟩:=r.get L;have t:ps[i]? =some y:=by
   rw[<- S.pre,List.getElem?_take_of_lt (by omega)];exact B
  have o:ps.Nodup:=by rw[<- S.pre];exact S.nd.sublist (List.take_sublist _ _)
  refine⟨u,I,?_⟩;rcases S.par y (mem_of_getElem? t) with k|k
  ·exact .inl ⟨k,PY o t C k⟩
  ·obtain⟨c,e⟩:=Oj (n:=s.heap.objs.size+1) k
   refine .inr ⟨.inl k,c,e,?_⟩;have q:=x.cell y c e;rw[P2 o t C (by show scope.names.lookup y≠_;rw[k];decide)]at q
   exact q
 ·exact g.hok.fresh (bD (x.above y c (PySem.mem_of_lookup h)))
 ·unfold start
  show _=N.length;rw[aq,ag,bG];omega
def U4 {C:Zc}{K:Frag}{k:Nat}{name:Str}{params:Arguments}{D kV doc pm c ct M:Value}{an L:cf}
  {sp:Sp}(lk:K.lookup f=some ⟨M,L,.func (fnOf name qual params body scope D kV doc pm an c ct),osl⟩)(B:codeIn K c qual=true)(S:qX N ps scope)
  (len:∀vs H Q E,sp vs H Q E->vs.length=ps.length)
  (g:∀(A:Around)(outer:b9)(s:Shared)(H:Hp)(vs:List V)(Q:VK)(E:XK),jQ k (A.deeper (envOfC qual scope s.heap.objs.size f c))->sp vs H Q E->
   ∃t,yU (gE C P w K mg base N qual scope f c A outer s H E) body t/\t { nx:=λ_ h=>Q .non h,rt:=Q } (start N vs) H):
  kh P w K mg base C (k+1) f (fnOf name qual params body scope D kV doc pm an c ct) ps sp:=by
 refine⟨len,λA outer s H args us vs Q E z j hb r p=>?_⟩;have Z:=len _ _ _ _ p;have X:K.In s.heap:=j.mod.kin.keeps λb o e=>(j.bs b o e).1;have lim:s.heap.NoLimit:=j.mod.nolimit.keeps λb o e=>(j.bs b o e).1;have d:∀y∈ps.zip us,scope.names.lookup y.1=some .local∨(scope.names.lookup y.1=some .cell/\((cellsFrom (s.heap.objs.size+1) scope.names []).lookup y.1).isSome=true):=λ⟨n,v⟩ T=>by
  rcases S.par n (of_mem_zip T).1 with q|q
  ·exact .inl q
  ·exact .inr ⟨q,cellsFrom_some _ _ _ (.inl q)⟩
 refine codeAny_call_function z.depth (X _ _ lk) rfl S.co S.gen rfl (PySem.W.codeRec_of X B) (hb _ _ _ _ ?_);refine wpAny_newFunctionEnv_cells S.kind d λenv he s1 x=>?_;subst he;refine⟨lim.keeps x.toInCall.keep,codeAny_func ?_⟩;obtain⟨t,U,Y⟩:=g A outer s H vs Q E (z.deeper _) p;have I:Inv (gE C P w K mg base N qual scope f c A outer s H E) [] (start N vs) H s1:=Df S z.hd j Z r x;refine wpAny_mono (U [] s1 (start N vs) H _ I Y) (λfl s' i=>?_) λe s' i=>i;have fin:∀{a:St}{h:Hp}{v:V}{u:Value},Inv (gE C P w K mg base N qual scope f c A outer s H E) [] a h s'->RelV v u->Q v h->CE outer P w H s Q u s':=
  λ {a h v u} J l q=>⟨v,h,J.os,J.bare,J.base,J.hok,l,q⟩
 cases fl with
 |ret u=>
  obtain⟨v,a,h,J,l,q⟩:=i;exact fin J l q
 |next=>
  obtain⟨a,h,J,q⟩:=i;exact fin (v:=V.non) (u:=Value.none) J rfl q
 |brk=>
  obtain⟨_,_,_,q⟩:=i;exact False.elim q
 |cont=>
  obtain⟨_,_,_,q⟩:=i;exact False.elim q
section
variable {X:Cx}{es:bY}{t:TA}{id T:String}{r:List V->Hp->VK->Prop}
noncomputable def WC (r:List V->Hp->VK->Prop)(t:TA):TE:=λσ H Q=>t σ H λvs H1=>r vs H1 Q
def Qa (c:yc X (.builtin id) r)(g:Gl X x)(hm:X.mg x=none)(v:bootBuiltins x=some (.builtin id))(d:PA X (e::es) t)(hn:x ≠ "__name__":=by decide)(b:(x==("__debug__":Str))=false:=by decide)
  (he:starEach (e::es) X.env=(false,eval e X.env)::starEach es X.env:=by rfl)(l:(backTo pos (starEach es X.env)).any (·.1)=false:=by rfl):PE X (.Call (.Name x p) (e::es) [] pos) (WC r t):=by
 intro pins s σ H Q I h;refine wpAny_Call_Name_kw (ZP I g hm v ?_ hn b);exact PyProof.Rows.callWith_builtin1 (qa (d pos pins s σ H _ I h) λus s1 ⟨vs,H1,i,a,q⟩=>c pins s1 σ H1 vs us Q i a q) he l
def Jx (c:yc X (.type T) r)(g:Gl X x)(hm:X.mg x=none)(v:bootBuiltins x=some (.type T))(d:PA X (e::es) t)(hn:x ≠ "__name__":=by decide)(b:(x==("__debug__":Str))=false:=by decide)
  (he:starEach (e::es) X.env=(false,eval e X.env)::starEach es X.env:=by rfl)(l:(backTo pos (starEach es X.env)).any (·.1)=false:=by rfl):PE X (.Call (.Name x p) (e::es) [] pos) (WC r t):=by
 intro pins s σ H Q I h;refine wpAny_Call_Name_kw (ZP I g hm v ?_ hn b);exact PyProof.Rows.callWith_type1 (qa (d pos pins s σ H _ I h) λus s1 ⟨vs,H1,i,a,q⟩=>c pins s1 σ H1 vs us Q i a q) he l
end
end L2
variable {X:L2.Cx}{H:L2.Hp}{kvs:List (L2.Key×L2.V)}{xs ys:List L2.V}{r:List L2.V->L2.Hp->L2.VK->Prop}{σ:L2.St}{v:L2.V}
namespace HT
open PySem PyProof.Rows
section
open PySem.SeqAt
open PySem.AutoSeq1 (wpAny_loadPart')
open PySem.MeetsSeq PySem.MeetsSeq2 PySem.MeetsSeq3
end
section
variable {prog:Program}{A:Around}
def zab {t:Addr}{vs ws:bR}(a:IsTup s.heap t vs.toArray)(f:IsTup s.heap b ws.toArray)(v:vs≠[])
  (i:ws=[]->Q (.ref t) s)(g:ws≠[]->Q (.ref s.heap.objs.size) { s with heap:=s.heap.push { cls:=.type "tuple",data:=.seq (vs++ws).toArray } })
  (z:vs.length+ws.length<=sizeLine):wpAny (model prog w) A (binaryOp .Add (.ref t) (.ref b)) Q E s:=by
 obtain⟨⟨cls,dd,data,l⟩,o,c,n,hd⟩:=id a;obtain⟨⟨C,d,data2,S⟩,h,H,N,hd2⟩:=id f;simp only at c hd H hd2;subst c hd H hd2;have e:vs.toArray++ws.toArray=(vs++ws).toArray:=by simp
 by_cases hw:ws=[]
 ·exact concat_meets ⟨_,o,rfl⟩ ⟨_,h,rfl⟩ noFill_tuple_add seq_tuple_add slot_tuple_add entry_tuple_add (args_tuple_add_2 _ _)
   (tuple_addW1 t b vs.toArray ws.toArray n N dd d l S (by simpa using v) (by simp[hw])) ⟨o,h,i hw⟩
 ·refine concat_meets ⟨_,o,rfl⟩ ⟨_,h,rfl⟩ noFill_tuple_add seq_tuple_add slot_tuple_add entry_tuple_add (args_tuple_add_2 _ _)
   (tuple_addW2 t b vs.toArray ws.toArray n N dd d l S (by simpa using v) (by simpa using hw) (by rw[aC,aC];exact z)) ⟨o,h,?_⟩
  rw[e];exact g hw
noncomputable def qN (n d:Nat):Option Int->Nat
 |none=>d|some v=>if v<0 then(v+(n:Int)).toNat else min v.toNat n
def dU (n d:Nat)(hd:d<=n)(o:bZ):qN n d o<=n:=by
 cases o with
 |none=>exact hd|some v=>
  show(if v<0 then(v+(n:Int)).toNat else min v.toNat n)<=n
  by_cases h:v<0
  ·rw[ah h];omega
  ·rw[ar h];exact Nat.min_le_right _ _
def Nd (v:Int)(n d:Nat):(if v<0 then max (v+(n:Int)) 0 else min v (n:Int))=((qN n d (some v):Nat):Int):=by
 show(if v<0 then max (v+(n:Int)) 0 else min v (n:Int))=(((if v<0 then(v+(n:Int)).toNat else min v.toNat n):Nat):Int)
 by_cases h:v<0
 ·simp only[ah h];omega
 ·simp only[ar h];omega
def Fx (lo hi:bZ)(n:Nat):Builtin.Slice.sliceAdjust lo hi 1 (n:Int)=(((qN n 0 lo:Nat):Int),((qN n n hi:Nat):Int)):=by
 have h:¬((1:Int)<0):=by omega
 unfold Builtin.Slice.sliceAdjust;simp only[h,if_false];refine Prod.ext ?_ ?_
 ·cases lo with
  |none=>rfl|some v=>exact Nd v n 0
 ·cases hi with
  |none=>rfl|some v=>exact Nd v n n
def F7 (i j:Nat):Builtin.Slice.slicePlaces (i:Int) (j:Int) 1=j-i:=by
 unfold Builtin.Slice.slicePlaces;have h:(1:Int) > 0:=by omega
 simp only[h,if_true,Int.ediv_one]
 split<;>omega
def Ks {v:Value}{o:bZ}{Q:Option Int->Shared->Prop}(p:IsPart v o)(h:Q o s):wpAny (model prog w) A (Builtin.Slice.slicePartIndex v) Q E s:=by
 cases p with
 |none=>exact slicePart_none h|int i t=>exact slicePart_int h
def So {S:Addr}{l v:Value}{lo hi:bZ}{Q:Int×Int×Nat->Shared->Prop}(b:s.heap.IsSliceOf S l v .none)(p:IsPart l lo)(pu:IsPart v hi)
  (h:Q (((qN n 0 lo:Nat):Int),1,qN n n hi-qN n 0 lo) s):wpAny (model prog w) A (Builtin.Slice.sliceApplied (.ref S) (pure (n:Int))) Q E s:=by
 obtain⟨os,H,c,a⟩:=id b;unfold Builtin.Slice.sliceApplied Builtin.Slice.sliceFields;refine ck (ck (wpAny_field H a (x:=l) rfl (ck (wpAny_field H a (x:=v) rfl (ck (wpAny_field H a (x:=.none) rfl (cm ?_)))))));refine ck (slicePart_none ?_);show wpAny _ _ (if ((1:Int)==0)=true then _ else _) _ _ s;rw[ar (by decide)]
 refine ck (Ks p (ck (Ks pu (ck (cm ?_)))));show wpAny _ _ (match Builtin.Slice.sliceAdjust lo hi 1 (n:Int) with|(lo,hi)=>pure (lo,(1:Int),Builtin.Slice.slicePlaces lo hi 1)) _ _ s
 rw[Fx lo hi n];show wpAny _ _ (pure (((qN n 0 lo:Nat):Int),(1:Int),Builtin.Slice.slicePlaces ((qN n 0 lo:Nat):Int) ((qN n n hi:Nat):Int) 1)) _ _ s;rw[F7];exact cm h
def CI (xs:Array Value)(i k:Nat):((List.range k).filterMap λ(m:Nat)=>xs[((i:Int)+(m:Int) * 1).toNat]?).toArray=((xs.toList.drop i).take k).toArray:=by
 have e:(λ(m:Nat)=>xs[((i:Int)+(m:Int) * 1).toNat]?)=λm=>xs[i+m]?:=by
  funext m
  have:((i:Int)+(m:Int) * 1).toNat=i+m:=by omega
  rw[this]
 rw[e]
 have:=pick_run xs i k
 rw[List.filterMap_map]at this;have E:((λx=>xs[x]?) ∘ λx=>i+x)=λm=>xs[i+m]?:=rfl;rw[E]at this;rw[this]
def Ly {t S:Addr}{l v:Value}{lo hi:bZ}(a:IsTup s.heap t items)(e:s.heap.IsSliceOf S l v .none)(p:IsPart l lo)(pu:IsPart v hi)
  (hw:¬(qN items.size 0 lo=0/\qN items.size items.size hi=items.size))
  (h:Q (.ref s.heap.objs.size) { s with heap:=s.heap.push { cls:=.type "tuple",data:=.seq ((items.toList.drop (qN items.size 0 lo)).take (qN items.size items.size hi-qN items.size 0 lo)).toArray } })
  (z:items.size<=sizeLine):wpAny (model prog w) A (getItem (.ref t) (.ref S)) Q E s:=by
 have H:sizeOk (.seq ((items.toList.drop (qN items.size 0 lo)).take (qN items.size items.size hi-qN items.size 0 lo)).toArray):=by
  show((items.toList.drop (qN items.size 0 lo)).take (qN items.size items.size hi-qN items.size 0 lo)).toArray.size<=sizeLine;rw[aC,ba,bJ,aS];omega
 have j:qN items.size items.size hi<=items.size:=dU _ _ (av _) hi;obtain⟨os,b,c,f⟩:=id e;have d:s.TypeIs (.ref S) "slice":=⟨os,b,c⟩;unfold getItem
 try with_reducible refine wpAny_holding ?_
 first|refine ck (cm ?_)|skip
 refine ck (wpAny_sequenceKey a.typeIs (by decide) ?_)
 refine ck (wpAny_callSpecial?_slot (name:=Str.ofString "__getitem__") a.typeIs PyProof.Rows.slot_tuple_getitem
  (wpAny_call_entry PyProof.Rows.slot_tuple_getitem a.typeIs entry_tuple_getitem ?_ (args_tuple_getitem _ _)))
 show wpAny _ _ (Builtin.Tuple.tupleItemsOf (.ref t) >>= _) _ _ s;refine ck (tupleItemsOf_ a ?_);refine ck (wpAny_typeOf d ?_);rw[ah (by decide)]
 refine ck (So e p pu ?_);have o:¬((((qN items.size 0 lo:Nat):Int)==0&&(1:Int)==1&&(qN items.size items.size hi-qN items.size 0 lo)==items.size)=true):=by
  intro q;rw[ak,ak]at q;have i:((qN items.size 0 lo:Nat):Int)=0:=eq_of_beq q.1.1;have g:qN items.size items.size hi-qN items.size 0 lo=items.size:=eq_of_beq q.2;exact hw ⟨by omega,by omega⟩
 show wpAny _ _ (if (((qN items.size 0 lo:Nat):Int)==0&&(1:Int)==1&&(qN items.size items.size hi-qN items.size 0 lo)==items.size)=true then _ else _) _ _ s;rw[ar o,CI]
 first
  |exact ck (m:=Builtin.Tuple.tupleExact _) (wpAny_newObj_type (cm ⟨_,rfl,cm h⟩) H)
  |exact ck (m:=Builtin.Tuple.tupleExact _) (wpAny_newObj_type (ck (cm (cm ⟨_,rfl,cm h⟩))) H)
  |exact ck (ck (m:=Builtin.Tuple.tupleExact _) (wpAny_newObj_type (cm (cm ⟨_,rfl,cm h⟩)) H))
  |exact ck (ck (m:=Builtin.Tuple.tupleExact _) (wpAny_newObj_type (cm ⟨_,rfl,cm h⟩) H))
end
end HT
namespace L2
open PySem PySem.Spec PyProof.Rows
abbrev TO:=St->Hp->(Option Int->Hp->Prop)->Prop
def PO (X:Cx)(e:Option Expr)(t:TO):Prop:=
 ∀(pins:bT)(s:Shared)(σ:St)(H:Hp)(Q:Option Int->Hp->Prop),Inv X pins σ H s->t σ H Q->
  wpAny (model X.prog X.w) X.A (evalPart e X.env) (λu s'=>∃o h,Inv X pins σ h s'/\IsPart u o/\Q o h) X.xe s
noncomputable def BA:TO:=λ_ H Q=>Q none H
noncomputable def dV (t:TE):TO:=λσ H Q=>t σ H λx H1=>∃i,x=.int i/\Q (some i) H1
section
variable {te:TE}{lo hi:Option Expr}{tl th:TO}{p2:Pos}
def AZ:PO X none BA:=by
 intro pins s σ H Q I h;rw[evalPart_none];exact cm ⟨none,H,I,.none,h⟩
def Bp (h:PE X e te):PO X (some e) (dV te):=by
 intro pins s σ H Q I hw;rw[evalPart_some];refine qa (h pins s σ H _ I hw) λu s1 ⟨x,H1,b,r,a⟩=>?_;obtain⟨i,rfl,q⟩:=a;obtain⟨t,rfl⟩:=r;exact⟨some i,H1,b,.int i t,q⟩
def TV (X:Cx)(r:V->Option Int->Option Int->Hp->VK->Prop):Prop:=
 ∀(pins:bT)(s:Shared)(σ:St)(H:Hp)(x:V)(v l u:Value)(lo hi:bZ)(S:Addr)(Q:VK),Inv X pins σ H s->RelV x v->s.heap.IsSliceOf S l u .none->IsPart l lo->IsPart u hi->r x lo hi H Q->
  ∃T id,typeLookup (.type T) "__getitem__"=pure (some (.builtin id))/\s.TypeIs v T/\wpAny (model X.prog X.w) X.A (getItem v (.ref S)) (EP X pins σ Q) X.xe s
noncomputable def dW (r:V->Option Int->Option Int->Hp->VK->Prop)(T:TE)(t th:TO):TE:=λσ H Q=>T σ H λx H1=>t σ H1 λl a=>th σ a λu h=>r x l u h Q
def CH {r:V->Option Int->Option Int->Hp->VK->Prop}(o:TV X r)(he:PE X e te)(y:PO X lo tl)(n:PO X hi th):PE X (.Subscript e (.Slice lo hi none p2) pos) (dW r te tl th):=by
 intro pins s σ H Q I h;refine Subscript_ (qa (he pins s σ H _ I h) λv s1 ⟨x,H1,J,f,j⟩=>?_);refine wpAny_Slice (qa (y pins s1 σ H1 _ J j) λc s2 ⟨l,K,E,p,i⟩=>qa (n pins s2 σ K _ E i) λa s3 ⟨u,d,D,pu,g⟩=>?_);rw[evalPart_none];refine cm ?_;have C:Inv X pins σ d { s3 with heap:=s3.heap.push { cls:=.type "slice",data:=.fields #[c,a,.none] } }:=D.kept (t':=s3.toks) λb ob q=>af _ q
 obtain⟨T,id,B,t,z⟩:=o pins { s3 with heap:=s3.heap.push { cls:=.type "slice",data:=.fields #[c,a,.none] } } σ d x v c a l u s3.heap.objs.size Q C f (Heap.IsSliceOf.new ..) p pu g
 show wpAny (model X.prog X.w) X.A (subscriptTail e (.Slice lo hi none p2) v (.ref s3.heap.objs.size)) (EP X pins σ Q) X.xe { s3 with heap:=s3.heap.push { cls:=.type "slice",data:=.fields #[c,a,.none] } }
 exact tail_any (ops:=[.ref s3.heap.objs.size,v]) t B z (by with_unfolding_all rfl)
noncomputable def JU (xs:List V)(lo hi:bZ):List V:=(xs.drop (HT.qN xs.length 0 lo)).take (HT.qN xs.length xs.length hi-HT.qN xs.length 0 lo)
def HM (xs:List V)(lo hi:bZ):(JU xs lo hi).length<=xs.length:=by
 unfold JU;rw[ba,bJ];omega
def dX (K:Frag):V->Option Int->Option Int->Hp->VK->Prop:=λx lo hi H Q=>∃a xs,x=.ref a/\qS K H a xs/\
 ¬(HT.qN xs.length 0 lo=0/\HT.qN xs.length xs.length hi=xs.length)/\∀p,H p=none->Q (.ref p) (upd H p (.tup (JU xs lo hi)))
def dY:TV X (dX X.K):=by
 intro pins s σ H x v l u lo hi S Q I c e p pu h;obtain⟨a,xs,rfl,d,hw,q⟩:=h;cases c;obtain⟨i,r,t,z⟩:=I.tuple d;have hlen:i.toArray.size=xs.length:=by rw[aC];exact r.length.symm
 refine⟨"tuple",_,PyProof.Rows.slot_tuple_getitem.lookup,t.typeIs,?_⟩;refine HT.Ly t e p pu (by rw[hlen];exact hw) ?_ (by rw[hlen];exact z)
 rw[hlen];refine⟨.ref s.heap.objs.size,_,I.laid (t':=s.toks) (o:=.tup (JU xs lo hi)) (λb ob q=>af _ q) (av _) ?_,rfl,q _ (I.hok.fresh (av _))⟩;exact⟨bq (HM xs lo hi) z,_,(r.drop (HT.qN xs.length 0 lo)).take (HT.qN xs.length xs.length hi-HT.qN xs.length 0 lo),Qh.new _ _⟩
def N0 (K:Frag):R2:=λx y H Q=>∃a b xs ys,x=.ref a/\y=.ref b/\qS K H a xs/\qS K H b ys/\xs≠[]/\xs.length+ys.length<=sizeLine/\
 (ys=[]->Q (.ref a) H)/\(ys≠[]->∀p,H p=none->Q (.ref p) (upd H p (.tup (xs++ys))))
def Vals.nil_iff (r:Vals xs us):us=[]↔xs=[]:=by
 cases r with
 |nil=>simp|cons _ _=>simp
def Bv:jc X (binaryOp .Add) (N0 X.K):=by
 intro pins s σ H x y v u Q I f e h;obtain⟨a,b,xs,ys,rfl,rfl,A,t,n,d,j,g⟩:=h;cases f;cases e;obtain⟨l,c,P,_⟩:=I.tuple A;obtain⟨i,r,p,_⟩:=I.tuple t;refine HT.zab P p (λz=>n (c.nil_iff.mp z)) (λz=>⟨.ref a,H,I,rfl,j (r.nil_iff.mp z)⟩) (λz=>?_) (by rw[<- c.length,<- r.length];exact d)
 refine⟨.ref s.heap.objs.size,_,I.laid (t':=s.toks) (o:=.tup (xs++ys)) (λb ob q=>af _ q) (av _) ?_,rfl,g (λw=>z (r.nil_iff.mpr w)) _ (I.hok.fresh (av _))⟩;exact⟨by rw[aq];exact d,_,c.append r,Qh.new _ _⟩
end
noncomputable def Zb (n:Nat)(i:Int):Option Nat:=if 0<=i then(if i<n then some i.toNat else none) else if -(n:Int)<=i then some (i+n).toNat else none
def gr (xs:List α)(i:Int):Option α:=(Zb xs.length i).bind λj=>xs[j]?
def Ni {i:Int}(h:Zb n i=some j):seqIndex? i n=some j/\j<n/\-(n:Int)<=i/\i<n:=by
 unfold Zb at h
 by_cases h0:0<=i
 ·rw[ah h0]at h
  by_cases h1:i<n
  ·rw[ah h1]at h
   have e:i.toNat=j:=aD h;exact⟨by rw[seqIndex_of h0 h1,e],by omega,by omega,h1⟩
  ·rw[ar h1]at h;cases h
 ·rw[ar h0]at h
  by_cases h1:-(n:Int)<=i
  ·rw[ah h1]at h
   have e:(i+n).toNat=j:=aD h;exact⟨by rw[seqIndex_neg (by omega) h1,e],by omega,h1,by omega⟩
  ·rw[ar h1]at h;cases h
def UD {xs:List α}{i:Int}{v:α}(h:gr xs i=some v):∃j,seqIndex? i xs.length=some j/\xs[j]? =some v/\j<xs.length/\-(xs.length:Int)<=i/\i<xs.length:=by
 unfold gr at h;cases e:Zb xs.length i with
 |none=>rw[e]at h;cases h|some j=>
  rw[e]at h;obtain⟨c,b,a,H⟩:=Ni e;exact⟨j,c,h,b,a,H⟩
def GQ {xs:List α}{v:α}(h:xs[j]? =some v):gr xs (j:Int)=some v:=by
 have H:j<xs.length:=(cq.mp h).1;have e:Zb xs.length (j:Int)=some j:=by
  unfold Zb;rw[ah (by omega),ah (by omega)];simp
 unfold gr;rw[e];exact h
def Nb (b:Expr):Prop:=∀o i,subscripted b false o i=operate [o,i] (getItem o i)
def QC (X:Cx)(r:R2):Prop:=
 ∀(value slice:Expr)(pins:bT)(s:Shared)(σ:St)(H:Hp)(x y:V)(v u:Value)(Q:VK),Inv X pins σ H s->RelV x v->RelV y u->r x y H Q->
  subscripted slice false v u=operate [v,u] (getItem v u)->wpAny (model X.prog X.w) X.A (subscriptTail value slice v u) (EP X pins σ Q) X.xe s
def TM (X:Cx)(id:String)(r:V->List V->Hp->VK->Prop):Prop:=
 ∀(pins:bT)(s:Shared)(σ:St)(H:Hp)(x:V)(xs:List V)(v:Value)(us:bR)(Q:VK),Inv X pins σ H s->RelV x v->Vals xs us->r x xs H Q->
  wpAny (model X.prog X.w) X.A (call (.builtin id) (v::us)) (EP X pins σ Q) X.xe s
section
variable {a b:Expr}{ta tb:TE}
def QC.or {r c:R2}(h:QC X r)(h':QC X c):QC X (λx y H Q=>r x y H Q∨c x y H Q):=by
 intro value slice pins s σ H x y v u Q I b a q d;rcases q with q|q
 ·exact h value slice pins s σ H x y v u Q I b a q d
 ·exact h' value slice pins s σ H x y v u Q I b a q d
def dZ {r:R2}(f:QC X r)(i:PE X a ta)(g:PE X b tb)(e:Nb b):PE X (.Subscript a b pos) (Wz r ta tb):=by
 intro pins s σ H Q I h;exact Subscript_ (Tt i g I h λv u s2 x y l j d c q=>f a b pins s2 σ l x y v u Q j d c q (e _ _))
def Ms (K:Frag):R2:=λx y H Q=>∃p xs i v,x=.ref p/\y=.int i/\jy K H p xs/\gr xs i=some v/\Q v H
def Mj (K:Frag):R2:=λx y H Q=>∃p xs i v,x=.ref p/\y=.int i/\qS K H p xs/\gr xs i=some v/\Q v H
def Mr:R2:=λx y H Q=>∃z i c,x=.str z/\y=.int i/\z.length<=sizeLine/\gr z.cps.toList i=some c/\Q (.str ⟨#[c]⟩) H
def BN:QC X (Ms X.K):=by
 intro value slice pins s σ H x y v u Q I g f h e;obtain⟨p,xs,i,z,rfl,rfl,l,he,q⟩:=h;cases g;obtain⟨t,rfl⟩:=f;obtain⟨c,r,P,C⟩:=I.list l;obtain⟨j,a,B,D,A,o⟩:=UD he;obtain⟨w,E,b⟩:=r.get B;have n:=r.length;have hn:=YJ;have fin:EP X pins σ Q w s:=⟨z,H,I,b,q⟩
 by_cases h0:0<=i
 ·have d:i.toNat=j:=by
   rw[seqIndex_of h0 o]at a;exact aD a
  exact item_listR P.isList h0 (by omega) (by rw[d];simpa using E) fin e
 ·have d:(i+(c.toArray.size:Int)).toNat=j:=by
   rw[seqIndex_neg (by omega) A]at a
   rw[aC,<- n];exact aD a
  exact subscriptTail_builtinR (x:=w) P.isList.typeIs slot_list_getitem.lookup
   (wpAny_getItem_list_neg (Q:=λr s'=>r=w/\EP X pins σ Q r s') P.isList (by omega) (by rw[aC]<;>omega) (by omega) (by rw[d];simpa using E) ⟨rfl,fin⟩) e
def d0:QC X (Mj X.K):=by
 intro value slice pins s σ H x y v u Q I c b h e;obtain⟨p,xs,i,z,rfl,rfl,f,he,q⟩:=h;cases c;obtain⟨t,rfl⟩:=b;obtain⟨d,r,P,o⟩:=I.tuple f;obtain⟨j,n,g,C,B,A⟩:=UD he;obtain⟨w,E,a⟩:=r.get g;have l:=r.length;have hn:=YJ;have fin:EP X pins σ Q w s:=⟨z,H,I,a,q⟩;exact subscriptTail_builtinR (x:=w) P.typeIs slot_tuple_getitem.lookup
  (getItem_tuple (j:=j) (Q:=λr s'=>r=w/\EP X pins σ Q r s') P (by omega) (by omega) (by rw[aC,<- l];exact n) (by simpa using E) ⟨rfl,fin⟩) e
def d1:QC X Mr:=by
 intro value slice pins s σ H x y v u Q I b r h d;obtain⟨z,i,c,rfl,rfl,o,he,q⟩:=h;obtain⟨t,rfl⟩:=b;obtain⟨t',rfl⟩:=r;obtain⟨j,a,g,p,f,e⟩:=UD he;have l:z.cps.toList.length=z.length:=by simp[Str.length]
 rw[l]at a f e;have hn:=YJ;exact tail_any (typeIs_str s z t) slot_str_getitem.lookup (getItem_str (c:=c) (by
  have n:decide (i < -(2 ^ 63:Int))=false:=az (by omega)
  have E:decide (i ≥ 2 ^ 63)=false:=az (by omega)
  rw[n,E,Bool.or_false]) (by rw[a];simpa using g) ⟨.str ⟨#[c]⟩,H,I.tok _,⟨_,rfl⟩,q⟩) d
def MW (K:Frag):R2:=λx y H Q=>Ms K x y H Q∨Mj K x y H Q∨Mr x y H Q
def d2:QC X (MW X.K):=BN.or (d0.or d1)
def FZ (i:bR)(n j:Nat)(u:Value):Obj.mapSeq (·.setIfInBounds j u) { cls:=.type "list",data:=.seq i.toArray n }={ cls:=.type "list",data:=.seq (i.set j u).toArray n }:=by
 simp[Obj.mapSeq]
theorem Inv.lst {pins:bT}{σ:St}{H:Hp}{s:Shared}{p:Addr}{xs:List V}(I:Inv X pins σ H s)(h:H p=some (.lst xs)):
  ∃(i:bR) (n:Nat),Vals xs i/\s.heap.get? p=some { cls:=.type "list",data:=.seq i.toArray n }/\xs.length<=sizeLine:=by
 obtain⟨z,i,n,r,e⟩:=I.hok p _ h;exact⟨i,n,r,e,z⟩
def Inv.lstUpd {p:Addr}{its':bR}{N:Nat}{f:Obj->Obj}(I:Inv X pins σ H s)(h:H p=some (.lst xs))
  (o:s.heap.get? p=some { cls:=.type "list",data:=.seq its.toArray n })(hf:f { cls:=.type "list",data:=.seq its.toArray n }={ cls:=.type "list",data:=.seq its'.toArray N })(r:Vals ys its')(z:ys.length<=sizeLine)(t:Nat):
  Inv X pins σ (upd H p (.lst ys)) { s with heap:=s.heap.update p f,toks:=t }:=by
 have e:(s.heap.update p f).get? p=some { cls:=.type "list",data:=.seq its'.toArray N }:=by
  rw[aZ f o (by rw[hf]<;>rfl),hf]
 refine I.write (x:=p) (e:=p) (by rw[h];trivial) (.inl rfl) (λb u a q=>(aR _ _ (Ne.symm a)).trans q) ⟨_,e⟩ ?_
 exact⟨z,its',N,r,e⟩
def N7:V->V->V->Hp->(Hp->Prop)->Prop:=λo i v H Q=>∃p xs k j,o=.ref p/\i=.int k/\H p=some (.lst xs)/\Zb xs.length k=some j/\Q (upd H p (.lst (xs.set j v)))
def set_list:Xu X N7:=by
 intro pins s σ H o i v B C u Q I ro y x h;obtain⟨p,xs,k,j,rfl,rfl,e,A,q⟩:=h;cases ro;obtain⟨t,rfl⟩:=y;obtain⟨a,n,r,c,z⟩:=I.lst e;obtain⟨b,D,g,f⟩:=Ni A;have l:=r.length;have hn:=YJ;have w:Inv X pins σ (upd H p (.lst (xs.set j v))) { s with heap:=s.heap.update p (Obj.mapSeq (·.setIfInBounds j u)) }:=
  I.lstUpd e c (FZ a n j u) (r.set x j) (by rw[length_set];exact z) s.toks
 by_cases h0:0<=k
 ·have d:k.toNat=j:=by
   rw[seqIndex_of h0 f]at b;exact aD b
  exact PySem.W.ki_setAt c h0 (by omega) (by rw[aC,<- l];exact f) (by rw[d];exact⟨_,w,q⟩)
 ·have d:(k+(a.toArray.size:Int)).toNat=j:=by
   rw[seqIndex_neg (by omega) g]at b
   rw[aC,<- l];exact aD b
  exact PySem.W.ki_setBack c (by omega) (by rw[aC,<- l];exact g) (by omega) (by rw[d];exact⟨_,w,q⟩)
noncomputable def ZW:V->Bool
 |.non=>true|.bl _=>true|.int _=>true|.str _=>true|_=>false
noncomputable def QA:V->V->Bool
 |.non,.non=>true|.bl a,.bl b=>a==b|.bl a,.int b=>(if a then 1 else 0)==b|.int a,.bl b=>a==(if b then 1 else 0)|.int a,.int b=>a==b|.str a,.str b=>a==b|_,_=>false
def d3 {A:Around}{y x:V}{v:Value}(c:RelV y u)(r:RelV x v)(d:ZW y=true)(f:ZW x=true):SeqAt.EqAt A s u v (QA y x):=by
 cases y with
 |non=>
  cases c;cases x with
  |non=>cases r;exact SeqAt.EqAt.same _|bl b=>cases r;exact SeqAt.EqAt.none_bool b|int b=>obtain⟨t,rfl⟩:=r;exact SeqAt.EqAt.none_int b t|str b=>obtain⟨t,rfl⟩:=r;exact SeqAt.EqAt.none_str b t|_=>exact absurd (show false=true from f) aA
 |bl a=>
  cases c;cases x with
  |non=>cases r;exact SeqAt.EqAt.bool_none a|bl b=>cases r;exact SeqAt.EqAt.bool_bool a b|int b=>obtain⟨t,rfl⟩:=r;exact SeqAt.EqAt.bool_int a b t|str b=>obtain⟨t,rfl⟩:=r;exact SeqAt.EqAt.bool_str a b t|_=>exact absurd (show false=true from f) aA
 |int a=>
  obtain⟨t',rfl⟩:=c;cases x with
  |non=>cases r;exact SeqAt.EqAt.int_none a t'|bl b=>cases r;exact SeqAt.EqAt.int_bool a t' b|int b=>obtain⟨t,rfl⟩:=r;exact SeqAt.EqAt.int_int a t' b t|str b=>obtain⟨t,rfl⟩:=r;exact SeqAt.EqAt.int_str a t' b t|_=>exact absurd (show false=true from f) aA
 |str a=>
  obtain⟨t',rfl⟩:=c;cases x with
  |non=>cases r;exact SeqAt.EqAt.str_none a t'|bl b=>cases r;exact SeqAt.EqAt.str_bool a t' b|int b=>obtain⟨t,rfl⟩:=r;exact SeqAt.EqAt.str_int a t' b t|str b=>obtain⟨t,rfl⟩:=r;exact SeqAt.EqAt.str_str a t' b t|_=>exact absurd (show false=true from f) aA
 |_=>exact absurd (show false=true from d) aA
def QD (x:V)(u:Value):Bool:=match u with
 |.none=>QA .non x|.bool b=>QA (.bl b) x|.int i _=>QA (.int i) x|.str z _=>QA (.str z) x|_=>false
def NQ {x y:V}(r:RelV y u)(f:ZW y=true):QD x u=QA y x:=by
 cases y with
 |non=>cases r;rfl|bl b=>cases r;rfl|int i=>obtain⟨t,rfl⟩:=r;rfl|str z=>obtain⟨t,rfl⟩:=r;rfl|_=>exact absurd (show false=true from f) aA
theorem Ui {x:V}:∀{xs:List V}{us:bR},Vals xs us->xs.all ZW=true->us.any (QD x)=xs.any λy=>QA y x
 |_,_,.nil,_=>rfl|y::xs,u::us,.cons r t,f=>by
  rw[List.all_cons,ak]at f;rw[any_cons,any_cons,NQ r f.1,Ui t f.2]
theorem V6 {A:Around}{x:V}{v:Value}(a:RelV x v)(b:ZW x=true):∀{xs:List V}{us:bR},Vals xs us->xs.all ZW=true->∀u∈us,SeqAt.EqAt A s u v (QD x u)
 |_,_,.nil,_=>λu h=>by cases h|y::xs,u::us,.cons r t,f=>λU h=>by
  rw[List.all_cons,ak]at f;rcases cn.mp h with rfl|h
  ·rw[NQ r f.1];exact d3 r a f.1 b
  ·exact V6 a b t f.2 U h
def XN (x:V)(xs:List V):Bool:=xs.any λy=>QA y x
def MO (K:Frag)(neg:Bool):R2:=λx y H Q=>∃p xs,y=.ref p/\(jy K H p xs∨qS K H p xs)/\ZW x=true/\xs.all ZW=true/\Q (.bl (if neg then !XN x xs else XN x xs)) H
def Dy:jc X (compareOp .In) (MO X.K false):=by
 intro pins s σ H x y v u Q I b c h;obtain⟨p,xs,rfl,a,f,fs,q⟩:=h;cases c;rcases a with a|a
 ·obtain⟨i,r,P,z⟩:=I.list a
  refine SeqAt.in_listAt (QD x) P.isList (λw hw=>V6 b f r fs w (by simpa using hw)) ⟨.bl _,H,I,rfl,?_⟩
  rw[show i.toArray.any (QD x)=i.any (QD x) by simp,Ui r fs]
  exact q
 ·obtain⟨i,r,P,z⟩:=I.tuple a
  refine SeqAt.in_tupleAt (QD x) P (λw hw=>V6 b f r fs w (by simpa using hw)) ⟨.bl _,H,I,rfl,?_⟩
  rw[show i.toArray.any (QD x)=i.any (QD x) by simp,Ui r fs]
  exact q
def Hi:yc X (.builtin "len") (λxs H Q=>∃p ys,xs=[.ref p]/\(jy X.K H p ys∨qS X.K H p ys)/\Q (.int ys.length) H):=by
 intro pins s σ H xs us Q I r h;obtain⟨p,ys,rfl,a,q⟩:=h;obtain⟨u,rfl,x⟩:=vals1 r;cases x;have hn:=YJ;rcases a with a|a
 ·obtain⟨i,b,P,z⟩:=I.list a
  have hlen:=b.length;exact Calls.call_len_list P.isList (by simp only[aC]<;>omega) ⟨.int ys.length,H,I.tok _,⟨s.toks+1,by rw[aC,hlen]⟩,q⟩
 ·obtain⟨i,b,P,z⟩:=I.tuple a
  have hlen:=b.length;exact len_tuple P (by simp only[aC]<;>omega) ⟨.int ys.length,H,I.tok _,⟨s.toks+1,by rw[aC,hlen]⟩,q⟩
def Ht:yc X (.type "list") (λxs H Q=>∃p ys,xs=[.ref p]/\(jy X.K H p ys∨qS X.K H p ys)/\∀l,H l=none->Q (.ref l) (upd H l (.lst ys))):=by
 intro pins s σ H xs us Q I r h;obtain⟨p,ys,rfl,d,q⟩:=h;obtain⟨u,rfl,x⟩:=vals1 r;cases x;have fin:∀(its:bR),Vals ys its->ys.length<=sizeLine->∀(h':Heap)(c:Nat),(∀b o',s.heap.get? b=some o'->h'.get? b=some o')->
   h'.get? s.heap.objs.size=some { cls:=.type "list",dict:=none,data:=.seq its.toArray c,slots:=#[] }->EP X pins σ Q (.ref s.heap.objs.size) { s with heap:=h' }:=λits a z h' c kp e=>
  ⟨.ref s.heap.objs.size,_,I.laid (t':=s.toks) kp (av _) (show jk X.prog X.w _ h' _ (.lst ys) from ⟨z,its,c,a,e⟩),rfl,q _ (I.hok.fresh (av _))⟩
 rcases d with d|d
 ·obtain⟨its,a,P,z⟩:=I.list d
  have hlen:=a.length;obtain⟨o,f,g,n,hd⟩:=P.isList;exact call_list_seq p (.inl rfl) f g hd (λh' c kp e=>fin its a z h' c kp e) (by simp only[aC]<;>omega)
 ·obtain⟨its,a,P,z⟩:=I.tuple d
  have hlen:=a.length;obtain⟨o,f,g,n,hd⟩:=P;exact call_list_seq p (.inr rfl) f g hd (λh' c kp e=>fin its a z h' c kp e) (by simp only[aC]<;>omega)
def Ik:yc X (.type "tuple") (λxs H Q=>∃p ys,xs=[.ref p]/\((jy X.K H p ys/\∀l,H l=none->Q (.ref l) (upd H l (.tup ys)))∨(qS X.K H p ys/\Q (.ref p) H))):=by
 intro pins s σ H xs us Q I r h;obtain⟨p,ys,rfl,h⟩:=h;obtain⟨u,rfl,x⟩:=vals1 r;cases x;rcases h with ⟨c,q⟩|⟨c,q⟩
 ·obtain⟨i,a,P,z⟩:=I.list c
  have hlen:=a.length;refine call_tuple_list P.isList (λh' kp=>?_) (by simp only[aC]<;>omega)
  have d:Inv X pins σ H { s with heap:=h' }:=I.kept (t':=s.toks) kp
  have f:Inv X pins σ (upd H h'.objs.size (.tup ys)) { s with heap:=h'.push { cls:=.type "tuple",data:=.seq i.toArray } }:=
   d.laid (t':=s.toks) (λb o e=>af _ e) (av _) (show jk X.prog X.w _ _ _ (.tup ys) from ⟨z,i,a,Qh.new _ _⟩)
  exact⟨.ref h'.objs.size,_,f,rfl,q _ (d.hok.fresh (av _))⟩
 ·obtain⟨i,a,P,z⟩:=I.tuple c
  exact call_tuple_same P ⟨.ref p,H,I,rfl,q⟩
def XO (K:Frag)(T:String)(x:V)(H:Hp):Prop:=match x with
 |.str _=>T = "str"
 |.int _=>T = "int"
 |.ref p=>(T = "list" /\ ∃xs,jy K H p xs)∨(T = "tuple" /\ ∃o,K.lookup p=some o/\o.cls=.type "tuple" /\ o.dict=none)∨
   (T = "dict" /\ ((∃kvs,H p=some (.dK kvs))∨∃kvs,H p=some (.dT kvs)))∨(T = "set" /\ ∃S n,H p=some (.set S n))
 |_=>False
def d4 {T:String}{x:V}{v:Value}(I:Inv X pins σ H s)(r:RelV x v)(ty:XO X.K T x H):
  s.TypeIs v T/\∀a,v=.ref a->∃ob,s.heap.get? a=some ob/\ob.dict=none:=by
 cases x with
 |str z=>
  obtain⟨t,rfl⟩:=r;cases (show T = "str" from ty)
  exact⟨typeIs_str s z t,λ_ e=>nomatch e⟩
 |int i=>
  obtain⟨t,rfl⟩:=r;cases (show T = "int" from ty)
  exact⟨typeIs_int s i t,λ_ e=>nomatch e⟩
 |ref p=>
  cases r;rcases ty with ⟨rfl,xs,q⟩|⟨rfl,o,h,d,hd⟩|⟨rfl,h⟩|⟨rfl,S,n,h⟩
  ·obtain⟨b,_,P,_⟩:=I.list q
   refine⟨P.isList.typeIs,λa e=>?_⟩;cases e;obtain⟨o,n,e,c,hd,_⟩:=P;exact⟨o,e,hd⟩
  ·refine⟨⟨o,I.kIn p o h,d⟩,λa e=>?_⟩
   cases e;exact⟨o,I.kIn _ o h,hd⟩
  ·have z:∃o,s.heap.get? p=some o/\o.ExactDict:=by
    rcases h with ⟨kvs,h⟩|⟨kvs,h⟩
    ·obtain⟨_,_,_,_,o,_,_,e,ex,_⟩:=I.hok p _ h
     exact⟨o,e,ex⟩
    ·obtain⟨_,_,_,_,o,_,_,e,ex,_⟩:=I.hok p _ h
     exact⟨o,e,ex⟩
   obtain⟨o,e,ex⟩:=z;refine⟨⟨o,e,ex.1⟩,λa E=>?_⟩;cases E;exact⟨o,e,ex.2.1⟩
  ·obtain⟨o,_,_,_,e,ex,_⟩:=I.hok p _ h
   refine⟨⟨o,e,ex.1⟩,λa E=>?_⟩;cases E;exact⟨o,e,ex.2.1⟩
 |_=>exact False.elim ty
noncomputable def d6 (K:Frag)(T:String)(r:V->List V->Hp->VK->Prop)(to:TE)(t:TA):TE:=λσ H Q=>to σ H λx H1=>XO K T x H1/\t σ H1 λxs h=>r x xs h Q
variable {o:Expr}{es:bY}{to:TE}{t:TA}{name:Str}{apos:Pos}{T id:String}{r:V->List V->Hp->VK->Prop}
def NW (p:PlainAttrs T)(slot:Slot T name id)(y:typeOf (.builtin id)=pure (.type "method_descriptor"))(hm:TM X id r)(j:PE X o to)(l:PA X (e::es) t)
  (b:attributeBase o name X.env (eval o X.env)=eval o X.env:=by rfl)
  (w:((backTo cpos (starEach (e::es) X.env)).all (λx=>!x.1)&&(backToKw cpos (keywordEach [] X.env)).all (λx=>x.1.isSome)
   && decide ((e::es).length+([]:cc).length+(if ([]:cc).isEmpty then 0 else 1)<30))=true:=by rfl)
  (a:(apos.endLine==cpos.line)=true:=by rfl)(g:starEach (e::es) X.env=(false,eval e X.env)::starEach es X.env:=by rfl)(n:(backTo cpos (starEach es X.env)).any (·.1)=false:=by rfl):
  PE X (.Call (.Attribute o name apos) (e::es) [] cpos) (d6 X.K T r to t):=by
 intro pins s σ H Q I h;refine wpAny_Call_method_late b w a rfl (qa (j pins s σ H _ I h) λv s1 ⟨x,H1,i,c,ty,f⟩=>?_);obtain⟨z,u⟩:=d4 i c ty;refine⟨T,id,p,slot,y,z,u,?_⟩;have A:=l cpos pins s1 σ H1 _ i f;rw[g]at A ⊢;refine Calls.callWith_builtin (by show(false || (backTo cpos (starEach es X.env)).any (·.1))=false;rw[n]<;>rfl) (Calls.evalArgs_plain ?_)
 exact qa A λus s2 ⟨vs,C,B,d,q⟩=>hm pins s2 σ C x vs v us Q B c d q
end
def X2 (X:Cx)(id:String)(r:V->List V->Hp->VK->Prop):Prop:=
 ∀(pins:bT)(s:Shared)(σ:St)(H:Hp)(x:V)(xs:List V)(v:Value)(us:bR)(Q:VK),Inv X pins σ H s->RelV x v->Vals xs us->r x xs H Q->
  wpAny (model X.prog X.w) X.A (call (.builtin id) (v::us)) (EP X pins σ Q) X.xe s
def Vals.one {x:V}(h:Vals [x] us):∃u,us=[u]/\RelV x u:=by
 cases h with
 |cons r t=>cases t;exact⟨_,rfl,r⟩
def Vals.two {x y:V}(h:Vals [x,y] us):∃u v,us=[u,v]/\RelV x u/\RelV y v:=by
 cases h with
 |cons r t=>exact(Vals.one t).elim λv e=>⟨_,v,by rw[e.1],r,e.2⟩
theorem Vals.eraseIdx:∀{xs:List V}{us:bR}(i:Nat),Vals xs us->Vals (xs.eraseIdx i) (us.eraseIdx i)
 |_,_,_,.nil=>.nil|_,_,0,.cons _ t=>t|_,_,i+1,.cons r t=>.cons r (Vals.eraseIdx i t)
theorem Vals.rep (h:Vals xs us):∀k:Nat,Vals (List.replicate k xs).flatten (List.replicate k us).flatten
 |0=>.nil|k+1=>by
  rw[bg,bg,a5,a5];exact Vals.append h (Vals.rep h k)
theorem P4:∀(l:List α)(i:Nat),(l.eraseIdx i).length<=l.length
 |[],_=>av _|_::_,0=>le_succ _|_::r,i+1=>Nat.succ_le_succ (P4 r i)
theorem foldl_rep (i:bR):∀(k:Nat)(acc:bR),
  List.foldl (λx1 x2=>x1++x2) acc.toArray (List.replicate k i.toArray)=(acc++(List.replicate k i).flatten).toArray
 |0,acc=>by simp|k+1,acc=>by
  have e:acc.toArray++i.toArray=(acc++i).toArray:=by simp
  have E:(acc++i)++(List.replicate k i).flatten=acc++(List.replicate (k+1) i).flatten:=by
   rw[bg,a5,aQ]
  rw[<- E,<- foldl_rep i k (acc++i),<- e,bg,List.foldl_cons]
section
variable {l:Addr}
def Inv.lset {its':bR}{f:Array Value->Array Value}(I:Inv X pins σ H s)(c:H l=some (.lst xs))
  (e:s.heap.get? l=some { cls:=.type "list",data:=.seq its.toArray n })(hf:f its.toArray=its'.toArray)(v:Vals ys its')(h:ys.length<=sizeLine):
  Inv X pins σ (upd H l (.lst ys)) { s with heap:=s.heap.update l (Obj.mapSeq f),toks:=t' }:=by
 have q:=PySem.IsL.update e f;rw[hf]at q;refine I.write (x:=l) (e:=l) (by rw[c];exact trivial) (.inl rfl) (λB u b a=>(aR s.heap (Obj.mapSeq f) (Ne.symm b)).trans a) ⟨_,q⟩ ?_
 exact⟨h,its',_,v,q⟩
def Inv.lnew (I:Inv X pins σ H s)(v:Vals ys its)(h:ys.length<=sizeLine):
  Inv X pins σ (upd H s.heap.objs.size (.lst ys)) { s with heap:=s.heap.push { cls:=.type "list",data:=.seq its.toArray },toks:=t' }:=
 I.laid (λ_ _ q=>af _ q) (av _) ⟨h,its,0,v,au _ rfl⟩
theorem Inv.fresh (I:Inv X pins σ H s):H s.heap.objs.size=none:=I.hok.fresh (av _)
def Inv.lstM (I:Inv X pins σ H s)(h:H l=some (.lst xs)):xs.length<=sizeLine/\∃(i:bR) (n:Nat),Vals xs i/\xs.length=i.length/\s.heap.get? l=some { cls:=.type "list",data:=.seq i.toArray n }:=by
 obtain⟨z,i,n,r,e⟩:=I.hok l _ h;exact⟨z,i,n,r,r.length,e⟩
def OA (h:n<=sizeLine):Builtin.List.listTooLong n=false:=by
 unfold Builtin.List.listTooLong;exact az (by omega)
end
section
def d7:V->List V->Hp->VK->Prop:=λx vs H Q=>∃l xs y,x=.ref l/\vs=[y]/\H l=some (.lst xs)/\xs.length<sizeLine/\Q .non (upd H l (.lst (xs++[y])))
def Oc:X2 X "list.append" d7:=by
 intro pins s σ H x vs v us Q I b c h;obtain⟨l,xs,y,rfl,rfl,a,f,q⟩:=h;cases b;obtain⟨u,rfl,d⟩:=c.one;obtain⟨z,i,n,r,g,e⟩:=I.lstM a;refine call_meets F.slot_list_append ⟨_,e,rfl⟩ F.entry_list_append (F.args_list_append_2 _ _) (PySem.list_append l i.toArray n u (by rw[aC];omega)) ⟨e,?_⟩
 refine⟨.non,_,I.lset (its':=i++[u]) a e (by simp) (r.append (.cons d .nil)) ?_,rfl,q⟩
 rw[aq,aV];omega
def AX:V->List V->Hp->VK->Prop:=λx vs H Q=>∃l b xs zs,x=.ref l/\vs=[.ref b]/\H l=some (.lst xs)/\H b=some (.lst zs)/\xs.length+zs.length<=sizeLine/\Q .non (upd H l (.lst (xs++zs)))
def Ee:X2 X "list.extend" AX:=by
 intro pins s σ H x vs v us Q I f j h;obtain⟨l,b,xs,zs,rfl,rfl,d,B,w,q⟩:=h;cases f;obtain⟨u,rfl,o⟩:=j.one;cases o;obtain⟨z,a,n,r,y,e⟩:=I.lstM d;obtain⟨Z,i,N,p,t,E⟩:=I.lstM B;have c:a.toArray.size+i.toArray.size<=sizeLine:=by rw[aC,aC];omega
 have g:¬(!a.toArray.isEmpty&&Builtin.List.listTooLong (a.toArray.size+i.toArray.size))=true:=by
  rw[OA c,Bool.and_false];exact aA
 refine call_meets F.slot_list_extend ⟨_,e,rfl⟩ F.entry_list_extend (F.args_list_extend_2 _ _)
  (AutoSeq1.list_extend_list_list_0 l a.toArray n b i.toArray N g (by rw[aC];omega) (by omega)) ⟨e,E,?_⟩
 refine⟨.non,_,I.lset (its':=a++i) d e (by simp) (r.append p) ?_,rfl,q⟩
 rw[aq];omega
def d8:V->List V->Hp->VK->Prop:=λx vs H Q=>∃l xs i k y,x=.ref l/\vs=[.int i]/\H l=some (.lst xs)/\-(2 ^ 63)<=i/\i<2 ^ 63/\seqIndex? i xs.length=some k/\xs[k]? =some y/\Q y (upd H l (.lst (xs.eraseIdx k)))
def Cp:X2 X "list.pop" d8:=by
 intro pins s σ H x vs v us Q I d f h;obtain⟨l,xs,i,k,y,rfl,rfl,c,B,A,p,j,q⟩:=h;cases d;obtain⟨u,rfl,g⟩:=f.one;obtain⟨t,rfl⟩:=g;obtain⟨z,a,n,r,o,e⟩:=I.lstM c;obtain⟨w,hw,b⟩:=r.get j;refine call_meets F.slot_list_pop ⟨_,e,rfl⟩ F.entry_list_pop (F.args_list_pop_2 _ _)
  (MeetsSeq.list_pop_at l a.toArray n i t k w (fitsIndex_both B A) (by rw[aC,<- o];exact p) (by rw[<- bz];exact hw) (by rw[aC];omega)) ⟨e,?_⟩
 refine⟨y,_,I.lset (its':=a.eraseIdx k) c e ?_ (r.eraseIdx k) ?_,b,q⟩
 ·show a.toArray.eraseIdxIfInBounds k=(a.eraseIdx k).toArray
  rw[List.eraseIdxIfInBounds_toArray]
 ·have:=P4 xs k
  omega
def Mq:R2:=λx y H Q=>∃l b xs zs,x=.ref l/\y=.ref b/\H l=some (.lst xs)/\H b=some (.lst zs)/\xs.length+zs.length<=sizeLine/\∀p,H p=none->Q (.ref p) (upd H p (.lst (xs++zs)))
def d9:jc X (binaryOp .Add) Mq:=by
 intro pins s σ H x y v u Q I d c h;obtain⟨l,b,xs,zs,rfl,rfl,j,B,p,q⟩:=h;cases d;cases c;obtain⟨z,a,n,r,t,e⟩:=I.lstM j;obtain⟨Z,i,N,f,g,o⟩:=I.lstM B;refine PySem.P.add_list e o ?_ (by rw[aC,aC];omega)
 have E:a.toArray++i.toArray=(a++i).toArray:=by simp
 rw[E];exact⟨.ref _,_,I.lnew (t':=s.toks) (r.append f) (by rw[aq];omega),rfl,q _ I.fresh⟩
def Mv:R2:=λx y H Q=>∃l k xs,x=.ref l/\y=.int k/\H l=some (.lst xs)/\-(2 ^ 63)<=k/\k<2 ^ 63/\xs.length * k.toNat<=sizeLine/\
 ∀p,H p=none->Q (.ref p) (upd H p (.lst (List.replicate k.toNat xs).flatten))
def len_rep (xs:List α)(k:Nat):(List.replicate k xs).flatten.length=k * xs.length:=by
 induction k with
 |zero=>simp|succ k i=>rw[bg,a5,aq,i,Nat.succ_mul,Nat.add_comm]
def eb:jc X (binaryOp .Mult) Mv:=by
 intro pins s σ H x y v u Q I f d h;obtain⟨l,k,xs,rfl,rfl,o,B,A,c,q⟩:=h;cases f;obtain⟨t,rfl⟩:=d;obtain⟨z,i,n,r,j,e⟩:=I.lstM o;have hlen:i.toArray.size * k.toNat<=sizeLine:=by rw[aC,<- j];exact c
 have p:¬i.toArray.size * k.toNat > (2 ^ 63-1)/8:=by
  have:(sizeLine:Nat)<=(2 ^ 63-1)/8:=by decide
  omega
 have b:¬(!Builtin.List.listFitsIndex k)=true:=by
  rw[fitsIndex_both B A];exact aA
 have g:¬Builtin.List.listTooLong (i.toArray.size * k.toNat)=true:=by
  rw[OA hlen];exact aA
 have w:List.foldl (λx1 x2=>x1++x2) #[] (List.replicate (if i.toArray.isEmpty=true then 0 else k.toNat) i.toArray)=(List.replicate k.toNat i).flatten.toArray:=by
  have f0:∀m:Nat,List.foldl (λx1 x2=>x1++x2) #[] (List.replicate m i.toArray)=(List.replicate m i).flatten.toArray:=λm=>by
   have:=foldl_rep i m []
   rw[nil_append]at this;exact this
  rw[f0];cases i with
  |nil=>simp|cons a C=>rw[ar (by simp)]
 refine wpAny_binaryOp_repeat_ref (T := "list") (U := "int") (by decide) ⟨_,e,rfl⟩ (λs'=>typeIs_int s' k t) noFill_list_mul F.fills_int_mul F.slot_int_rmul repeat_list F.slot_int_index.lookup
  (call_meets F.slot_int_rmul (typeIs_int s k t) F.entry_int_rmul (F.args_int_rmul_2 _ _) (int___rmul___int_list k t l i.toArray n)
   ⟨e,rfl,⟨_,e,rfl⟩,call_meets F.slot_list_mul ⟨_,e,rfl⟩ F.entry_list_mul (F.args_list_mul_2 _ _) (AutoListH.list___mul___list_int_3 l i.toArray n k t b p g) ⟨e,?_⟩⟩)
 rw[w];exact⟨.ref _,_,I.lnew (t':=s.toks) (r.rep k.toNat) (by rw[len_rep,Nat.mul_comm];exact c),rfl,q _ I.fresh⟩
end
section
set_option maxRecDepth 100000 in
end
end L2
namespace Att
open PySem PySem.W PySem.Calls PyProof.Rows
def LU {P:Params}:∀(ns:bQ)(vs:bR),WellAll P h vs (ns.map WData.int)->IntsAre vs ns:=by
 intro ns
 induction ns with
 |nil=>
  intro vs w;rw[map_nil]at w;cases w;exact .nil
 |cons n ns i=>
  intro vs w;rw[aX]at w;cases w with
  |cons a b=>
   cases a;exact .cons _ _ (i _ b)
def E8 {l:OpenLaw}(hn:l.most=some n){P:Params}{args:List WData}{vals:bR}
  (H:l.row.toRowW.claim.pre args=true)(f:WellAll P h vals args):
  ∃a vs ns,vals=[Value.ref a]/\args=[WData.list (ns.map WData.int)]/\h.get? a=some { cls:=.type "list",data:=.seq vs.toArray }/\IntsAre vs ns/\ns.length<=n:=by
 have g:WShape.hasAll [] args [.list .int]=true:=(pre_splitW H).1;have i:l.pre.holds [] { args:=args }=true:=(pre_splitW H).2;obtain⟨d,r,rfl,t,s⟩:=hasAllW_cons g;obtain rfl:=hasAllW_nil s;obtain⟨xs,rfl,p⟩:=hasW_list t;obtain⟨ns,rfl⟩:=items_int p;have hlen:ns.length<=n:=by
  unfold OpenLaw.pre at i;have e:(WTm.not (.lt (.lit (.int (n:Int))) (.len (.arg 0)))).holds [] { args:=[.list (ns.map .int)] }=true:=by
   have e:=(holds_andW i).1;rw[hn]at e;exact e
  have c:=condW_of e (w_not (w_lt w_lit (w_len_list (w_arg rfl))));rw[ag]at c;refine Nat.le_of_not_lt λq=>?_;have Q:(n:Int)<((ns.length:Nat):Int):=by omega
  first
   |(rw[aB Q]at c;exact absurd c (by decide))
   |(simp at c;omega)
 cases f with
 |cons j w=>
  cases w;cases j with
  |list o b=>exact⟨_,_,ns,rfl,rfl,o,LU ns _ b,hlen⟩
def E7 (l:OpenLaw)(args:List WData):l.row.toRowW.claim.post args (.bool true) args=true:=
 postW_of (r:=l.row.toRowW) (X:=(true==true))
  (show WShape.has [] (.bool true) .bool=true by first|rfl|decide|simp[WShape.has,WShape.arms,WShape.armsAll])
  (show(WTm.eq .res (.lit (.bool true))).value [] { args:=args,res:=some (.bool true),after:=args }=some (.bool (true==true)) from w_eq_bool (w_res rfl) w_lit) rfl
def HF {l:OpenLaw}{q:Program}{loose:bV}{P:World->Heap->Prop}{d:DefRec}
  (hn:l.most=some n)(e:d.params.defaults=[])
  (call:∀(w:World)(S s:Shared)(mg mb:b8)(b:Addr)(o:Obj)(pm cd doc:Value)(a:Addr)(vs:bR)(ns:bQ),
   Ground q loose [] XP w S mg mb s.heap->P w s.heap->
   s.heap.get? b=some o->o.data=.func (docDef d.name d.params d.body d.scope pm cd doc)->s.heap.CodeRec cd d.name->mg d.name=some (.ref b)->
   s.heap.get? a=some { cls:=.type "list",data:=.seq vs.toArray }->IntsAre vs ns->ns.length<=n->s.gens=#[]->
   codeAny (model l.prog w) callerA (.call (.ref b) ⟨[.ref a],[]⟩) (λr s'=>r=.ok (.ret (.bool true))/\OldK s.heap s'.heap/\s'.os=s.os/\AllBare s'.gens) s):
  WalkO q loose XP P l.row.toRowW d [] (λf vs=>PySem.call f vs):=by
 intro w S s mg mb G Y b o pm cd doc B kV t hd i D g v args vals as h y j c u;obtain rfl:B=.none:=Dflts.none D e;obtain rfl:kV=.none:=Dflts.noKw D;obtain⟨a,vs,ns,rfl,rfl,H,hints,hlen⟩:=E8 hn h c;refine enter_call (codeAny_mono (call w S s mg mb b o pm cd doc a vs ns G Y t (fd_plain hd) i g H hints hlen v) λr s' p=>?_);obtain⟨rfl,A,z,x⟩:=p;exact⟨.inl ⟨.bool true,.bool true,[],rfl,λ_=>rfl,.bool true,E7 l _,λ_=>⟨List.Pairwise.nil,λ_ hm=>(nomatch hm)⟩⟩,A,z,x⟩
end Att
namespace L2
open PySem PySem.Spec PyProof.Rows
theorem KC:∀{vs:bR}{ns:bQ},IntsAre vs ns->Vals (ns.map V.int) vs
 |_,_,.nil=>.nil|_,_,.cons n t h=>.cons ⟨t,rfl⟩ (KC h)
noncomputable abbrev MD {K:Frag}(_:K.In h):Frag:=K
noncomputable def QW (s:Stmt):Arguments:=match s with
 |.FunctionDef _ a _ _ _ _ _ _ _ _=>a|_=>{ posonlyargs:=[],args:=[],vararg:=none,kwonlyargs:=[],kw_defaults:=[],kwarg:=none,defaults:=[] }
noncomputable def kZ (s:Stmt):cg:=match s with
 |.FunctionDef _ _ b _ _ _ _ _ _ _=>b|_=>[]
noncomputable def qp (s:Stmt):Scope:=match s with
 |.FunctionDef _ _ _ _ _ _ sc _ _ _=>sc|_=>{ kind:=.function,names:=[],isGenerator:=false,isCoroutine:=false }
noncomputable abbrev g8:Zc:=λ_ _ _ _ _ _=>False
noncomputable abbrev E0:XK:=λ_ _ _=>False
def ed:Passes g8 X E0:=λ_ _ _ _ _ _ _ h=>h.elim
structure gv (K:Frag)(x qual:Str)(st:Stmt)(f:Addr)(fd:FuncData):Prop where
 ex:∃(oc:Value) (od:cf) (kV doc pm:Value) (an:cf) (cdv ct:Value) (osl:Array (Option Value)),
  fd=fnOf x qual (QW st) (kZ st) (qp st) .none kV doc pm an cdv ct/\K.lookup f=some ⟨oc,od,.func fd,osl⟩/\codeIn K cdv qual=true
 kp:keepIn K (.ref f)=true
section
variable {K:Frag}
def gv.ok {st:Stmt}{k:Nat}{sp:Sp}(F:gv K x qual st f fd)(S:qX N ps (qp st))(len:∀vs H Q E,sp vs H Q E->vs.length=ps.length)
  (y:∀(c:Value)(A:Around)(outer:b9)(s:Shared)(H:Hp)(vs:List V)(Q:VK)(E:XK),jQ k (A.deeper (envOfC qual (qp st) s.heap.objs.size f c))->sp vs H Q E->
   ∃t,yU (gE g8 P w K mg base N qual (qp st) f c A outer s H E).nox (kZ st) t/\t { nx:=λ_ a=>Q .non a,rt:=Q } (start N vs) H):kh P w K mg base g8 (k+1) f fd ps sp:=by
 obtain⟨e,b,kV,doc,pm,an,c,ct,o,rfl,lk,d⟩:=F.ex;refine U4 lk d S len λA outer s H vs Q E r p=>?_;obtain⟨t,h,q⟩:=y c A outer s H vs Q E r p;exact⟨t,h.nox,q⟩
def gv.binds {st:Stmt}(F:gv K x qual st f fd)
  (h:∀(kV doc pm:Value)(an:cf)(c ct:Value)(us:bR),us.length=ps.length->bindArgs (fnOf x qual (QW st) (kZ st) (qp st) .none kV doc pm an c ct) ⟨us,[]⟩=pure (ps.zip us)):Binds K fd ps []:=by
 obtain⟨a,d,kV,doc,pm,an,c,ct,o,rfl,lk,H⟩:=F.ex;exact .all (h kV doc pm an c ct)
def ee {st:Stmt}{a:Value}{o an:cf}{kV doc pm C ct:Value}(l:K.lookup f=some ⟨a,o,.func (fnOf x qual (QW st) (kZ st) (qp st) .none kV doc pm an C ct),osl⟩)
  (c:codeIn K C qual=true)(k:keepIn K (.ref f)=true):gv K x qual st f (fnOf x qual (QW st) (kZ st) (qp st) .none kV doc pm an C ct):=⟨⟨a,o,kV,doc,pm,an,C,ct,osl,rfl,l,c⟩,k⟩
end
def eg {A:Around}{k:Nat}(h:jQ k A):A.units+1<cLine:=Nat.lt_of_le_of_lt (Nat.add_le_add_left (by decide:1<=64) _) h.units
section
variable {κ:Type}[DecidableEq κ]
noncomputable def kQ (kvs:List (κ×V))(k:κ):Option V:=(kvs.find? λK=>decide (K.1=k)).map (·.2)
noncomputable def putK (kvs:List (κ×V))(k:κ)(v:V):List (κ×V):=
 if (kvs.any λK=>decide (K.1=k))=true then kvs.map (λK=>if K.1=k then(K.1,v) else K) else kvs++[(k,v)]
def GJ {p:κ×V}{r:List (κ×V)}{k:κ}(e:p.1=k):kQ (p::r) k=some p.2:=by simp[kQ,find?_cons,e]
def GC {p:κ×V}{r:List (κ×V)}{k:κ}(e:¬p.1=k):kQ (p::r) k=kQ r k:=by simp[kQ,find?_cons,e]
theorem Oy (k:κ):∀kvs:List (κ×V),(kvs.any λK=>decide (K.1=k))=(kQ kvs k).isSome
 |[]=>rfl|p::r=>by
  rw[any_cons]
  by_cases e:p.1=k
  ·simp only[GJ e,aB e,Bool.true_or,isSome_some]
  ·rw[GC e,az e,Bool.false_or];exact Oy k r
def HH (kvs:List (κ×V))(k:κ)(v:V):(putK kvs k v).length<=kvs.length+1:=by
 unfold putK
 split
 ·rw[ag];omega
 ·rw[aq,a9,length_nil];omega
def DW {kvs:List (κ×V)}{k:κ}(v:V)(h:kQ kvs k=none):putK kvs k v=kvs++[(k,v)]:=by
 unfold putK;rw[Oy,h];exact ar (by decide)
def KV.val {kvs:List (κ×V)}{vs:List (κ×Value)}(r:KV kvs vs)(k:κ):Qv (kQ kvs k) (valueAt vs k):=by
 unfold KV at r
 induction r with
 |nil=>exact True.intro|@cons p q ps Q h t i=>
  obtain⟨H,a⟩:=h
  by_cases e:p.1=k
  ·have E:q.1=k:=H.symm.trans e
   have b:valueAt (q::Q) k=some q.2:=by simp[valueAt,find?_cons,E]
   rw[GJ e,b];exact a
  ·have E:¬q.1=k:=λz=>e (H.trans z)
   have b:valueAt (q::Q) k=valueAt Q k:=by simp[valueAt,find?_cons,E]
   rw[GC e,b];exact i
theorem KV.any {kvs:List (κ×V)}{vs:List (κ×Value)}(r:KV kvs vs)(k:κ):(kvs.any λK=>decide (K.1=k))=vs.any λK=>decide (K.1=k):=by
 unfold KV at r
 induction r with
 |nil=>rfl|cons h t i=>rw[any_cons,any_cons,i,h.1]
def KV.repl {kvs:List (κ×V)}{vs:List (κ×Value)}(r:KV kvs vs)(k:κ){y:V}(a:RelV y u):
  KV (kvs.map λK=>if K.1=k then(K.1,y) else K) (vs.map λK=>if K.1=k then(K.1,u) else K):=by
 unfold KV at r ⊢
 induction r with
 |nil=>exact .nil|@cons p q ps Q h t i=>
  rw[aX,aX];refine .cons ?_ i;obtain⟨H,b⟩:=h
  by_cases e:p.1=k
  ·rw[ah e,ah (H.symm.trans e)];exact⟨H,a⟩
  ·rw[ar e,ar (λz=>e (H.trans z))];exact⟨H,b⟩
def KV.put {kvs:List (κ×V)}{vs:List (κ×Value)}(r:KV kvs vs)(k:κ){y:V}(a:RelV y u):KV (putK kvs k y) (stored vs k u):=by
 unfold putK stored;rw[r.any k]
 by_cases e:(vs.any λK=>decide (K.1=k))=true
 ·rw[ah e,ah e];exact r.repl k a
 ·rw[ar e,ar e];exact Paired.snoc r ⟨rfl,a⟩
theorem KV.length {kvs:List (κ×V)}{vs:List (κ×Value)}(r:KV kvs vs):kvs.length=vs.length:=Paired.length r
end
def U8 {k:Key}(r:RelV (kV k) u):(kM P w).is k u=true:=by
 cases k with
 |inl i=>obtain⟨t,e⟩:=(show ∃t,u=Value.int i t from r);subst e;exact Ff P w i t|inr x=>obtain⟨t,e⟩:=(show ∃t,u=Value.str x t from r);subst e;exact HL P w x t
theorem PQ:∀{K:List Key}{us:bR},Vals (K.map kV) us->ItemsAre (kM P w) K us
 |[],_,r=>by rw[map_nil]at r;cases r;exact .nil|k::K,_,r=>by
  rw[aX]at r;cases r with
  |cons h t=>exact .cons (U8 h) (PQ t)
abbrev KT (H:Hp):List (List Key×V)->List (List Key×Addr×Value)->Prop:=Paired λp q=>p.1=q.1/\H q.2.1=some (.tup (p.1.map kV))/\RelV p.2 q.2.2
def KT.val {kvs:List (List Key×V)}{xs:List (List Key×Addr×Value)}(r:KT H kvs xs)(k:List Key):Qv (kQ kvs k) ((atKey xs k).map (·.2)):=by
 induction r with
 |nil=>exact True.intro|@cons p q ps Q h t i=>
  obtain⟨a,_,c⟩:=h
  by_cases e:p.1=k
  ·have E:q.1=k:=a.symm.trans e
   have b:atKey (q::Q) k=some q.2:=by simp[atKey,find?_cons,E]
   rw[GJ e,b];exact c
  ·have E:¬q.1=k:=λz=>e (a.trans z)
   have b:atKey (q::Q) k=atKey Q k:=by simp[atKey,find?_cons,E]
   rw[GC e,b];exact i
section
def NY {u:HO}(ok:jZ P w H h)(e:Rd H a u):jk P w H h a u:=e.ok ok
def U6 (ok:jZ P w H h)(e:Rd H a (.dK kvs)):kvs.length<=sizeLine/\(a==sysModules)=false/\∃vs,KV kvs vs/\h.DictOf (kM P w) a vs:=
 show jk P w H h a (.dK kvs) from NY ok e
def NV (ok:jZ P w H h)(e:H a=some (.dK kvs)):kvs.length<=sizeLine/\(a==sysModules)=false/\∃vs,KV kvs vs/\h.DictOf (kM P w) a vs:=U6 ok (.inl e)
def NG {K:List Key}(ok:jZ P w H h)(e:H a=some (.tup (K.map kV))):(tupleKind (kM P w)).is h K a:=by
 obtain⟨_,i,r,o,d,c,n,b⟩:=(show jk P w H h a (.tup (K.map kV)) from ok a _ e)
 exact⟨o,i.toArray,n,d,c.1,b,by simpa using PQ r⟩
def N3 {kvs:List (List Key×V)}(ok:jZ P w H h)(e:Rd H a (.dT kvs)):kvs.length<=sizeLine/\(a==sysModules)=false/\
  ∃xs,KT H kvs xs/\h.DictOfH (tupleKind (kM P w)) a xs:=by
 obtain⟨z,y,xs,r,o,E,s,n,j,g,f,d⟩:=(show jk P w H h a (.dT kvs) from NY ok e)
 refine⟨z,y,xs,r,o,E,s,n,j,g,f,λx b=>?_,d⟩;have all:∀{l:List (List Key×V)}{m:List (List Key×Addr×Value)},KT H l m->∀x∈m,(tupleKind (kM P w)).is h x.1 x.2.1:=by
  intro l m q
  induction q with
  |nil=>intro x b;exact nomatch b
  |@cons p q ps Q c t i=>
   intro x b;rcases cn.mp b with e|b
   ·subst e
    exact NG ok (by rw[<- c.1];exact c.2.1)
   ·exact i x b
 exact all r x b
end
def Y0 (H:Hp)(a:Addr)(y:V)(r:Option V):Prop:=
 (∃kvs k,Rd H a (.dK kvs)/\y=kV k/\r=kQ kvs k)∨∃kvs k b,Rd H a (.dT kvs)/\y=.ref b/\H b=some (.tup (k.map kV))/\r=kQ kvs k
theorem Y0.k {k:Key}(e:H a=some (.dK kvs)):Y0 H a (kV k) (kQ kvs k):=.inl ⟨kvs,k,.inl e,rfl,rfl⟩
section
variable {y:V}{o:Option V}{A:Around}
def Inv.big (I:Inv X pins σ H s):sysModules<s.heap.objs.size:=by
 have h:mainGlobals<s.heap.objs.size:=(I.mod.glob.keeps I.bk).lt;exact lt_trans (by decide) h
def EO (j:A.units+1<cLine)(I:Inv X pins σ H s)(g:Y0 H a y (some v))(i:RelV y u)(h:∀c s',Inv X pins σ H s'->RelV v c->Q c s'):
  wpAny (model X.prog X.w) A (getItem (.ref a) u) Q E s:=by
 rcases g with ⟨kvs,k,e,f,l⟩|⟨kvs,k,b,e,f,q,l⟩
 ·subst f
  obtain⟨z,hd,vs,rel,dd⟩:=U6 I.hok e;obtain⟨c,hw,r⟩:=Qv.some_of (v:=v) (o:=valueAt vs k) (by rw[l];exact rel.val k)
  exact wpAny_getItem_of (U8 i) dd.mapOf hw (h c _ (I.tok _) r)
 ·subst f
  cases (show u=Value.ref b from i)
  obtain⟨z,hd,xs,rel,dd⟩:=N3 I.hok e;obtain⟨c,hw,r⟩:=Qv.some_of (v:=v) (o:=(atKey xs k).map (·.2)) (by rw[l];exact rel.val k)
  obtain⟨p,n,d⟩:=Option.map_eq_some_iff.mp hw;refine wpAny_getItem_heap (tupleKind_room_in1 j) (NG I.hok q) dd n ?_;rw[d];exact h c _ (I.tok _) r
def Am {h':Heap}{ob:HO}(I:Inv X pins σ H s)(M:Ww (H a))(h:Heap.SameBut a s.heap h')(he:∃q,h'.get? a=some q)(new:jk X.prog X.w (upd H a ob) h' a ob):
  Inv X pins σ (upd H a ob) { s with heap:=h',toks:=t' }:=
 I.write (x:=a) (e:=a) M (.inl rfl) (λb q c z=>(h.2 b c).trans z) he new
def eh {H:Hp}{h':Heap}{vs:List (Key×Value)}(z:kvs.length<=sizeLine)(hd:(a==sysModules)=false)(rel:KV kvs vs)(dd:h'.DictOf (kM P w) a vs):
  jk P w H h' a (.dK kvs):=⟨z,hd,vs,rel,dd⟩
end
def Tu (i:Expr):Prop:=∀o I,subscripted i false o I=operate [o,I] (getItem o I)
def BS {prog:Program}{A:Around}{value slice:Expr}{T id:String}
  (l:typeLookup (.type T) "__getitem__"=pure (some (.builtin id)))(f:Tu slice)
  (h:wpAny (model prog w) A (eval value env) (λo b=>wpAny (model prog w) A (eval slice env) (λi S=>S.TypeIs o T/\wpAny (model prog w) A (getItem o i) Q E S) E b) E s):
  wpAny (model prog w) A (eval (.Subscript value slice pos) env) Q E s:=by
 refine Subscript_ (wpAny_mono h (λo b d=>wpAny_mono d (λi S H=>?_) λ_ _ x=>x) λ_ _ x=>x);obtain⟨e,H⟩:=H;unfold subscriptTail;refine ck ?_;rw[getitemInPython_of_ne e.not_modules];refine ck (wpAny_specialOf e l ?_);have fin:wpAny (model prog w) A (subscripted slice false o i) (λr a=>wpAny (model prog w) A (letTemporaryGo value o r >>= λ_=>pure r) Q E a) E S:=by
  rw[f o i];exact wpAny_operating (wpAny_mono H (λr a c=>ck (wpAny_letTemporaryGo (cm c))) λ_ _ x=>x)
 first
  |exact cm (ck fin)
  |exact ck (cm (ck fin))
  |exact ck fin
def HG {y:V}{o:Option V}(I:Inv X pins σ H s)(g:Y0 H a y o):s.TypeIs (.ref a) "dict":=by
 rcases g with ⟨kvs,k,e,_,_⟩|⟨kvs,k,b,e,_,_,_⟩
 ·obtain⟨_,_,vs,_,dd⟩:=U6 I.hok e
  exact dd.typeIs
 ·obtain⟨_,_,xs,_,dd⟩:=N3 I.hok e
  exact dd.typeIs
noncomputable def ej (t ty:TE):TE:=λσ H Q=>t σ H λx H1=>ty σ H1 λy h=>∃a v,x=.ref a/\Y0 h a y (some v)/\Q v h
section
variable {o i:Expr}{td ty:TE}
def en (f:X.A.units+1<cLine)(l:PE X o td)(hi:PE X i ty)(j:Tu i):PE X (.Subscript o i pos) (ej td ty):=by
 intro pins s σ H Q I h;refine BS PySem.F.slot_dict_getitem.lookup j (qa (l pins s σ H _ I h) λu s1 ⟨x,H1,p,d,e⟩=>qa (hi pins s1 σ H1 _ p e) λz s2 ⟨y,t,b,c,a,v,ex,g,q⟩=>?_);subst ex;obtain rfl:u=Value.ref a:=d;exact⟨HG b g,EO f b g c λw s3 n r=>⟨v,t,n,r,q⟩⟩
end
def DL (h:Heap)(b:sysModules<h.objs.size):jk P w H (h.push { cls:=.type "dict",data:=.dict #[] }) h.objs.size (.dK []):=
 ⟨zero_le _,beq_eq_false_iff_ne.mpr (Ne.symm (aK b)),[],.nil,Heap.DictOf.new h⟩
def eu:TE:=λ_ H Q=>∀p,H p=none->Q (.ref p) (upd H p (.dK []))
section
def C5:PE X (.Dict [] [] pos) eu:=λpins s σ H Q I h=>
 wpAny_Dict_empty ⟨.ref s.heap.objs.size,_,I.laid (a:=s.heap.objs.size) (o:=.dK []) (t':=s.toks) (λ_ _ q=>af _ q) (av _) (DL s.heap I.big),rfl,h _ (I.hok.fresh (av _))⟩
end
noncomputable def wb (env:Env):List (Str×NameKind)->List (Str×Addr)->List (Str×Addr)
 |[],acc=>acc|(n,k)::r,acc=>wb env r (if k==.free then(n,(env.cells.lookup n).getD 0)::acc else acc)
def Co (f:Str×NameKind->List (Str×Addr)->Sem (ForInStep (cb)))
  (hf:∀n k r,f (n,k) r=if (k==NameKind.free)=true then(do let c <- cellOf env n;pure (ForInStep.yield ((n,c)::r))) else pure (ForInStep.yield r)):
  ∀(names:List (Str×NameKind))(acc:cb),(∀y∈names,y.2=.free->∃c,env.cells.lookup y.1=some c)->(forIn names acc f:Sem (cb))=pure (wb env names acc):=by
 intro names
 induction names with
 |nil=>intro acc _;rfl|cons y r i=>
  intro acc b;obtain⟨n,k⟩:=y;rw[forIn_cons,hf];unfold wb;have h:=i (if k==.free then(n,(env.cells.lookup n).getD 0)::acc else acc) (λy g=>b y (ao _ g))
  by_cases a:k=.free
  ·subst a
   obtain⟨c,d⟩:=b (n,.free) ax rfl;have e:cellOf env n=pure c:=by unfold cellOf;rw[d]
   have H:List.lookup n env.cells=some c:=d;simp only[e,H,Option.getD_some,bE,if_true]at h ⊢;exact h
  ·have j:(k==NameKind.free)=false:=by simpa using a
   simp only[j,bb,if_false]at h ⊢;exact h
def PH (h:∀y∈scope.names,y.2=.free->∃c,env.cells.lookup y.1=some c):closureFor scope env=pure (wb env scope.names []):=by
 unfold closureFor;dsimp only;rw[Co _ (λn k r=>rfl) scope.names [] h]
 rfl
theorem Jt {n:Str}:∀(names:List (Str×NameKind))(acc:cb),(n,c)∈wb env names acc->(n,c)∈acc∨((n,NameKind.free)∈names/\c=(env.cells.lookup n).getD 0)
 |[],acc,h=>.inl h|(x,k)::r,acc,h=>by
  unfold wb at h;rcases Jt r _ h with h|⟨d,a⟩
  ·by_cases H:k=.free
   ·subst H
    simp only[bE,if_true]at h;rcases cn.mp h with e|h
    ·cases e;exact .inr ⟨ax,rfl⟩
    ·exact .inl h
   ·have b:(k==NameKind.free)=false:=by simpa using H
    simp only[b,bb,if_false]at h;exact .inl h
  ·exact .inr ⟨ao _ d,a⟩
theorem Gf {n:Str}:∀(names:List (Str×NameKind))(acc:cb),((n,NameKind.free)∈names∨(acc.lookup n).isSome=true)->((wb env names acc).lookup n).isSome=true
 |[],acc,h=>by
  rcases h with h|h
  ·cases h
  ·exact h
 |(x,k)::r,acc,h=>by
  unfold wb;refine Gf r _ ?_;rcases h with h|h
  ·rcases cn.mp h with e|h
   ·cases e
    right
    simp
   ·exact .inl h
  ·right
   by_cases H:(k==NameKind.free)=true
   ·rw[ah H,lookup_cons]
    cases a:n==x
    ·exact h
    ·rfl
   ·rw[ar H];exact h
theorem Vs {n:Str}:∀(names:List (Str×NameKind))(k:Nat)(acc:cb),(n,c)∈cellsFrom k names acc->(n,c)∈acc∨(k<=c/\(n,NameKind.cell)∈names)
 |[],_,_,h=>.inl h|(x,q)::r,k,acc,h=>by
  unfold cellsFrom at h
  by_cases a:(q==NameKind.cell)=true
  ·rw[ah a]at h
   have H:q=.cell:=by simpa using a
   rcases Vs r _ _ h with h|⟨d,b⟩
   ·rcases cn.mp h with e|h
    ·cases e;subst H;exact .inr ⟨av _,ax⟩
    ·exact .inl h
   ·exact .inr ⟨by omega,ao _ b⟩
  ·rw[ar a]at h
   rcases Vs r _ _ h with h|⟨d,b⟩
   ·exact .inl h
   ·exact .inr ⟨d,ao _ b⟩
theorem Vv:∀(names:List (Str×NameKind))(k:Nat)(acc:cb),(∀n c,(n,c)∈acc->c<k)->(∀n N c,(n,c)∈acc->(N,c)∈acc->n=N)->∀n N c,(n,c)∈cellsFrom k names acc->(N,c)∈cellsFrom k names acc->n=N
 |[],_,_,_,hi,n,N,c,h,h'=>hi n N c h h'|(x,q)::r,k,acc,l,hi,n,N,c,h,h'=>by
  unfold cellsFrom at h h'
  by_cases a:(q==NameKind.cell)=true
  ·rw[ah a]at h h'
   refine Vv r (k+1) ((x,k)::acc) (λm d hm=>?_) (λm M d hm H=>?_) n N c h h'
   ·rcases cn.mp hm with e|hm
    ·cases e;exact bj _
    ·exact a8 (l m d hm)
   ·rcases cn.mp hm with e|hm
    ·rcases cn.mp H with E|H
     ·cases e;cases E;rfl
     ·cases e;exact absurd (l M _ H) (aT _)
    ·rcases cn.mp H with E|H
     ·cases E;exact absurd (l m _ hm) (aT _)
     ·exact hi m M d hm H
  ·rw[ar a]at h h'
   exact Vv r k acc l hi n N c h h'
theorem Vj {n:Str}:∀(names:List (Str×NameKind))(h:Heap)(acc:cb),(n,c)∈cellsFrom h.objs.size names acc->(n,c)∈acc∨(pushCells h names).IsCell c none
 |[],_,_,q=>.inl q|(x,k)::r,h,acc,q=>by
  unfold cellsFrom at q;unfold pushCells
  by_cases H:(k==NameKind.cell)=true
  ·rw[ah H]at q ⊢
   have:=Vj r (h.push { cls:=.type "cell",data:=.cell none }) ((x,h.objs.size)::acc) (by rw[bf];exact q)
   rcases this with z|z
   ·rcases cn.mp z with e|z
    ·cases e
     exact .inr ⟨_,pushCells_keeps r _ _ _ (au _ rfl),rfl⟩
    ·exact .inl z
   ·exact .inr z
  ·rw[ar H]at q ⊢
   exact Vj r h acc q
def LA {A:Around}{globals:Addr}{cl:cb}{Q:Env->Shared->Prop}
  (h:Q { scope,locals:=s.heap.objs.size,globals,cells:=cellsFrom (s.heap.objs.size+1) scope.names cl,qual,func:=none,code:=env.code,frame:=env.frame,builtins:=env.builtins }
   { s with heap:=pushCells (s.heap.push { cls:=.type "dict",data:=.dict #[] }) scope.names }):
  wpAny M A (newFunctionEnv scope globals cl [] qual none .none (some env)) Q E s:=by
 simp only[newFunctionEnv,isSome_some,if_true];refine ck (wpAny_alloc ?_);refine ck (wpAny_layCells _ (λname kind cells=>by cases H:kind==NameKind.cell<;>simp[H]) _ _ _ _ ?_)
 rw[show({ s with heap:=s.heap.push { cls:=.type "dict",data:=.dict #[] } }:Shared).heap.objs.size=s.heap.objs.size+1 from bf ..]
 rw[forIn_nil];exact ck (cm (cm h))
def yg (X:Cx)(N:bV)(scope:Scope)(s:Shared)(H:Hp)(fp:bS)(xe:bX):Cx where
 prog:=X.prog
 w:=X.w
 K:=X.K
 mg:=X.mg
 base:=X.base
 A:=X.A
 N:=N
 s0:=s
 H0:=H
 env:={ scope:=relabel scope X.env,locals:=s.heap.objs.size,globals:=X.env.globals,cells:=cellsFrom (s.heap.objs.size+1) scope.names (wb X.env scope.names []),qual:=X.env.qual,func:=none,code:=X.env.code,frame:=X.env.frame,builtins:=X.env.builtins }
 outer:=X.stack
 stack:=X.stack
 ex:=fp
 fn:=λx=>scope.names.lookup x==some .local || scope.names.lookup x==some .cell
 calm:=X.calm
 pn:=[]
 xe:=xe
structure ZL (X:Cx)(scope:Scope):Prop where
 kind:scope.kind=.function
 nd:(scope.names.map (·.1)).Nodup
 free:∀y∈scope.names,y.2=.free->X.env.kindOf y.1=some .cell∨X.env.kindOf y.1=some .free
theorem Yc {k:α}:∀{l:List (Str×α)},(l.map (·.1)).Nodup->(x,k)∈l->l.lookup x=some k
 |(y,q)::r,nd,h=>by
  rw[aX,List.nodup_cons]at nd;rw[lookup_cons];rcases cn.mp h with e|h
  ·cases e;simp
  ·have ne:(x==y)=false:=by
    rw[beq_eq_false_iff_ne];intro e
    apply nd.1
    rw[<- e];exact List.mem_map_of_mem (f:=(·.1)) h
   rw[ne];exact Yc nd.2 h
def Vn {k:NameKind}(h:(relabel scope env).names.lookup x=some k):scope.names.lookup x=some k∨(k=.cell/\scope.names.lookup x=some .free/\env.kindOf x=some .cell):=by
 unfold relabel at h;dsimp only at h;generalize scope.names=names at h ⊢
 induction names with
 |nil=>cases h|cons y r i=>
  obtain⟨n,q⟩:=y;rw[aX]at h;have split:(if (q==NameKind.free&&env.scope.kind==.function&&env.kindOf n==some .cell)=true then(n,NameKind.cell) else(n,q)).1=n:=by split<;>rfl
  rw[lookup_cons]at h ⊢;dsimp only at h;rw[split]at h;cases a:x==n with
  |false=>rw[a]at h;exact i h|true=>
   rw[a]at h;have e:x=n:=aM.mp a;subst e
   by_cases H:(q==NameKind.free&&env.scope.kind==.function&&env.kindOf x==some .cell)=true
   ·rw[ah H]at h
    simp only[ak,aM]at H;cases h
    right
    exact⟨rfl,by rw[H.1.1],H.2⟩
   ·rw[ar H]at h
    left
    exact h
section
def Inv.capt (I:Inv X pins σ H s)(S:ZL X scope)(h:(x,NameKind.free)∈scope.names):∃c,X.env.cells.lookup x=some c:=I.ok.has x (S.free _ h rfl)
def KD (I:Inv X pins σ H s)(S:ZL X scope)(h:(x,c)∈cellsFrom (s.heap.objs.size+1) scope.names (wb X.env scope.names [])):
  ((x,NameKind.free)∈scope.names/\X.env.cells.lookup x=some c/\c<s.heap.objs.size)∨((x,NameKind.cell)∈scope.names/\s.heap.objs.size<c/\∀h0:Heap,h0.objs.size=s.heap.objs.size+1->(pushCells h0 scope.names).IsCell c none):=by
 rcases Vs _ _ _ h with b|⟨b,d⟩
 ·left
  rcases Jt _ _ b with z|⟨z,e⟩
  ·cases z
  ·obtain⟨C,a⟩:=I.capt S z
   rw[a]at e;have E:c=C:=e;subst E;obtain⟨v,q⟩:=I.cell x c a;exact⟨z,a,q.lt⟩
 ·right
  refine⟨d,b,λh0 f=>?_⟩;have h':=h;rw[<- f]at h';rcases Vj _ h0 _ h' with z|z
  ·exfalso
   rcases Jt _ _ z with z|⟨z,e⟩
   ·cases z
   ·obtain⟨C,a⟩:=I.capt S z
    rw[a]at e;have E:c=C:=e;subst E;obtain⟨v,q⟩:=I.cell x c a;exact aT _ (aE (a8 q.lt) b)
  ·exact z
def C2 {xe:bX}{f:St}(I:Inv X pins σ H s)(S:ZL X scope)(hf:∀b∈fp,wV X pins H b)(A:∀b∈fp,b<s.heap.objs.size)(hl:f.length=N.length)
  (hs:∀(j:Nat)(x:Str)(v:V),N[j]? =some x->f[j]? =some (some v)->(x,NameKind.free)∈scope.names/\∃i:Nat,X.N[i]? =some x/\σ[i]? =some (some v)):
  Inv (yg X N scope s H fp xe) [] f H { s with heap:=pushCells (s.heap.push { cls:=.type "dict",data:=.dict #[] }) scope.names }:=by
 have M:∀b o,s.heap.get? b=some o->(pushCells (s.heap.push { cls:=.type "dict",data:=.dict #[] }) scope.names).get? b=some o:=λb o e=>pushCells_keeps _ _ _ _ (af _ e);have T:(s.heap.push { cls:=.type "dict",data:=.dict #[] }).objs.size=s.heap.objs.size+1:=bf ..;have l:∀{x:Str}{c:Addr},(yg X N scope s H fp xe).env.cells.lookup x=some c->(x,c)∈cellsFrom (s.heap.objs.size+1) scope.names (wb X.env scope.names []):=λh=>PySem.mem_of_lookup h;have L:∀{x:Str},((yg X N scope s H fp xe).env.kindOf x=some .cell∨(yg X N scope s H fp xe).env.kindOf x=some .free)->∃c,(yg X N scope s H fp xe).env.cells.lookup x=some c:=λ {x} h=>by
  refine Option.isSome_iff_exists.mp (cellsFrom_some _ _ _ ?_);have two:scope.names.lookup x=some .cell∨scope.names.lookup x=some .free:=by
   rcases h with h|h
   ·rcases Vn h with z|⟨_,z,_⟩
    ·exact .inl z
    ·exact .inr z
   ·rcases Vn h with z|⟨z,_⟩
    ·exact .inr z
    ·cases z
  rcases two with z|z
  ·exact .inl z
  ·exact .inr (Gf _ _ (.inl (PySem.mem_of_lookup z)))
 have exP:∀b∈fp,∀x c,(yg X N scope s H fp xe).env.cells.lookup x=some c->c≠b:=λb a x c e=>by
  rcases KD I S (l e) with ⟨_,q,_⟩|⟨_,q,_⟩
  ·exact(hf b a).2.2.2.2.1 x c q
  ·intro z;subst z;exact aT _ (lt_trans q (A _ a))
 refine⟨⟨I.ok.mod,S.kind,I.ok.glob,I.ok.blt,av _,λx y c h1 J=>?_,λx h=>L h,λx c g h=>?_,I.ok.hd,I.ok.frames,.inl rfl,λb a=>⟨?_,exP b a⟩,I.bs,bq I.ok.bsz I.sz,λb o e a=>?_,λb a z=>?_,I.stack,I.stkFree⟩,
  rfl,I.bare,Un.kept M,⟨λ_=>none,?_,λj x v h1 J h3=>?_⟩,λx c e=>?_,I.fresh,λx c e=>?_,λp hp=>?_,I.hok.kept M,hl⟩
 ·refine Vv _ _ _ (λn c h=>?_) (λn n' c h h'=>?_) x y c (l h1) (l J)
  ·rcases Jt _ _ h with z|⟨z,e⟩
   ·cases z
   ·obtain⟨c',D⟩:=I.capt S z
    rw[D]at e;have P:c=c':=e;subst P;obtain⟨v,q⟩:=I.cell n c D;exact a8 q.lt
  ·rcases Jt _ _ h with z|⟨z,e⟩
   ·cases z
   ·rcases Jt _ _ h' with Z|⟨Z,P⟩
    ·cases Z
    ·obtain⟨d,hd⟩:=I.capt S z
     obtain⟨d',B⟩:=I.capt S Z;rw[hd]at e;rw[B]at P;have K:c=d:=e;have e2:c=d':=P;subst K;subst e2;exact I.ok.inj _ _ _ hd B
 ·rcases KD I S (l h) with ⟨z,_,_⟩|⟨_,z,_⟩
  ·exfalso
   have K:=Yc S.nd z;have t:(scope.names.lookup x==some .local || scope.names.lookup x==some .cell)=true:=g;rw[K]at t;cases t
  ·exact bD z
 ·exact aK (A b a)
 ·obtain⟨_,_,_,E,_⟩:=hf b a
  rcases E with E|E
  ·exact I.ok.noex b o e E
  ·exact absurd (aE (aH e) (bq I.ok.bsz E)) (aT _)
 ·obtain⟨_,J,h3,_⟩:=hf b a
  rcases cn.mp (I.stkSub b z) with e|e
  ·exact J e
  ·exact h3 e
 ·exact(Heap.Ns.new s.heap (.type "dict")).keeps (pushCells_keeps _ _)
 ·obtain⟨g,i,K,e2⟩:=hs j x v h1 J
  obtain⟨m,hn,Y⟩:=I.loc;have Q:XI X.env.scope x:=.inr (S.free _ g rfl);obtain⟨u,r,lk⟩:=Y i x v K e2 Q;refine⟨u,r,.inr ?_⟩;have w:(yg X N scope s H fp xe).env.kindOf x=some .cell∨(yg X N scope s H fp xe).env.kindOf x=some .free:=by
   rcases h3 with z|z|z
   ·exfalso
    rcases Vn z with Z|⟨Z,_⟩
    ·rw[Yc S.nd g]at Z;cases Z
    ·cases Z
   ·exact .inl z
   ·exact .inr z
  refine⟨w,?_⟩;obtain⟨c,D⟩:=L w;refine⟨c,D,?_⟩;rcases KD I S (l D) with ⟨_,q,_⟩|⟨q,_,_⟩
  ·rcases lk with ⟨z,_⟩|⟨_,c',C,cell⟩
   ·exfalso
    rcases S.free _ g rfl with k|k<;>(rw[k]at z;cases z)
   ·rw[q]at C;cases C
    exact cell.keeps M
  ·exfalso
   have a1:=Yc S.nd g;have a2:=Yc S.nd q;rw[a1]at a2;cases a2
 ·rcases KD I S (l e) with ⟨_,q,_⟩|⟨_,_,q⟩
  ·obtain⟨v,z⟩:=I.cell x c q
   exact⟨v,z.keeps M⟩
  ·exact⟨_,q _ T⟩
 ·rcases KD I S (l e) with ⟨_,q,_⟩|⟨_,q,_⟩
  ·exact I.freeC x c q
  ·exact I.hok.fresh (bD q)
 ·have U:p∈([]:bT):=hp
  cases U
end
abbrev gK:=Addr->St->Hp->(St->Hp->Prop)->Prop
noncomputable def Wn (elt:Expr)(gens:List Comprehension)(sc:Scope)(pos:Pos)(d:Nat)(acc:Value)(env:Env)(k:Sem Fin):Sem Fin:=
 match gens[d+1]? with
 |some g'=>do
  let x <- eval g'.iter env
  standAt g'.iter.pos
  let x <- foldedSetIterable g'.iter env x
  let _ <- runOwn (.compStart (.ListComp elt gens sc pos) (d+1) (<- holding [x] (pyIter x)) acc env) env
  k
 |none=>do
  (do let _ <- call (.builtin "list.append") [acc,<- eval elt env])
  k
theorem ew {iter:Expr}{d:Nat}{it acc:Value}(h:gens[d]? =some ⟨tg,iter,ifs,0⟩)(H:∀g',gens[d+1]? =some g'->g'.is_async=0):
  compTurn (.ListComp elt gens sc pos) d it acc env=(do
   standAt iter.pos
   match <- pyNext it with
   |none=>pure (.done .next)|some v=>
    letOwnedTupleGo tg it v
    assign tg env v
    let mut ok:=true
    for c in ifs do
     if ok then ok <- isTrue c env (eval c env)
    if ok then Wn elt gens sc pos d acc env (again (.compLoop (.ListComp elt gens sc pos) d it acc env))
    else again (.compLoop (.ListComp elt gens sc pos) d it acc env)):=by
 unfold compTurn Wn;dsimp only;rw[h];cases hn:gens[d+1]? with
 |none=>rfl|some g'=>
  obtain⟨t',i,f,a⟩:=g';have e:a=0:=H _ hn;subst e
  rfl
def Qu (X:Cx)(ifs:bY)(t:TT):Prop:=
 ∀(pins:bT)(s:Shared)(σ:St)(H:Hp)(Q:Bool->Hp->Prop),Inv X pins σ H s->t σ H Q->
  wpAny (model X.prog X.w) X.A (forIn ifs true λc r=>if r=true then do let ok <- isTrue c X.env (eval c X.env);pure (ForInStep.yield ok) else pure (ForInStep.yield r)) (TP X pins σ Q) X.xe s
noncomputable def ez:TT:=λ_ H Q=>Q true H
def DI:Qu X [] ez:=λpins s σ H Q I h=>wpAny_tests_nil ⟨H,I,h⟩
def D9 {c:Expr}{t:TT}(h:PT X c t):Qu X [c] t:=λpins s σ H Q I hw=>wpAny_tests_one (h pins s σ H Q I hw)
def gu (X:Cx)(elt:Expr)(gens:List Comprehension)(sc:Scope)(pos:Pos)(d:Nat)(t:gK):Prop:=
 ∀(pins:bT)(s:Shared)(σ:St)(H:Hp)(D:Addr)(Q:St->Hp->Prop)(k:Sem Fin)(Q':Fin->Shared->Prop)(E:bX),Inv X pins σ H s->t D σ H Q->
  (∀s' a h,Inv X pins a h s'->Q a h->wpAny (model X.prog X.w) X.A k Q' E s')->wpAny (model X.prog X.w) X.A (Wn elt gens sc pos d (.ref D) X.env k) Q' E s
def eA (t:TE):gK:=λD σ H Q=>t σ H λy H1=>∃ys,H1 D=some (.lst ys)/\ys.length<sizeLine/\Q σ (upd H1 D (.lst (ys++[y])))
def Wa (J:It)(g:TG)(ti:TT)(tm:gK):gK:=λD σ H Q=>∃W:Nat->Nat->St->Hp->Prop,(∃m,W 0 m σ H)/\∀i m σ H,W i m σ H->
 (J.stop i H/\Q σ H)∨(J.go i H/\∃N:St->Hp->Prop,(∀c h,N c h->∃M,M<m/\W (i+1) M c h)/\∀x h,J.yld i H x h->g x σ h λa H1=>ti a H1 λb d=>if b=true then tm D a d N else N a d)
def eB (w:TI)(g:TG)(ti:TT)(tm:gK):gK:=λD σ H Q=>w σ H λJ H1=>Wa J g ti tm D σ H1 Q
section
variable {iter:Expr}{d:Nat}
def YK (h:∀e s,X.xe e s->False){t:Sem α}{Q':α->Shared->Prop}(H:wpAny (model X.prog X.w) X.A t Q' X.xe s'):wpAny (model X.prog X.w) X.A t Q' E s':=
 wpAny_mono H (λ_ _ z=>z) λe s' z=>(h e s' z).elim
def D7 {t:TE}(x:∀e s,X.xe e s->False)(he:PE X elt t)(g:gens[d+1]? =none):gu X elt gens sc pos d (eA t):=by
 intro pins s σ H D Q k Q' E I h b;unfold Wn;rw[g];refine ck (ck (YK x (qa (he pins s σ H _ I h) λu s1 ⟨y,H1,f,r,ys,c,z,a⟩=>?_)));refine ck (YK x (qa (Oc pins s1 σ H1 (.ref D) [y] (.ref D) [u] (λ_ l=>Q σ l) f rfl (.cons r .nil) ⟨D,ys,y,rfl,rfl,c,z,a⟩) λ_ s2 ⟨_,j,i,_,q⟩=>?_));exact cm (b s2 σ j i q)
def AU {g:TG}{ti:TT}{tm:gK}(Y:∀e s,X.xe e s->False)(Z:X.calm=true)(hg:gens[d]? =some ⟨tg,iter,ifs,0⟩)(ha:∀g',gens[d+1]? =some g'->g'.is_async=0)(M:PG X tg g)(hi:Qu X ifs ti)(hm:gu X elt gens sc pos d tm)
  {Q:St->Hp->Prop}{J:It}{it:Addr}{B:Nat->Heap->Prop}(T:Turn X.prog X.w X.K tg J fp it B)(I:Inv X pins σ H s)(st:B 0 s.heap)(hf:∀b∈fp,wV X pins H b)
  (h:Wa J g ti tm D σ H Q){R:Result->Shared->Prop}(hR:∀s' a c,Inv X pins a c s'->Q a c->R (.ok .next) s'):
  codeAny (model X.prog X.w) X.A (.compLoop (.ListComp elt gens sc pos) d (.ref it) (.ref D) X.env) R s:=by
 obtain⟨W,⟨m0,w0⟩,turn⟩:=h;have S:∀{c:Hp},(∀b∈fp,c b=none)->∀b∈fp,wV X pins c b:=λhn b l=>⟨hn b l,(hf b l).2⟩;refine codeAny_loop rfl (λn s'=>∃i a c,Inv X pins a c s'/\B i s'.heap/\(∀b∈fp,c b=none)/\W i n a c) (λn s3 hI=>?_) m0 ⟨0,σ,H,I,st,λb l=>(hf b l).1,w0⟩;show wpAny _ X.A ((compTurn (.ListComp elt gens sc pos) d (.ref it) (.ref D) X.env).onRaise (λx=>do noteFrame x X.env;theTreesLotGoes x)) _ _ s3
 refine wpAny_noted ?_;rw[ew hg ha];refine ck (wpAny_standAt ?_);obtain⟨i,j,C,I3,ZE,z,w3⟩:=hI;rcases turn i n j C w3 with ⟨stop,qn⟩|⟨go,N,hN,step⟩
 ·refine ck (qa (T.done X rfl rfl rfl Z i pins s3 j C _ I3 (S z) ZE stop) λr s4 ⟨L,I4⟩=>?_)
  subst L;exact cm (hR s4 j C I4 qn)
 ·refine ck (qa (T.item X rfl rfl rfl Z i pins s3 j C _ I3 (S z) ZE go) λr s4 ⟨u,L,h4⟩=>?_)
  subst L;refine ck (qa h4 λ_ s5 ⟨x,H5,I5,r5,y5,p,P⟩=>?_);have U:=I5.pinned (S P) (T.obj _ _ p);have back:∀{f:St}{q:Hp}{t:Shared},Inv X (pins++K1 fp s5.heap) f q t->N f q->∃m,m<n/\∃i a c,Inv X pins a c t/\B i t.heap/\(∀b∈fp,c b=none)/\W i m a c:=λ {f q t} v n7=>by
   obtain⟨m',hm,w7⟩:=hN f q n7;refine⟨m',hm,i+1,f,q,v.unpinned,T.keep _ _ _ p λb l o e=>(v.pin (b,o) (a6 _ (a6 _ (Gh l e)))).1,λb l=>?_,w7⟩;obtain⟨o,e,d⟩:=T.obj _ _ p b l;exact(v.pin (b,o) (a6 _ (a6 _ (Gh l e)))).2.1
  refine ck (YK Y (qa (M _ s5 j H5 x u _ U r5 (step x H5 y5)) λ_ s6 ⟨y,H6,I6,q6⟩=>?_));refine ck (YK Y (qa (hi _ s6 y H6 _ I6 q6) λok t ⟨q,v,E⟩=>?_));cases ok with
  |false=>exact cm ⟨rfl,back v E⟩|true=>
   rw[ah rfl]at E;exact hm _ t y q D _ _ _ _ v E λs8 σ8 H8 I8 q8=>cm ⟨rfl,back I8 q8⟩
def NX {g:TG}{ti:TT}{tm:gK}(i:∀e s,X.xe e s->False)(j:X.calm=true)(c:gens[d]? =some ⟨tg,iter,ifs,0⟩)(o:∀g',gens[d+1]? =some g'->g'.is_async=0)(t:PG X tg g)(hi:Qu X ifs ti)(hm:gu X elt gens sc pos d tm)
  {Q:St->Hp->Prop}{J:It}{it:Addr}{n:Nat->Heap->Prop}(T:Turn X.prog X.w X.K tg J fp it n)(I:Inv X pins σ H s)(st:n 0 s.heap)(hf:∀b∈fp,wV X pins H b)
  (h:Wa J g ti tm D σ H Q){R:Result->Shared->Prop}(p:∀s' a f,Inv X pins a f s'->Q a f->R (.ok .next) s'):
  codeAny (model X.prog X.w) X.A (.compStart (.ListComp elt gens sc pos) d (.ref it) (.ref D) X.env) R s:=by
 have loop:=AU i j c o t hi hm T I st hf h p;refine codeAny_of_tree ?_;show wpAny _ _ ((compStart (.ListComp elt gens sc pos) d (.ref it) (.ref D) X.env).onRaise (λx=>do noteFrame x X.env;standAt theWindowsPlace)) _ _ s
 refine wpAny_notedAt ?_;unfold compStart;have l:(clausesOf (.ListComp elt gens sc pos))[d]? =some ⟨tg,iter,ifs,0⟩:=c;rw[l];show wpAny _ _ (ask >>= _) _ _ s;refine ck (wpAny_askSetting (wpAny_ite ?_))
 split
 ·first
   |exact ck (cm (cm (And.intro rfl loop)))
   |exact cm (And.intro rfl loop)
 ·first
   |exact ck (wpAny_rule (ck (wpAny_standAt (ck (T.self _ 0 s _ _ st (cm (And.intro rfl loop)))))))
   |(refine ck (wpAny_rule ?_);show wpAny _ _ (standAt iter.pos >>= _) _ _ s;exact ck (wpAny_standAt (ck (T.self _ 0 s _ _ st (cm (And.intro rfl loop))))))
def Cc {w:TI}{g:TG}{ti:TT}{tm:gK}(b:∀e s,X.xe e s->False)(n:X.calm=true)(c:gens[d+1]? =some ⟨tg,iter,ifs,0⟩)(o:∀g',gens[d+2]? =some g'->g'.is_async=0)(hw:PI X tg iter w)(t:PG X tg g)(hi:Qu X ifs ti)(hm:gu X elt gens sc pos (d+1) tm)
  (j:∀x,foldedSetIterable iter X.env x=pure x:=by intro _;rfl):gu X elt gens sc pos d (eB w g ti tm):=by
 intro pins s σ H D Q k Q' E I h l;unfold Wn;rw[c];refine ck (YK b (qa (hw pins s σ H _ I h) λv s1 r=>?_));refine ck (wpAny_standAt (ck (wpAny_of_eq (j v) ?_)));refine ck (wpAny_holding (YK b (qa r λi s2 p=>?_)));obtain⟨it,fp,A,J,B,e,u,T,g7,f2,q⟩:=p;subst e;refine ck (wpAny_runOwn (NX b n c o t hi hm T u g7 f2 q λs' a z y f=>?_));exact l s' a z y f
end
noncomputable def ZZ (nl:Nat)(cap:bU)(σ:St):St:=List.replicate nl none++cap.map λi=>(σ[i]?).join
noncomputable def Jc (M N:bV)(scope:Scope)(nl:Nat)(cap:bU):Bool:=
 N.length==nl+cap.length&&(List.range cap.length).all λk=>match N[nl+k]?,M[cap.getD k 0]? with
  |some x,some y=>x==y&&scope.names.any λz=>z.1==x&&z.2==NameKind.free|_,_=>false
def DS {M:bV}{nl:Nat}(h:Jc M N scope nl cap=true):(ZZ nl cap σ).length=N.length/\
  ∀(j:Nat)(x:Str)(v:V),N[j]? =some x->(ZZ nl cap σ)[j]? =some (some v)->(x,NameKind.free)∈scope.names/\∃i:Nat,M[i]? =some x/\σ[i]? =some (some v):=by
 unfold Jc at h;rw[ak,aM]at h;obtain⟨p,n⟩:=h;refine⟨by unfold ZZ;simp[p],λj x v t E=>?_⟩
 unfold ZZ at E
 by_cases b:j<nl
 ·rw[ai (by simpa using b),bA]at E
  split at E<;>cases E
 ·rw[ay (by simpa using b),bG,aw]at E
  cases c:cap[j-nl]? with
  |none=>rw[c]at E;cases E|some i=>
   rw[c]at E;have e:(σ[i]?).join=some v:=aD E;have f:j-nl<cap.length:=(cq.mp c).1;have H:=cx.mp n (j-nl) (cu.mpr f);have q:nl+(j-nl)=j:=by omega
   rw[q,t]at H;have r:cap.getD (j-nl) 0=i:=by rw[ae,c];rfl
   rw[r]at H;cases hm:M[i]? with
   |none=>rw[hm]at H;cases H|some y=>
    rw[hm]at H;rw[ak,aM]at H;obtain⟨l,g⟩:=H;subst l;obtain⟨z,d,a⟩:=List.any_eq_true.mp g;rw[ak,aM,aM]at a;refine⟨?_,i,hm,?_⟩
    ·obtain⟨u,Z⟩:=z
     obtain⟨a1,a2⟩:=a;cases a1;cases a2;exact d
    ·cases s:σ[i]? with
     |none=>rw[s]at e;cases e|some o=>rw[s]at e;cases o with
      |none=>cases e|some w=>cases e;rfl
noncomputable abbrev kf:Value->Shared->Prop:=λ_ _=>False
def Xf (K:Frag)(w:TI)(g:TG)(ti:TT)(tm:gK)(nl:Nat)(cap:bU):TE:=λσ H Q=>w σ H λJ h=>∀D,h D=none->K.lookup D=none->Wa J g ti tm D (ZZ nl cap σ) (upd h D (.lst [])) λ_ a=>Q (.ref D) a
section
variable {iter:Expr}{wi:TI}{g:TG}{ti:TT}{tm:gK}{nl:Nat}
def OS (hc:X.calm=true)(S:ZL X sc)(t:Jc X.N N sc nl cap=true)(ha:∀g',gs[0]? =some g'->g'.is_async=0)(hw:PI X tg iter wi)
  
  (hin:∀s H fp,Inv X pins σ H s->(∀b∈fp,wV X pins H b)->PG (yg X N sc s H fp kf) tg g/\Qu (yg X N sc s H fp kf) ifs ti/\gu (yg X N sc s H fp kf) elt (⟨tg,iter,ifs,0⟩::gs) sc pos 0 tm)
  {Q:VK}(I:Inv X pins σ H s)(h:Xf X.K wi g ti tm nl cap σ H Q)
  {use:Option (Value->Sem Unit)}{Q':bX}
  (r:∀(D C:Addr)(s':Shared)(n:Hp)(m:b8),Inv X pins σ n s'->Q (.ref D) n->s'.heap.Ns C m->n C=none->C≠X.env.locals->X.s0.heap.objs.size<=C->(∀x c,X.env.cells.lookup x=some c->c≠C)->(∀q∈X.pn++pins,q.1≠C)->
   compPost (model X.prog X.w) X.A X.xe use Q' (.ref D) C (.ok .next) s')
  (hs:∀x,foldedSetIterable iter X.env x=pure x:=by intro _;rfl):
  wpAny (model X.prog X.w) X.A (comprehension (.ListComp elt (⟨tg,iter,ifs,0⟩::gs) sc pos) sc X.env p (newList []) false (eval iter X.env) use) Q' X.xe s:=by
 have j:∀y∈sc.names,y.2=.free->∃c,X.env.cells.lookup y.1=some c:=λy Y e=>I.ok.has _ (S.free y Y e);refine wpAny_comprehension_free (use:=use) rfl hs (PH j) S.kind (λy Y e=>by
  obtain⟨y1,y2⟩:=y;have e':y2=.local:=e;subst e';exact Yc S.nd Y) ?_
 refine qa (hw pins s σ H _ I h) λv s1 h1=>qa h1 λitv s2 h2=>?_;obtain⟨it,fp,tn,J,M,e,I2,T,g7,f2,q2⟩:=h2;subst e;refine wpAny_newObj_type ?_;have hD:M s2.heap.objs.size=none:=I2.fresh;have hKD:X.K.lookup s2.heap.objs.size=none:=by
  cases ek:X.K.lookup s2.heap.objs.size with
  |none=>rfl|some o=>exact absurd (aH (I2.kIn _ _ ek)) (aT _)
 have U:=q2 _ hD hKD;generalize Z:({ s2 with heap:=s2.heap.push { cls:=.type "list",data:=.seq ([]:bR).toArray } }:Shared)=s3
 have f:s3={ s2 with heap:=s2.heap.push { cls:=.type "list",data:=.seq ([]:bR).toArray } }:=Z.symm
 have i:Inv X pins σ (upd M s2.heap.objs.size (.lst [])) s3:=by
  rw[f];exact I2.laid (t':=s2.toks) (λb u e=>af _ e) (av _) ⟨by simp,[],0,.nil,au _ rfl⟩
 have B:∀b∈fp,∃o,s2.heap.get? b=some o:=λb a=>let ⟨o,e,_⟩:=T.obj 0 _ g7 b a;⟨o,e⟩
 have P:s3.heap.objs.size=s2.heap.objs.size+1:=by rw[f];exact bf ..
 have ZE:tn 0 s3.heap:=T.keep _ _ _ g7 λb a o e=>by rw[f];exact af _ e
 have E:∀b∈fp,b<s3.heap.objs.size:=λb a=>by
  obtain⟨o,e⟩:=B b a;rw[P];exact a8 (aH e)
 have L:∀b∈fp,wV X pins (upd M s2.heap.objs.size (.lst [])) b:=λb a=>by
  obtain⟨o,e⟩:=B b a;refine⟨?_,(f2 b a).2⟩;rw[qv (aK (aH e))];exact(f2 b a).1
 generalize upd M s2.heap.objs.size (.lst [])=H3 at i L U;generalize s2.heap.objs.size=D at U ⊢;refine LA ?_;obtain⟨cl,cs⟩:=DS t (σ:=σ);have I4:=C2 (xe:=kf) i S L E cl cs;obtain⟨hgt,hi,hm⟩:=hin s3 H3 fp i L;refine NX (X:=yg X N sc s3 H3 fp kf) (gens:=⟨tg,iter,ifs,0⟩::gs) (d:=0) (λ_ _ z=>z) hc rfl ha hgt hi hm T I4 (T.keep _ _ _ ZE λb a o e=>pushCells_keeps _ _ _ _ (af _ e)) (λb a=>?_) U λs' σ' n l q'=>?_
 ·obtain⟨g1,g2,g3,g4,g5,g6⟩:=L b a
  refine⟨g1,aK (E b a),λz=>?_,.inl a,(I4.ok.exf b a).2,λp hp=>absurd (show p∈([]:bT) from hp) (by simp)⟩
  rcases cn.mp (i.stkSub b z) with e|e
  ·exact g2 e
  ·exact g3 e
 ·have I5:Inv X pins σ n s':=i.call' l.os l.base l.hok l.bare λb a=>by
   obtain⟨g1,g2,g3,g4,g5,g6⟩:=L b a;exact⟨g4,g2,g5,g6⟩
  obtain⟨m,hn,_⟩:=l.loc;refine r D _ s' n m I5 q' hn l.free (bp i.lt) i.sz (λx c e z=>?_) λq hq z=>?_
  ·obtain⟨v,w⟩:=i.cell x c e
   exact aT _ (aE w.lt (by rw[z];exact av _))
  ·exact aT _ (aE (aH (i.pin q hq).1) (by rw[z];exact av _))
def B7 (d:X.calm=true)(S:ZL X sc)(p:Jc X.N N sc nl cap=true)(i:∀g',gs[0]? =some g'->g'.is_async=0)(hw:PI X tg iter wi)
  (n:∀s H fp,PG (yg X N sc s H fp kf) tg g/\Qu (yg X N sc s H fp kf) ifs ti/\gu (yg X N sc s H fp kf) elt (⟨tg,iter,ifs,0⟩::gs) sc pos 0 tm)
  (c:∀x,foldedSetIterable iter X.env x=pure x:=by intro _;rfl):PE X (.ListComp elt (⟨tg,iter,ifs,0⟩::gs) sc pos) (Xf X.K wi g ti tm nl cap):=by
 intro pins s σ H Q I h;rw[eval_ListComp];refine OS (use:=none) d S p i hw (λs H fp _ _=>n s H fp) I h (λD C s' w m v q hn u t r l j=>?_) c;exact⟨m,hn,λh' a=>⟨.ref D,w,v.turned (t':=s'.toks) (λb o f e=>(a.2 b f).trans e) u t (.inr r) l j,rfl,q⟩⟩
def FR {p:Pos}{c:Pos}(Q:X.N.Nodup)(j:X.N[i]? =some x)(r:X.env.scope.names.lookup x=some .local)
  (w:swapsWith (.ListComp elt (⟨tg,iter,ifs,0⟩::gs) sc pos) (some (.Name x p)) c.line X.env=pure true)
  (L:X.calm=true)(S:ZL X sc)(d:Jc X.N N sc nl cap=true)(P:∀g',gs[0]? =some g'->g'.is_async=0)(hw:PI X tg iter wi)
  (n:∀s H fp,PG (yg X N sc s H fp kf) tg g/\Qu (yg X N sc s H fp kf) ifs ti/\gu (yg X N sc s H fp kf) elt (⟨tg,iter,ifs,0⟩::gs) sc pos 0 tm)
  (E:∀x,foldedSetIterable iter X.env x=pure x:=by intro _;rfl):PS X (.Assign [.Name x p] (.ListComp elt (⟨tg,iter,ifs,0⟩::gs) sc pos) c) (Xw (Xf X.K wi g ti tm nl cap) (Xk i)):=by
 intro pins s σ H D I h;rw[exec_Assign_Name_used _ _ _ _ w];refine ck (wpAny_standAt (ck ?_));show wpAny _ X.A (do let _ <- comprehension (.ListComp elt (⟨tg,iter,ifs,0⟩::gs) sc pos) sc X.env _ (newList []) false (eval iter X.env) (some (assign (.Name x p) X.env))) _ _ s
 refine ck (wpAny_mono (OS (use:=some (assign (.Name x p) X.env)) (Q':=λ_ s'=>SP X pins D .next s') L S d P hw (λs H fp _ _=>n s H fp) I h (λy C s' H' m I' q hn Y u U t T=>?_) E) (λ_ s' J=>cm (cm J)) λ_ _ e=>e);show wpAny _ X.A (assign (.Name x p) X.env (.ref y)) _ _ _;refine wpAny_assign_Name (Oe I' Q j (.inl r) (v:=.ref y) rfl (λs2 I2 ⟨a,B,Z⟩=>?_) (.inr r));have l:C≠a:=by
  rcases Z with e|e
  ·rw[e];exact u
  ·exactλz=>t x a e z.symm
 refine⟨m,hn.sameBut B l,λh' f=>⟨_,H',I2.turned (t':=s2.toks) (λb o M e=>(f.2 b M).trans e) Y u (.inr U) t T,q⟩⟩
end
end L2
namespace Mi
open PySem PySem.Spec PyProof.Rows L2
inductive W where
 |non|bl (b:Bool)|int (i:Int)|str (x:Str)|tup (xs:List W)|ref (n:Nat)
 |clo (k:Nat) (xs:List W) (P:Obj->Addr->Obj->List V->Prop)
 |xc (x:Str)
inductive O where
 |lst (xs:List W)|ro (xs:List W)|dct (kvs:List (Key×W))
 |tab (q:Str) (P:Addr)
noncomputable def O.mut:O->Bool
 |.ro _=>false|_=>true
noncomputable abbrev Hx:=List O
noncomputable abbrev En:=List (Option W)
inductive R (α:Type) where
 |ok (a:α) (A:Hx)|exc (x:Str) (A:Hx)|bad
noncomputable def R.bind {β:Type}(r:R α)(f:α->Hx->R β):R β:=match r with
 |.ok a A=>f a A|.exc x A=>.exc x A|.bad=>.bad
def R.post (r:R α)(P:α->Hx->Prop)(E:Str->Hx->Prop):Prop:=match r with
 |.ok a A=>P a A|.exc x A=>E x A|.bad=>False
noncomputable def R.nox (r:R α):R α:=match r with
 |.ok a A=>.ok a A|.exc _ _=>.bad|.bad=>.bad
section
variable {β:Type}{r:R α}{f:α->Hx->R β}{P Q:α->Hx->Prop}{P':β->Hx->Prop}{E F:Str->Hx->Prop}
def zV {a:α}{A:Hx}:(R.ok a A).bind f=f a A:=rfl
def OJ {A:Hx}:(R.exc x A:R α).bind f=.exc x A:=rfl
def qf:(r.bind f).post P' E↔r.post (λa A=>(f a A).post P' E) E:=by cases r<;>exact Iff.rfl
def qK (h:r.post P E)(H:∀a A,P a A->Q a A)(b:∀x A,E x A->F x A):r.post Q F:=by
 cases r with
 |ok a A=>exact H _ _ h|exc x A=>exact b _ _ h|bad=>exact h
end
abbrev Ev:=En->Hx->R W
inductive zee (K:Frag)(H:Hp)(R:List V->Prop)(v:V):Prop
 |mk (a:Addr) (vs:List V) (e:v=.ref a) (h:qS K H a vs) (r:R vs)
inductive zd8 (H:Hp)(P:Obj->Addr->Obj->List V->Prop)(R:List V->Prop)(v:V):Prop
 |mk (a:Addr) (ob:Obj) (u:HO) (c:Addr) (oc:Obj) (uc:HO) (vs:List V) (e:v=.ref a) (h1:H a=some (.frz ob u)) (h2:H c=some (.frz oc uc)) (p:P ob c oc vs) (r:R vs)
inductive zdC (R:V->Prop)(Rs:List V->Prop)(vs:List V):Prop
 |mk (v:V) (r:List V) (e:vs=v::r) (h:R v) (t:Rs r)
mutual
noncomputable def RV (K:Frag)(φ:bS)(H:Hp):W->V->Prop
 |.non,v=>v=.non|.bl b,v=>v=.bl b|.int i,v=>v=.int i|.str x,v=>v=.str x|.tup ws,v=>zee K H (zK K φ H ws) v|.ref n,v=>∃a,v=.ref a/\φ[n]? =some a|.clo _ ws P,v=>zd8 H P (zK K φ H ws) v|.xc x,v=>∃a o u C,v=.ref a/\H a=some (.frz o u)/\o.cls=.ref C/\nsIn K mainGlobals x=some (some (.ref C))
noncomputable def zK (K:Frag)(φ:bS)(H:Hp):List W->List V->Prop
 |[],vs=>vs=[]|w::ws,vs=>zdC (RV K φ H w) (zK K φ H ws) vs
end
structure Le (K:Frag)(φ:bS)(H:Hp)(φ':bS)(H':Hp):Prop where
 ex:∀(n:Nat)(a:Addr),φ[n]? =some a->φ'[n]? =some a
 tp:∀a vs,qS K H a vs->qS K H' a vs
 fr:∀a o,H a=some o->(∀n:Nat,φ[n]?≠some a)->H' a=some o
 nw:∀(n:Nat)(a:Addr),φ'[n]? =some a->φ[n]? =some a∨H a=none
 st:∀a,H' a=none->H a=none
 fz:∀a o u,H a=some (.frz o u)->H' a=some (.frz o u)
def Le.refl {K φ H}:Le K φ H φ H:=⟨λ_ _ h=>h,λ_ _ h=>h,λ_ _ h _=>h,λ_ _ h=>.inl h,λ_ h=>h,λ_ _ _ h=>h⟩
def Le.trans {K φ H φ1 H1 φ2 H2}(a:Le K φ H φ1 H1)(b:Le K φ1 H1 φ2 H2):Le K φ H φ2 H2 where
 ex:=λn x h=>b.ex n x (a.ex n x h)
 tp:=λn x h=>b.tp n x (a.tp n x h)
 fr:=λc o h n=>b.fr c o (a.fr c o h n) λk e=>by
  rcases a.nw k c e with e|e
  ·exact n k e
  ·rw[h]at e;cases e
 nw:=λn c e=>by
  rcases b.nw n c e with e|e
  ·exact a.nw n c e
  ·exact .inr (a.st c e)
 st:=λc e=>a.st c (b.st c e)
 fz:=λc o u h=>b.fz c o u (a.fz c o u h)
def Le.off {K φ H φ' H'}(l:Le K φ H φ' H'){o:HO}(h:H D=some o)(n:∀k:Nat,φ[k]?≠some D):H' D=some o/\∀k:Nat,φ'[k]?≠some D:=
 ⟨l.fr D o h n,λk e=>by
  rcases l.nw k D e with e|e
  ·exact n k e
  ·rw[h]at e;cases e⟩
section
variable {K:Frag}{φ':bS}{H':Hp}
structure QF (K:Frag)(φ:bS)(H:Hp)(φ':bS)(H':Hp):Prop where
 ex:∀(n:Nat)(a:Addr),φ[n]? =some a->φ'[n]? =some a
 tp:∀a vs,qS K H a vs->qS K H' a vs
 fz:∀a o u,H a=some (.frz o u)->H' a=some (.frz o u)
mutual
theorem RV.monoW (l:QF K φ H φ' H'):∀{w:W}{v:V},RV K φ H w v->RV K φ' H' w v
 |.non,_,h=>h|.bl _,_,h=>h|.int _,_,h=>h|.str _,_,h=>h|.tup ws,_,⟨a,vs,e,t,r⟩=>⟨a,vs,e,l.tp _ _ t,zK.monoW l r⟩|.ref n,_,⟨a,e,f⟩=>⟨a,e,l.ex _ _ f⟩|.clo _ ws P,_,⟨a,ob,u,c,g,uc,vs,e,d,b,i,r⟩=>⟨a,ob,u,c,g,uc,vs,e,l.fz _ _ _ d,l.fz _ _ _ b,i,zK.monoW l r⟩|.xc x,_,⟨a,o,u,C,e,d,b⟩=>⟨a,o,u,C,e,l.fz _ _ _ d,b⟩
theorem zK.monoW (l:QF K φ H φ' H'):∀{ws:List W}{vs:List V},zK K φ H ws vs->zK K φ' H' ws vs
 |[],_,h=>h|w::ws,_,⟨v,r,e,h,t⟩=>⟨v,r,e,RV.monoW l h,zK.monoW l t⟩
end
def RV.mono {w:W}(h:RV K φ H w v)(l:Le K φ H φ' H'):RV K φ' H' w v:=RV.monoW ⟨l.ex,l.tp,l.fz⟩ h
def zK.mono {w:List W}{v:List V}(h:zK K φ H w v)(l:Le K φ H φ' H'):zK K φ' H' w v:=zK.monoW ⟨l.ex,l.tp,l.fz⟩ h
structure km (K:Frag)(D:Addr)(φ:bS)(H:Hp)(φ':bS)(H':Hp):Prop where
 ex:∀(n:Nat)(a:Addr),φ[n]? =some a->φ'[n]? =some a
 tp:∀a vs,qS K H a vs->qS K H' a vs
 fr:∀a o,a≠D->H a=some o->(∀n:Nat,φ[n]?≠some a)->H' a=some o
 nw:∀(n:Nat)(a:Addr),φ'[n]? =some a->φ[n]? =some a∨H a=none
 st:∀a,H' a=none->H a=none
 fz:∀a o u,H a=some (.frz o u)->H' a=some (.frz o u)
def km.refl {D}:km K D φ H φ H:=⟨λ_ _ h=>h,λ_ _ h=>h,λ_ _ _ h _=>h,λ_ _ h=>.inl h,λ_ h=>h,λ_ _ _ h=>h⟩
def Le.toD {D}(l:Le K φ H φ' H'):km K D φ H φ' H':=⟨l.ex,l.tp,λa o _ h n=>l.fr a o h n,l.nw,l.st,l.fz⟩
def km.trans {D φ1 H1 φ2 H2}(a:km K D φ H φ1 H1)(b:km K D φ1 H1 φ2 H2):km K D φ H φ2 H2 where
 ex:=λn x h=>b.ex n x (a.ex n x h)
 tp:=λn x h=>b.tp n x (a.tp n x h)
 fr:=λc o ne h n=>b.fr c o ne (a.fr c o ne h n) λk e=>by
  rcases a.nw k c e with e|e
  ·exact n k e
  ·rw[h]at e;cases e
 nw:=λn c e=>by
  rcases b.nw n c e with e|e
  ·exact a.nw n c e
  ·exact .inr (a.st c e)
 st:=λc e=>a.st c (b.st c e)
 fz:=λc o u h=>b.fz c o u (a.fz c o u h)
def RV.monoD {D}{w:W}(h:RV K φ H w v)(l:km K D φ H φ' H'):RV K φ' H' w v:=RV.monoW ⟨l.ex,l.tp,l.fz⟩ h
def zK.monoD {D}{w:List W}{v:List V}(h:zK K φ H w v)(l:km K D φ H φ' H'):zK K φ' H' w v:=zK.monoW ⟨l.ex,l.tp,l.fz⟩ h
theorem zK.length:∀{ws:List W}{vs:List V},zK K φ H ws vs->ws.length=vs.length
 |[],_,h=>by cases h;rfl|w::ws,_,⟨v,r,e,_,t⟩=>by subst e;simp[zK.length t]
theorem zK.get:∀{ws:List W}{vs:List V}{i:Nat}{w:W},zK K φ H ws vs->ws[i]? =some w->∃v,vs[i]? =some v/\RV K φ H w v
 |[],_,_,_,_,e=>by simp at e|w::ws,_,0,_,⟨v,r,e,h,t⟩,q=>by subst e;simp at q;subst q;exact⟨v,by simp,h⟩|w::ws,_,i+1,x,⟨v,r,e,h,t⟩,q=>by
  subst e;obtain⟨y,b,a⟩:=zK.get (i:=i) (w:=x) t (by simpa using q)
  exact⟨y,by simpa using b,a⟩
theorem zK.append:∀{ws us:List W}{vs xs:List V},zK K φ H ws vs->zK K φ H us xs->zK K φ H (ws++us) (vs++xs)
 |[],_,_,_,h,t=>by cases h;exact t|w::ws,_,_,_,⟨v,r,e,h,t⟩,T=>by subst e;exact⟨v,r++_,rfl,h,zK.append t T⟩
def zK.one {w:W}(h:RV K φ H w v):zK K φ H [w] [v]:=⟨v,[],rfl,h,rfl⟩
def zK.nil:zK K φ H [] []:=rfl
def zK.cons {w:W}{v:V}{ws:List W}{vs:List V}(h:RV K φ H w v)(t:zK K φ H ws vs):zK K φ H (w::ws) (v::vs):=⟨v,vs,rfl,h,t⟩
theorem zK.set {w:W}(q:RV K φ H w v):∀{ws:List W}{vs:List V}(i:Nat),zK K φ H ws vs->zK K φ H (ws.set i w) (vs.set i v)
 |[],_,_,h=>by cases h;exact rfl|_::_,_,0,⟨a,r,e,h,t⟩=>by subst e;exact⟨v,r,rfl,q,t⟩|_::_,_,i+1,⟨a,r,e,h,t⟩=>by subst e;exact⟨a,_,rfl,h,zK.set q i t⟩
theorem zK.drop:∀{ws:List W}{vs:List V}(n:Nat),zK K φ H ws vs->zK K φ H (ws.drop n) (vs.drop n)
 |[],_,n,h=>by cases h;rw[List.drop_nil,List.drop_nil];exact zK.nil|_::_,_,0,h=>by simpa using h|_::_,_,n+1,⟨v,r,e,h,t⟩=>by subst e;simpa using zK.drop n t
theorem zK.take:∀{ws:List W}{vs:List V}(n:Nat),zK K φ H ws vs->zK K φ H (ws.take n) (vs.take n)
 |[],_,n,h=>by cases h;rw[List.take_nil,List.take_nil];exact zK.nil|_::_,_,0,h=>by rw[List.take_zero,List.take_zero];exact zK.nil|_::_,_,n+1,⟨v,r,e,h,t⟩=>by subst e;exact⟨v,_,rfl,h,zK.take n t⟩
theorem zK.erase:∀{ws:List W}{vs:List V}(n:Nat),zK K φ H ws vs->zK K φ H (ws.eraseIdx n) (vs.eraseIdx n)
 |[],_,n,h=>by cases h;rw[List.eraseIdx_nil,List.eraseIdx_nil];exact zK.nil|_::_,_,0,⟨v,r,e,h,t⟩=>by subst e;simpa using t|_::_,_,n+1,⟨v,r,e,h,t⟩=>by subst e;exact⟨v,_,rfl,h,zK.erase n t⟩
theorem zK.ints:∀{ns:bQ}{vs:List V},zK K φ H (ns.map W.int) vs↔vs=ns.map V.int
 |[],vs=>Iff.rfl|n::ns,vs=>by
  constructor
  ·rintro⟨v,r,e,h,t⟩
   rw[e,(show v=V.int n from h),zK.ints.mp t];rfl
  ·intro e
   exact⟨V.int n,ns.map V.int,e,rfl,zK.ints.mpr rfl⟩
def Y8 (K:Frag)(H:Hp)(a:Addr)(xs:List V):Prop:=
 (∃ob,H a=some (.frz ob (.lst xs)))∨
  ∃(o:Obj) (its:Array Value) (n:Nat),K.lookup a=some o/\o.cls=.type "list" /\ o.dict=none/\o.data=.seq its n/\its.size<=sizeLine/\Vals xs its.toList
def Y8.sq (h:Y8 K H a xs):jy K H a xs:=by
 rcases h with h|h
 ·exact .inl (.inr h)
 ·exact .inr h
inductive TabAt (H:Hp)(q:Str)(cv:Value):Prop
 |mk (c:Addr) (oc:Obj) (u:HO) (vs:Array Value) (t:Tok) (e:cv=.ref c) (h:H c=some (.frz oc u)) (d:oc.data=.fields vs/\vs[1]? =some (.str q t))
def Wk (H:Hp)(q:Str)(ps:Array Value):Prop:=TriplesOk ps.toList/\∀pos cv,codeAmong pos ps.toList=some cv->TabAt H q cv
def Wk.mono {q:Str}{ps:Array Value}(h:Wk H q ps)(l:∀a o u,H a=some (.frz o u)->H' a=some (.frz o u)):Wk H' q ps:=
 ⟨h.1,λpos cv e=>by obtain⟨c,b,u,vs,t,g,f,d⟩:=h.2 pos cv e;exact⟨c,b,u,vs,t,g,l _ _ _ f,d⟩⟩
def OR (K:Frag)(φ:bS)(H:Hp)(a:Addr):O->Prop
 |.lst ws=>∃vs,H a=some (.lst vs)/\zK K φ H ws vs|.ro ws=>∃vs,Y8 K H a vs/\zK K φ H ws vs|.dct kvs=>∃us,H a=some (.dK us)/\us.map (·.1)=kvs.map (·.1)/\zK K φ H (kvs.map (·.2)) (us.map (·.2))|.tab q P=>a=P/\∃ps,H a=some (.tbl ps)/\Wk H q ps
structure zT (K:Frag)(φ:bS)(A:Hx)(H:Hp):Prop where
 len:φ.length=A.length
 inj:∀(i j:Nat)(a:Addr)(o o':O),φ[i]? =some a->φ[j]? =some a->A[i]? =some o->A[j]? =some o'->o.mut=true->o'.mut=true->i=j
 ob:∀(n:Nat)(o:O),A[n]? =some o->∃a,φ[n]? =some a/\OR K φ H a o
variable {A:Hx}
def OR.there {o:O}(h:OR K φ H a o)(m:o.mut=true):∃u,H a=some u/\(∀xs,u≠.tup xs)/\(∀ob v,u≠.frz ob v):=by
 cases o with
 |lst ws=>obtain⟨vs,e,_⟩:=h;exact⟨_,e,λ_ z=>(by cases z),λ_ _ z=>(by cases z)⟩|ro ws=>cases m|dct kvs=>obtain⟨vs,e,_⟩:=h;exact⟨_,e,λ_ z=>(by cases z),λ_ _ z=>(by cases z)⟩|tab q P=>obtain⟨_,vs,e,_⟩:=h;exact⟨_,e,λ_ z=>(by cases z),λ_ _ z=>(by cases z)⟩
def GV {o:HO}{vs:List V}(h:qS K H a vs)(n:∀xs,H b≠some (.tup xs))(N:∀ob u,H b≠some (.frz ob u)):qS K (upd H b o) a vs:=by
 rcases h with (h|⟨ob,h⟩)|h
 ·exact .inl (.inl (by rw[qv];exact h;intro e;subst e;exact n _ h))
 ·exact .inl (.inr ⟨ob,by rw[qv];exact h;intro e;subst e;exact N _ _ h⟩)
 ·exact .inr h
theorem Le.upd {o:HO}{k:Nat}(c:φ[k]? =some b)(n:∀xs,H b≠some (.tup xs))(N:∀ob u,H b≠some (.frz ob u)):Le K φ H φ (upd H b o) where
 ex:=λ_ _ h=>h
 tp:=λ_ _ h=>GV h n N
 fr:=λa u h z=>by
  rw[qv];exact h;intro e;subst e;exact z k c
 nw:=λ_ _ h=>.inl h
 st:=λa h=>by
  by_cases e:a=b
  ·subst e;rw[jN]at h;cases h
  ·rw[qv e]at h;exact h
 fz:=λa ob u h=>by
  rw[qv];exact h;intro e;subst e;exact N _ _ h
def Le.new {p:Addr}{o:HO}(b:H p=none):Le K φ H φ (L2.upd H p o) where
 ex:=λ_ _ h=>h
 tp:=λ_ _ h=>GV h (λxs z=>by rw[b]at z;cases z) (λ_ _ z=>by rw[b]at z;cases z)
 fr:=λa u h z=>by
  rw[qv];exact h;intro e;subst e;rw[b]at h;cases h
 nw:=λ_ _ h=>.inl h
 st:=λa h=>by
  by_cases e:a=p
  ·subst e;rw[jN]at h;cases h
  ·rw[qv e]at h;exact h
 fz:=λa ob u h=>by
  rw[qv];exact h;intro e;subst e;rw[b]at h;cases h
def Le.alloc {p:Addr}{o:HO}(b:H p=none):Le K φ H (φ++[p]) (L2.upd H p o) where
 ex:=λn a h=>by
  have:=(cq.mp h).1
  rw[ai this];exact h
 tp:=(Le.new (φ:=φ) b).tp
 fr:=(Le.new (K:=K) (φ:=φ) b).fr
 nw:=λn a h=>by
  by_cases hn:n < φ.length
  ·rw[ai hn]at h;exact .inl h
  ·rw[ay (by omega)]at h
   have e:a=p:=by
    have:=mem_of_getElem? h
    simpa using this
   subst e;exact .inr b
 st:=(Le.new (K:=K) (φ:=φ) b).st
 fz:=(Le.new (K:=K) (φ:=φ) b).fz
def Le.ofD {o:HO}(b:H D=none)(l:km K D φ (L2.upd H D o) φ' H'):Le K φ H φ' H' where
 ex:=l.ex
 tp:=λa vs h=>l.tp a vs ((Le.new (K:=K) (φ:=φ) b).tp a vs h)
 fr:=λa u h n=>by
  have ne:a≠D:=by rintro rfl;rw[b]at h;cases h
  exact l.fr a u ne (by rw[qv ne];exact h) n
 nw:=λn a e=>by
  rcases l.nw n a e with e|e
  ·exact .inl e
  ·by_cases h:a=D
   ·subst h;rw[jN]at e;cases e
   ·rw[qv h]at e;exact .inr e
 st:=λa e=>by
  have E:=l.st a e
  by_cases h:a=D
  ·subst h;rw[jN]at E;cases E
  ·rw[qv h]at E;exact E
 fz:=λa ob u h=>l.fz a ob u (by rw[qv];exact h;rintro rfl;rw[b]at h;cases h)
theorem km.upd {o:HO}(b:H D=some (.lst xs)):km K D φ H φ (L2.upd H D o) where
 ex:=λ_ _ h=>h
 tp:=λa vs h=>GV h (λxs z=>by rw[b]at z;cases z) (λ_ _ z=>by rw[b]at z;cases z)
 fr:=λa u ne h n=>by rw[qv ne];exact h
 nw:=λ_ _ h=>.inl h
 st:=λa e=>by
  by_cases h:a=D
  ·subst h;rw[jN]at e;cases e
  ·rw[qv h]at e;exact e
 fz:=λa ob u h=>by
  rw[qv];exact h;intro e;subst e;rw[b]at h;cases h
def OR.keep {o:O}(h:OR K φ H a o)(l:Le K φ H φ' H')(e:∀u,H a=some u->H' a=some u):OR K φ' H' a o:=by
 cases o with
 |lst ws=>obtain⟨vs,q,r⟩:=h;exact⟨vs,e _ q,r.mono l⟩|dct kvs=>obtain⟨vs,q,k,r⟩:=h;exact⟨vs,e _ q,k,r.mono l⟩|tab q P=>obtain⟨k,ps,q,r⟩:=h;exact⟨k,ps,e _ q,r.mono l.fz⟩|ro ws=>
  obtain⟨vs,q,r⟩:=h;refine⟨vs,?_,r.mono l⟩;rcases q with ⟨ob,q⟩|q
  ·exact .inl ⟨ob,e _ q⟩
  ·exact .inr q
theorem zT.alloc {p:Addr}{u:HO}{o:O}(S:zT K φ A H)(r:H p=none)(new:OR K (φ++[p]) (L2.upd H p u) p o):Le K φ H (φ++[p]) (L2.upd H p u)/\zT K (φ++[p]) (A++[o]) (L2.upd H p u):=by
 have l:Le K φ H (φ++[p]) (L2.upd H p u):=Le.alloc r;have old:∀(i:Nat) a,(φ++[p])[i]? =some a->i<A.length->φ[i]? =some a:=λi a e hi=>by
  rw[ai (by rw[S.len];exact hi)]at e;exact e
 refine⟨l,by simp[S.len],λi j a x w g f d b m1 m2=>?_,λn o' e=>?_⟩
 ·by_cases hi:i<A.length
  ·by_cases c:j<A.length
   ·rw[ai hi]at d
    rw[ai c]at b;exact S.inj i j a x w (old i a g hi) (old j a f c) d b m1 m2
   ·exfalso
    rw[ai hi]at d;have t:j=A.length:=by have:=(cq.mp b).1;simp at this;omega
    subst t;rw[ay (by rw[S.len];exact av _),S.len]at f
    simp at f;obtain⟨B,E,q⟩:=S.ob i x d;rw[old i a g hi]at E;cases E;obtain⟨z,h,_⟩:=q.there m1;rw[<- f,r]at h;cases h
  ·have v:i=A.length:=by have:=(cq.mp d).1;simp at this;omega
   by_cases c:j<A.length
   ·exfalso
    rw[ai c]at b;subst v;rw[ay (by rw[S.len];exact av _),S.len]at g
    simp at g;obtain⟨B,E,q⟩:=S.ob j w b;rw[old j a f c]at E;cases E;obtain⟨z,h,_⟩:=q.there m2;rw[<- g,r]at h;cases h
   ·have:=(cq.mp b).1;simp at this;omega
 ·by_cases hn:n<A.length
  ·rw[ai hn]at e
   obtain⟨a,E,q⟩:=S.ob n o' e;refine⟨a,l.ex _ _ E,q.keep l λz h=>?_⟩;rw[qv];exact h;intro y;subst y;rw[r]at h;cases h
  ·have s:n=A.length:=by have:=(cq.mp e).1;simp at this;omega
   subst s;rw[ay (av _)]at e;simp at e;subst e;exact⟨p,by rw[ay (by rw[S.len];exact av _),S.len];simp,new⟩
def zT.write {p:Addr}{u:HO}{o o':O}(S:zT K φ A H)(hn:A[n]? =some o)(m:o.mut=true)(L:o'.mut=true)(c:φ[n]? =some p)(new:OR K φ (L2.upd H p u) p o'):
  Le K φ H φ (L2.upd H p u)/\zT K φ (A.set n o') (L2.upd H p u):=by
 obtain⟨P,e,q⟩:=S.ob n o hn;rw[c]at e;cases e;obtain⟨z,h,y,N⟩:=q.there m;have l:Le K φ H φ (L2.upd H p u):=Le.upd c (λxs e=>by rw[h]at e;exact y xs (aD e)) λob v e=>by rw[h]at e;exact N ob v (aD e)
 have mt:∀(i:Nat)(w:O),(A.set n o')[i]? =some w->w.mut=true->∃d,A[i]? =some d/\d.mut=true:=λi w e M=>by
  by_cases hi:i=n
  ·subst hi;exact⟨o,hn,m⟩
  ·rw[aI (Ne.symm hi)]at e;exact⟨w,e,M⟩
 refine⟨l,by simp[S.len],λi j a x t I D C B m1 m2=>?_,λi w e=>?_⟩
 ·obtain⟨g,E,k1⟩:=mt i x C m1
  obtain⟨f,J,k2⟩:=mt j t B m2;exact S.inj i j a g f I D E J k1 k2
 ·by_cases hi:i=n
  ·subst hi
   have:i<A.length:=(cq.mp hn).1
   rw[aL this]at e;cases e;exact⟨p,c,new⟩
  ·rw[aI (Ne.symm hi)]at e
   obtain⟨a,E,r⟩:=S.ob i w e;refine⟨a,E,?_⟩
   by_cases hm:w.mut=true
   ·have ne:a≠p:=λz=>hi (S.inj i n a w o E (by rw[z];exact c) e hn hm m)
    exact r.keep l λz h=>by rw[qv ne];exact h
   ·cases w with
    |lst _=>exact absurd rfl hm|dct _=>exact absurd rfl hm|tab _ _=>exact absurd rfl hm|ro ws=>
     obtain⟨vs,b,s⟩:=r;refine⟨vs,?_,s.mono l⟩;rcases b with ⟨ob,b⟩|b
     ·refine .inl ⟨ob,?_⟩
      rw[qv];exact b;intro z;subst z;rw[h]at b;exact N _ _ (aD b)
     ·exact .inr b
def zT.lay {p:Addr}{u:HO}(S:zT K φ A H)(b:H p=none):zT K φ A (L2.upd H p u):=
 ⟨S.len,S.inj,λn o e=>by
  obtain⟨a,c,q⟩:=S.ob n o e;refine⟨a,c,q.keep (Le.new b) λz h=>?_⟩;rw[qv];exact h;intro E;subst E;rw[b]at h;cases h⟩
def zT.off {o:HO}(S:zT K φ A H)(h:H D=some (.lst xs))(n:∀k:Nat,φ[k]?≠some D):zT K φ A (L2.upd H D o):=
 ⟨S.len,S.inj,λk u e=>by
  obtain⟨a,E,q⟩:=S.ob k u e;have ne:a≠D:=λz=>n k (by rw[<- z];exact E)
  have l:km K D φ H φ (L2.upd H D o):=km.upd h;refine⟨a,E,?_⟩;cases u with
  |lst ws=>obtain⟨vs,q,r⟩:=q;exact⟨vs,by rw[qv ne];exact q,r.monoD l⟩|dct kvs=>obtain⟨vs,q,k,r⟩:=q;exact⟨vs,by rw[qv ne];exact q,k,r.monoD l⟩|tab _ _=>obtain⟨k,vs,q,r⟩:=q;exact⟨k,vs,by rw[qv ne];exact q,r.mono l.fz⟩|ro ws=>
   obtain⟨vs,q,r⟩:=q;refine⟨vs,?_,r.monoD l⟩;rcases q with ⟨ob,q⟩|q
   ·exact .inl ⟨ob,by rw[qv ne];exact q⟩
   ·exact .inr q⟩
def zT.notin (S:zT K φ A H)(b:H D=none)(d:K.lookup D=none):∀k:Nat,φ[k]?≠some D:=λk e=>by
 have c:k<A.length:=by rw[<- S.len];exact(cq.mp e).1
 obtain⟨a,E,q⟩:=S.ob k A[k] (by simp[c])
 rw[e]at E;cases E;cases h:A[k] with
 |lst ws=>rw[h]at q;obtain⟨vs,z,_⟩:=q;rw[b]at z;cases z|dct ws=>rw[h]at q;obtain⟨vs,z,_⟩:=q;rw[b]at z;cases z|tab _ _=>rw[h]at q;obtain⟨_,vs,z,_⟩:=q;rw[b]at z;cases z|ro ws=>
  rw[h]at q;obtain⟨vs,z,_⟩:=q;rcases z with ⟨ob,z⟩|⟨o,i,n,z,_⟩
  ·rw[b]at z;cases z
  ·rw[d]at z;cases z
def zT.YS {u:HO}{o:O}(S:zT K φ A H)(x:H D=some u)(n:∀k:Nat,φ[k]?≠some D)(new:OR K (φ++[D]) H D o):zT K (φ++[D]) (A++[o]) H:=by
 have l:QF K φ H (φ++[D]) H:=⟨λn a h=>by
  have:=(cq.mp h).1
  rw[ai this];exact h,λ_ _ h=>h,λ_ _ _ h=>h⟩
 have old:∀(i:Nat) a,(φ++[D])[i]? =some a->i<A.length->φ[i]? =some a:=λi a e hi=>by
  rw[ai (by rw[S.len];exact hi)]at e;exact e
 have last:∀a,(φ++[D])[A.length]? =some a->a=D:=λa e=>by
  rw[ay (by rw[S.len];exact av _),S.len]at e
  simpa using e.symm
 refine⟨by simp[S.len],λi j a w v t s p c m1 m2=>?_,λk o' e=>?_⟩
 ·by_cases hi:i<A.length
  ·by_cases b:j<A.length
   ·rw[ai hi]at p
    rw[ai b]at c;exact S.inj i j a w v (old i a t hi) (old j a s b) p c m1 m2
   ·exfalso
    have f:j=A.length:=by have:=(cq.mp c).1;simp at this;omega
    subst f;exact n i (by rw[<- last a s];exact old i a t hi)
  ·have g:i=A.length:=by have:=(cq.mp p).1;simp at this;omega
   by_cases b:j<A.length
   ·exfalso
    subst g;exact n j (by rw[<- last a t];exact old j a s b)
   ·have:=(cq.mp c).1;simp at this;omega
 ·by_cases hn:k<A.length
  ·rw[ai hn]at e
   obtain⟨a,E,q⟩:=S.ob k o' e;refine⟨a,l.ex _ _ E,?_⟩;cases o' with
   |lst ws=>obtain⟨vs,z,r⟩:=q;exact⟨vs,z,r.monoW l⟩|dct ws=>obtain⟨vs,z,Z,r⟩:=q;exact⟨vs,z,Z,r.monoW l⟩|tab _ _=>exact q|ro ws=>obtain⟨vs,z,r⟩:=q;exact⟨vs,z,r.monoW l⟩
  ·have d:k=A.length:=by have:=(cq.mp e).1;simp at this;omega
   subst d;rw[ay (av _)]at e;simp at e;subst e;exact⟨D,by rw[ay (by rw[S.len];exact av _),S.len];simp,new⟩
def Le.YS {b:bS}{H0:Hp}(l:Le K b H0 φ H)(h0:H0 D=none):Le K b H0 (φ++[D]) H where
 ex:=λn a h=>by
  have h':=l.ex n a h
  have:=(cq.mp h').1
  rw[ai this];exact h'
 tp:=l.tp
 fr:=l.fr
 nw:=λn a e=>by
  by_cases hn:n < φ.length
  ·rw[ai hn]at e;exact l.nw n a e
  ·rw[ay (by omega)]at e
   have E:a=D:=by
    have:=mem_of_getElem? e
    simpa using this
   subst E;exact .inr h0
 st:=l.st
 fz:=l.fz
end
noncomputable abbrev St:=L2.St
abbrev XR:=Str->Hp->Prop
def PB (K:Frag)(φ:bS)(H:Hp)(Q:VK):W->Hx->Prop:=λw A=>∀a h v,Le K φ H a h->zT K a A h->RV K a h w v->Q v h
def eC (K:Frag)(φ:bS)(H:Hp)(Q:List V->Hp->Prop):List W->Hx->Prop:=λw A=>∀a h v,Le K φ H a h->zT K a A h->zK K a h w v->Q v h
noncomputable def EB (K:Frag)(φ:bS)(H:Hp)(X:XR):Str->Hx->Prop:=λx A=>∀a h,Le K φ H a h->zT K a A h->X x h
structure RE (K:Frag)(φ:bS)(H:Hp)(ρ:En)(σ:St):Prop where
 len:σ.length=ρ.length
 get:∀(i:Nat)(w:W),ρ[i]? =some (some w)->∃v,σ[i]? =some (some v)/\RV K φ H w v
section
variable {K:Frag}{φ1 φ':bS}{H1 H':Hp}{A:Hx}{ρ:En}{xr:XR}
theorem RE.mono (r:RE K φ H ρ σ)(l:Le K φ H φ' H'):RE K φ' H' ρ σ:=⟨r.len,λi w e=>let ⟨v,h1,h⟩:=r.get i w e;⟨v,h1,h.mono l⟩⟩
def PB.mono {Q:VK}{w:W}(h:PB K φ H Q w A)(l:Le K φ H φ1 H1):PB K φ1 H1 Q w A:=λa b v L=>h a b v (l.trans L)
def EB.mono (h:EB K φ H xr x A)(l:Le K φ H φ1 H1):EB K φ1 H1 xr x A:=λa b L=>h a b (l.trans L)
theorem RE.set {w:W}(r:RE K φ H ρ σ)(q:RV K φ H w v):RE K φ H (ρ.set i (some w)) (σ.set i (some v)):=
 ⟨by simp[r.len],λj u e=>by
  by_cases h:i=j
  ·subst h
   have hi:i < ρ.length:=by
    have:=(cq.mp e).1
    simpa using this
   rw[aL hi]at e;cases e;exact⟨v,by rw[aL (by rw[r.len];exact hi)],q⟩
  ·rw[aI h]at e
   obtain⟨x,b,a⟩:=r.get j u e;exact⟨x,by rw[aI h];exact b,a⟩⟩
end
inductive MM (K:Frag)(xr:XR)(m:Ev)(σ:St)(H:Hp)(Q:VK):Prop
 |mk (φ:bS) (A:Hx) (ρ:En) (S:zT K φ A H) (re:RE K φ H ρ σ) (h:(m ρ A).post (PB K φ H Q) (EB K φ H xr))
noncomputable def tM (K:Frag)(x:XR)(m:Ev):TE:=λσ H Q=>MM K x m σ H Q
inductive MT (K:Frag)(xr:XR)(m:Ev)(σ:St)(H:Hp)(Q:Bool->Hp->Prop):Prop
 |mk (φ:bS) (A:Hx) (ρ:En) (S:zT K φ A H) (re:RE K φ H ρ σ) (h:(m ρ A).post (λw A'=>∃b,w=.bl b/\∀φ' H',Le K φ H φ' H'->zT K φ' A' H'->Q b H') (EB K φ H xr))
noncomputable def tT (K:Frag)(x:XR)(m:Ev):TT:=λσ H Q=>MT K x m σ H Q
abbrev Ea:=En->Hx->R (List W)
inductive MA (K:Frag)(xr:XR)(m:Ea)(σ:St)(H:Hp)(Q:List V->Hp->Prop):Prop
 |mk (φ:bS) (A:Hx) (ρ:En) (S:zT K φ A H) (re:RE K φ H ρ σ) (h:(m ρ A).post (eC K φ H Q) (EB K φ H xr))
noncomputable def XQ (K:Frag)(x:XR)(m:Ea):TA:=λσ H Q=>MA K x m σ H Q
def SE (X:Cx)(x:XR)(e:Expr)(m:Ev):Prop:=PE X e (tM X.K x m)
def ST (X:Cx)(x:XR)(e:Expr)(m:Ev):Prop:=PT X e (tT X.K x m)
def SW (X:Cx)(x:XR)(e:Expr)(m:Ev):Prop:=PW X e (tT X.K x m)
def SA (X:Cx)(x:XR)(e:bY)(m:Ea):Prop:=PA X e (XQ X.K x m)
section
variable {xr:XR}{a b:Expr}{es:bY}{m ma mb mc:Ev}
def PE.imp {t t':TE}(h:PE X e t)(i:∀σ H Q,t' σ H Q->t σ H Q):PE X e t':=λpins s σ H Q I hw=>h pins s σ H Q I (i σ H Q hw)
def PT.imp {t t':TT}(h:PT X e t)(i:∀σ H Q,t' σ H Q->t σ H Q):PT X e t':=λpins s σ H Q I hw=>h pins s σ H Q I (i σ H Q hw)
def PW.imp {t t':TT}(h:PW X e t)(i:∀σ H Q,t' σ H Q->t σ H Q):PW X e t':=λw pins s σ H Q I hw=>h w pins s σ H Q I (i σ H Q hw)
def PA.imp {t t':TA}(h:PA X es t)(i:∀σ H Q,t' σ H Q->t σ H Q):PA X es t':=λp pins s σ H Q I hw=>h p pins s σ H Q I (i σ H Q hw)
def tM.go {K:Frag}{A:Hx}{ρ:En}{Q:VK}{G:W->Hx->Prop}(S:zT K φ A H)(r:RE K φ H ρ σ)(h:(m ρ A).post G (EB K φ H xr))
  (k:∀w A1 a H1 v,G w A1->Le K φ H a H1->zT K a A1 H1->RV K a H1 w v->Q v H1):tM K xr m σ H Q:=
 ⟨φ,A,ρ,S,r,qK h (λw A1 g a H1 v l s q=>k w A1 a H1 v g l s q) λ_ _ z=>z⟩
def XQ.go {K:Frag}{A:Hx}{ρ:En}{m:Ea}{Q:List V->Hp->Prop}{G:List W->Hx->Prop}(S:zT K φ A H)(r:RE K φ H ρ σ)(h:(m ρ A).post G (EB K φ H xr))
  (k:∀w A1 a H1 v,G w A1->Le K φ H a H1->zT K a A1 H1->zK K a H1 w v->Q v H1):XQ K xr m σ H Q:=
 ⟨φ,A,ρ,S,r,qK h (λw A1 g a H1 v l s q=>k w A1 a H1 v g l s q) λ_ _ z=>z⟩
def tT.go {K:Frag}{A:Hx}{ρ:En}{Q:Bool->Hp->Prop}{G:W->Hx->Prop}(S:zT K φ A H)(r:RE K φ H ρ σ)(h:(m ρ A).post G (EB K φ H xr))
  (k:∀w A1,G w A1->∃b,w=.bl b/\∀a H1,Le K φ H a H1->zT K a A1 H1->Q b H1):tT K xr m σ H Q:=
 ⟨φ,A,ρ,S,r,qK h (λw A1 g=>k w A1 g) λ_ _ z=>z⟩
noncomputable def qd (i:Nat):Ev:=λρ A=>match ρ[i]? with
 |some (some w)=>.ok w A|_=>.bad
noncomputable def zW (w:W):Ev:=λ_ A=>.ok w A
noncomputable def zi (g:W->W->Hx->R W)(a b:Ev):Ev:=λρ A=>(a ρ A).bind λx A1=>(b ρ A1).bind λy A2=>g x y A2
noncomputable def jf (g:W->Hx->R W)(a:Ev):Ev:=λρ A=>(a ρ A).bind λx A1=>g x A1
noncomputable abbrev ZA:Str->Hx->Prop:=λ_ _=>False
def yv (K:Frag)(r:R2)(g:W->W->Hx->R W):Prop:=∀φ A H x y u v Q,zT K φ A H->RV K φ H u x->RV K φ H v y->(g u v A).post (PB K φ H Q) ZA->r x y H Q
def XM (K:Frag)(r:V->Hp->VK->Prop)(g:W->Hx->R W):Prop:=∀φ A H x u Q,zT K φ A H->RV K φ H u x->(g u A).post (PB K φ H Q) ZA->r x H Q
def q9 (r:R α):Prop:=∀x A,r≠.exc x A
def Yp {r:R α}{P:α->Hx->Prop}{E:Str->Hx->Prop}(n:q9 r)(h:r.post P E):r.post P ZA:=by
 cases r with
 |ok a A=>exact h|exc x A=>exact absurd rfl (n x A)|bad=>exact h
def zi.read {g:W->W->Hx->R W}{r:R2}(hn:∀x y A,q9 (g x y A))(e:yv X.K r g):∀σ H Q,tM X.K xr (zi g ma mb) σ H Q->Wz r (tM X.K xr ma) (tM X.K xr mb) σ H Q:=by
 rintro σ H Q ⟨φ,A,ρ,S,re,h⟩
 refine tM.go S re (qf.mp h) λw A1 b H1 v i l j d=>?_;refine tM.go j (re.mono l) (qK (qf.mp i) (λ_ _ z=>z) λ_ _ z=>z.mono l) λc A2 a n v2 f L s q=>?_;exact e a A2 n v v2 w c Q s (d.mono L) q (qK (Yp (hn _ _ _) f) (λ_ _ z=>z.mono (l.trans L)) λ_ _ z=>z)
def jf.read {g:W->Hx->R W}{r:V->Hp->VK->Prop}(hn:∀x A,q9 (g x A))(b:XM X.K r g):∀σ H Q,tM X.K xr (jf g ma) σ H Q->MK r (tM X.K xr ma) σ H Q:=by
 rintro σ H Q ⟨φ,A,ρ,S,re,h⟩
 refine tM.go S re (qf.mp h) λw A1 a H1 v c l s q=>?_;exact b a A1 H1 v w Q s q (qK (Yp (hn _ _) c) (λ_ _ z=>z.mono l) λ_ _ z=>z)
def JJ {op:Operator}{r:R2}{g:W->W->Hx->R W}(h:jc X (binaryOp op) r)(hn:∀x y A,q9 (g x y A))(H:yv X.K r g)(d:SE X xr a ma)(c:SE X xr b mb):SE X xr (.BinOp a op b pos) (zi g ma mb):=
 PE.imp (dw h d c) (zi.read hn H)
def eD {op:UnaryOp}{r:V->Hp->VK->Prop}{g:W->Hx->R W}(h:XY X (unaryOp op) r)(hn:∀x A,q9 (g x A))(H:XM X.K r g)(b:SE X xr a ma):SE X xr (.UnaryOp op a pos) (jf g ma):=
 PE.imp (dy h b) (jf.read hn H)
def NK {r:R2}{g:W->W->Hx->R W}(h:jc X (compareOp op) r)(hn:∀x y A,q9 (g x y A))(H:yv X.K r g)(d:SE X xr a ma)(c:SE X xr b mb)(hm:behindInMarks op b=false):SE X xr (.Compare a [op] [b] pos) (zi g ma mb):=
 PE.imp (BV h d c hm) (zi.read hn H)
def tT.toM {K:Frag}{Q:Bool->Hp->Prop}(h:tT K xr m σ H Q):tM K xr m σ H λx d=>∃k,x=.bl k/\Q k d:=by
 obtain⟨φ,A,ρ,S,re,h⟩:=h;refine tM.go S re h λw A1 a H1 v ⟨b,e,q⟩ l s c=>?_;subst e;exact⟨b,c,q a H1 l s⟩
def Np {r:R2}{g:W->W->Hx->R W}(o:jc X (compareOp op) r)(hn:∀x y A,q9 (g x y A))(c:yv X.K r g)(e:SE X xr a ma)(d:SE X xr b mb)(hm:behindInMarks op b=false):ST X xr (.Compare a [op] [b] pos) (zi g ma mb):=
 PT.imp (Ax o e d hm) λσ H Q h=>zi.read hn c σ H _ h.toM
noncomputable def yZ (g g':W->W->Hx->R W)(a b c:Ev):Ev:=λρ A=>(a ρ A).bind λx A1=>(b ρ A1).bind λy A2=>(g x y A2).bind λz d=>match z with
 |.bl true=>(c ρ d).bind λw e=>g' y w e|.bl false=>.ok (.bl false) d|_=>.bad
def yZ.read {g g':W->W->Hx->R W}{r i:R2}(hn:∀x y A,q9 (g x y A))(T:yv X.K r g)(n:∀x y A,q9 (g' x y A))(o:yv X.K i g'):
  ∀σ H Q,tM X.K xr (yZ g g' ma mb mc) σ H Q->U1 r i (tM X.K xr ma) (tM X.K xr mb) (tM X.K xr mc) σ H Q:=by
 rintro σ H Q ⟨φ,A,ρ,S,re,h⟩
 refine tM.go S re (qf.mp h) λw A1 E H1 v Z L S1 P=>?_;refine tM.go S1 (re.mono L) (qK (qf.mp Z) (λ_ _ z=>z) λ_ _ z=>z.mono L) λf A2 b D v2 Y B S2 s=>?_;have j:=L.trans B;have p:=qf.mp Y;have a:(g w f A2).post (PB X.K b D λz c=>∃k,z=.bl k/\if k=true then tM X.K xr mc σ c λJ q=>i v2 J q Q else Q (.bl false) c) ZA:=by
  refine qK (Yp (hn _ _ _) p) (λz A3 a e c zv u C N=>?_) λ_ _ z=>z;have l:=j.trans u;cases z with
  |bl k=>
   refine⟨k,N,?_⟩;cases k with
   |true=>
    rw[ah rfl];refine tM.go C (re.mono l) (qK (qf.mp a) (λ_ _ z=>z) λ_ _ z=>z.mono l) λI A4 d q v4 U t S4 M=>?_;exact o d A4 q v2 v4 f I Q S4 ((s.mono u).mono t) M (qK (Yp (n _ _ _) U) (λ_ _ z=>z.mono (l.trans t)) λ_ _ z=>z)
   |false=>
    rw[ar aA];exact a e c _ l C rfl
  |non=>cases a|int _=>cases a|str _=>cases a|tup _=>cases a|ref _=>cases a|clo _ _ _=>cases a|xc _=>cases a
 exact T b A2 D v v2 w f _ S2 (P.mono B) s a
def DM {c:Expr}{o:CmpOp}{r e:R2}{g g':W->W->Hx->R W}(f:jc X (compareOp op) r)(hn:∀x y A,q9 (g x y A))(i:yv X.K r g)(h:jc X (compareOp o) e)(H:∀x y A,q9 (g' x y A))(d:yv X.K e g')
  (n:SE X xr a ma)(l:SE X xr b mb)(j:SE X xr c mc)(hm:lastMarks [op,o] [b,c]=false:=by with_unfolding_all rfl):SE X xr (.Compare a [op,o] [b,c] pos) (yZ g g' ma mb mc):=
 PE.imp (Cw f h n l j hm) (yZ.read hn i H d)
def C1 {c:Expr}{o:CmpOp}{r i:R2}{g g':W->W->Hx->R W}(j:jc X (compareOp op) r)(hn:∀x y A,q9 (g x y A))(l:yv X.K r g)(d:jc X (compareOp o) i)(e:∀x y A,q9 (g' x y A))(f:yv X.K i g')
  (q:SE X xr a ma)(p:SE X xr b mb)(n:SE X xr c mc)(hm:lastMarks [op,o] [b,c]=false:=by with_unfolding_all rfl):ST X xr (.Compare a [op,o] [b,c] pos) (yZ g g' ma mb mc):=
 PT.imp (Cn j d q p n hm) λσ H Q h=>yZ.read hn l e f σ H _ h.toM
noncomputable def ym (a b:Ev):Ev:=λρ A=>(a ρ A).bind λx A1=>match x with
 |.bl true=>b ρ A1|.bl false=>.ok (.bl false) A1|_=>.bad
noncomputable def kE (a b:Ev):Ev:=λρ A=>(a ρ A).bind λx A1=>match x with
 |.bl true=>.ok (.bl true) A1|.bl false=>b ρ A1|_=>.bad
noncomputable def yf (a:Ev):Ev:=λρ A=>(a ρ A).bind λx A1=>match x with
 |.bl k=>.ok (.bl (!k)) A1|_=>.bad
noncomputable def MB (c a b:Ev):Ev:=λρ A=>(c ρ A).bind λx A1=>match x with
 |.bl true=>a ρ A1|.bl false=>b ρ A1|_=>.bad
theorem tT.mono {K:Frag}{c:bS}{H1:Hp}{A1:Hx}{ρ:En}{Q:Bool->Hp->Prop}(S:zT K c A1 H1)(L:Le K φ H c H1)(re:RE K φ H ρ σ)
  (h:(m ρ A1).post (λw A=>∃b,w=.bl b/\∀a d,Le K φ H a d->zT K a A d->Q b d) (EB K φ H xr)):tT K xr m σ H1 Q:=
 ⟨c,A1,ρ,S,re.mono L,qK h (λw A ⟨b,e,q⟩=>⟨b,e,λa d l s=>q a d (L.trans l) s⟩) λ_ _ z=>z.mono L⟩
noncomputable def zl:Ea:=λ_ A=>.ok [] A
noncomputable def zc (a:Ev)(r:Ea):Ea:=λρ A=>(a ρ A).bind λx A1=>(r ρ A1).bind λxs A2=>.ok (x::xs) A2
noncomputable def zB (a:Ea):Ev:=λρ A=>(a ρ A).bind λxs A1=>.ok (.tup xs) A1
noncomputable def zZ (a:Ea):Ev:=λρ A=>(a ρ A).bind λxs A1=>.ok (.ref A1.length) (A1++[.lst xs])
def Q9 {K:Frag}{A:Hx}{p:Addr}{ws:List W}{vs:List V}(S:zT K φ A H)(h:H p=none)(r:zK K φ H ws vs):
  Le K φ H φ (upd H p (.tup vs))/\zT K φ A (upd H p (.tup vs))/\RV K φ (upd H p (.tup vs)) (.tup ws) (.ref p):=
 ⟨Le.new h,S.lay h,p,vs,rfl,qS.of jN,r.mono (Le.new h)⟩
def JG {K:Frag}{A:Hx}{p:Addr}{ws:List W}{vs:List V}(S:zT K φ A H)(h:H p=none)(r:zK K φ H ws vs):
  Le K φ H (φ++[p]) (upd H p (.lst vs))/\zT K (φ++[p]) (A++[.lst ws]) (upd H p (.lst vs))/\RV K (φ++[p]) (upd H p (.lst vs)) (.ref A.length) (.ref p):=by
 have l:Le K φ H (φ++[p]) (upd H p (.lst vs)):=Le.alloc h;obtain⟨b,a⟩:=S.alloc (o:=.lst ws) h ⟨vs,jN,r.mono l⟩;exact⟨b,a,p,rfl,by rw[<- S.len];simp⟩
def eE {M:Ea}(h:SA X xr es M)(d:∀ρ A ws a,M ρ A=.ok ws a->ws.length<=sizeLine):SE X xr (.List es pos) (zZ M):=
 PE.imp (dQ h) λσ H Q ⟨φ,A,ρ,S,re,h⟩=>by
  have h':=qf.mp h;cases e:M ρ A with
  |ok ws a=>
   rw[e]at h';refine⟨φ,A,ρ,S,re,?_⟩;rw[e];intro b H1 vs l s q;refine⟨by rw[<- q.length];exact d ρ A ws a e,λp c=>?_⟩
   obtain⟨a1,a2,f⟩:=JG s c q;exact h' _ _ _ (l.trans a1) a2 f
  |exc x a=>rw[e]at h';refine⟨φ,A,ρ,S,re,?_⟩;rw[e];exact h'|bad=>rw[e]at h';exact h'.elim
end
inductive Fl where
 |nx (ρ:En)|rt (w:W)|bk (ρ:En)|ct (ρ:En)
abbrev Ex:=En->Hx->R Fl
def FB (K:Frag)(φ:bS)(H:Hp)(D:Ends):Fl->Hx->Prop
 |.nx ρ,A=>∀a h b,Le K φ H a h->zT K a A h->RE K a h ρ b->D.nx b h|.rt w,A=>∀a h v,Le K φ H a h->zT K a A h->RV K a h w v->D.rt v h|.bk ρ,A=>∀a h b,Le K φ H a h->zT K a A h->RE K a h ρ b->D.bk b h|.ct ρ,A=>∀a h b,Le K φ H a h->zT K a A h->RE K a h ρ b->D.ct b h
def FB.mono {K:Frag}{c:bS}{H1:Hp}{D:Ends}{f:Fl}{A:Hx}(h:FB K φ H D f A)(l:Le K φ H c H1):FB K c H1 D f A:=by
 cases f with
 |nx ρ=>exactλa b v L=>h a b v (l.trans L)|rt ρ=>exactλa b v L=>h a b v (l.trans L)|bk ρ=>exactλa b v L=>h a b v (l.trans L)|ct ρ=>exactλa b v L=>h a b v (l.trans L)
inductive MS (K:Frag)(xr:XR)(m:Ex)(D:Ends)(σ:St)(H:Hp):Prop
 |mk (φ:bS) (A:Hx) (ρ:En) (S:zT K φ A H) (re:RE K φ H ρ σ) (h:(m ρ A).post (FB K φ H D) (EB K φ H xr))
noncomputable def tS (K:Frag)(x:XR)(m:Ex):TS:=λD σ H=>MS K x m D σ H
def SS (X:Cx)(x:XR)(st:Stmt)(m:Ex):Prop:=PS X st (tS X.K x m)
def WD (X:Cx)(x:XR)(st:cg)(m:Ex):Prop:=yU X st (tS X.K x m)
section
variable {xr:XR}{a b c:Expr}{st:Stmt}{rest:cg}{m:Ev}{m1 m2:Ex}
def PS.imp {t t':TS}(h:PS X st t)(i:∀D σ H,t' D σ H->t D σ H):PS X st t':=λpins s σ H D I hw=>h pins s σ H D I (i D σ H hw)
def yU.imp {t t':TS}(h:yU X rest t)(i:∀D σ H,t' D σ H->t D σ H):yU X rest t':=λpins s σ H D I hw=>h pins s σ H D I (i D σ H hw)
noncomputable def zA:Ex:=λρ A=>.ok (.nx ρ) A
noncomputable def zp (m1 m2:Ex):Ex:=λρ A=>(m1 ρ A).bind λl A1=>match l with
 |.nx ρ1=>m2 ρ1 A1|f=>.ok f A1
noncomputable def yK (m:Ev):Ex:=λρ A=>(m ρ A).bind λ_ A1=>.ok (.nx ρ) A1
noncomputable def qF (m:Ev):Ex:=λρ A=>(m ρ A).bind λw A1=>.ok (.rt w) A1
noncomputable def qy (c:Ev)(a b:Ex):Ex:=λρ A=>(c ρ A).bind λx A1=>match x with
 |.bl true=>a ρ A1|.bl false=>b ρ A1|_=>.bad
noncomputable def zS (i:Nat)(m:Ev):Ex:=λρ A=>(m ρ A).bind λw A1=>.ok (.nx (ρ.set i (some w))) A1
def zS.read:∀D σ H,tS X.K xr (zS i m) D σ H->Xw (tM X.K xr m) (Xk i) D σ H:=by
 rintro D σ H ⟨φ,A,ρ,S,re,h⟩
 exact tM.go S re (qf.mp h) λw A1 a H1 v b l s q=>b a H1 _ l s ((re.mono l).set q)
noncomputable def YH (g:W->W->W->Hx->R Unit)(me mo mi:Ev):Ex:=λρ A=>(me ρ A).bind λv A1=>(mo ρ A1).bind λo A2=>(mi ρ A2).bind λi b=>(g o i v b).bind λ_ a=>.ok (.nx ρ) a
def NZ (K:Frag)(t:J2)(g:W->W->W->Hx->R Unit):Prop:=∀φ A H o i v w b wv Q,zT K φ A H->RV K φ H w o->RV K φ H b i->RV K φ H wv v->
 (g w b wv A).post (λ_ c=>∀a h,Le K φ H a h->zT K a c h->Q h) ZA->t o i v H Q
def DV {o i:Expr}{mo mi:Ev}{t:J2}{g:W->W->W->Hx->R Unit}(N:Xu X t)(hn:∀o i v A,q9 (g o i v A))(U:NZ X.K t g)(he:SE X xr e m)(T:SE X xr o mo)(hi:SE X xr i mi)
  (P:swapsWithSole [.Subscript o i tpos] e pos.line X.env=pure false:=by rfl)(hw:swappedStores [.Subscript o i tpos] e X.env=pure none:=by rfl)
  (j:(assignEach [.Subscript o i tpos] X.env).map (·.2)=[assign (.Subscript o i tpos) X.env]:=by rfl)
  (Y:∀v,assign (.Subscript o i tpos) X.env v=(do
   let ov <- holding [v] (eval o X.env)
   let iv <- holding [v,ov] (eval i X.env)
   standAt tpos
   holding [v,ov,iv] (setItem ov iv v)
   release [v,ov,iv] []):=by intro _;rfl):SS X xr (.Assign [.Subscript o i tpos] e pos) (YH g m mo mi):=
 PS.imp (NH he (dc T hi N Y) P hw j) λD σ H ⟨φ,A,ρ,S,re,h⟩=>by
  refine tM.go S re (qf.mp h) λp A1 E H1 v1 j f S1 M=>?_;refine tM.go S1 (re.mono f) (qK (qf.mp j) (λ_ _ z=>z) λ_ _ z=>z.mono f) λn A2 C H2 v2 Z s S2 J=>?_;have l:=f.trans s;refine tM.go S2 (re.mono l) (qK (qf.mp Z) (λ_ _ z=>z) λ_ _ z=>z.mono l) λw B c H3 I a d S3 Q=>?_;have L:=l.trans d;refine U c B H3 v2 I v1 n w p _ S3 (J.mono d) Q (M.mono (s.trans d)) ?_;cases r:g n w p B with
  |ok u y=>
   rw[r]at a;exactλb H4 q S4=>a b H4 σ (L.trans q) S4 (re.mono (L.trans q))
  |exc x y=>exact absurd r (hn _ _ _ _ x y)|bad=>rw[r]at a;exact a.elim
structure jV where
 at_:Hx->Nat->Option (Option W)
 len:Nat
def Qy (K:Frag)(φ:bS)(H:Hp)(j:jV)(J:It):Prop:=∀i a h A,QF K φ H a h->zT K a A h->
 (∀w,j.at_ A i=some (some w)->J.go i h/\∀x H1,J.yld i h x H1->Le K a h a H1/\zT K a A H1/\RV K a H1 w x)/\(j.at_ A i=some none->J.stop i h)
abbrev Ei:=En->Hx->R jV
inductive MI (K:Frag)(xr:XR)(mi:Ei)(σ:St)(H:Hp)(Rr:It->Hp->Prop):Prop
 |mk (φ:bS) (A:Hx) (ρ:En) (S:zT K φ A H) (re:RE K φ H ρ σ) (h:(mi ρ A).post (λj A1=>∀φ1 H1 J,Le K φ H φ1 H1->zT K φ1 A1 H1->Qy K φ1 H1 j J->Rr J H1) (EB K φ H xr))
noncomputable def tI (K:Frag)(x:XR)(mi:Ei):TI:=λσ H r=>MI K x mi σ H r
def SI (X:Cx)(x:XR)(t iter:Expr)(mi:Ei):Prop:=PI X t iter (tI X.K x mi)
def PI.imp {t t':TI}(h:PI X tg e t)(i:∀σ H Q,t' σ H Q->t σ H Q):PI X tg e t':=λpins s σ H Q I hw=>h pins s σ H Q I (i σ H Q hw)
abbrev Tg:=W->En->Option En
inductive MG (K:Frag)(tw:Tg)(v:V)(σ:St)(H:Hp)(Q:St->Hp->Prop):Prop
 |mk (φ:bS) (A:Hx) (ρ:En) (w:W) (ρ':En) (S:zT K φ A H) (re:RE K φ H ρ σ) (rv:RV K φ H w v) (t:tw w ρ=some ρ') (q:∀σ',RE K φ H ρ' σ'->Q σ' H)
noncomputable def tG (K:Frag)(tw:Tg):TG:=λv σ H Q=>MG K tw v σ H Q
def SG (X:Cx)(t:Expr)(tw:Tg):Prop:=PG X t (tG X.K tw)
def PG.imp {t t':TG}(h:PG X tg t)(i:∀v σ H Q,t' v σ H Q->t v σ H Q):PG X tg t':=λpins s σ H v u Q I r hw=>h pins s σ H v u Q I r (i v σ H Q hw)
noncomputable def zG (i:Nat):Tg:=λw ρ=>some (ρ.set i (some w))
noncomputable def jx (i j:Nat):Tg:=λw ρ=>match w with
 |.tup [x,y]=>some ((ρ.set i (some x)).set j (some y))|_=>none
noncomputable def yI (j:jV)(st:W->Ex):Nat->Nat->Ex
 |0,i,ρ,A=>match j.at_ A i with
  |some none=>.ok (.nx ρ) A|_=>.bad
 |f+1,i,ρ,A=>match j.at_ A i with
  |some none=>.ok (.nx ρ) A|some (some w)=>(st w ρ A).bind λl A1=>match l with
   |.nx ρ1=>yI j st f (i+1) ρ1 A1|.ct ρ1=>yI j st f (i+1) ρ1 A1|.bk ρ1=>.ok (.nx ρ1) A1|.rt w=>.ok (.rt w) A1
  |none=>.bad
noncomputable def turn (tw:Tg)(body:Ex)(w:W):Ex:=λρ A=>match tw w ρ with
 |some ρ1=>body ρ1 A|none=>.bad
def jL (mi:Ei)(tw:Tg)(body:Ex):Ex:=λρ A=>(mi ρ A).bind λj A1=>yI j (turn tw body) j.len 0 ρ A1
inductive MC (K:Frag)(xr:XR)(j:jV)(t:W->Ex)(D:Ends)(φ1:bS)(H1:Hp)(f i:Nat)(σ':St)(H':Hp):Prop
 |mk (φ2:bS) (A2:Hx) (ρ2:En) (l:Le K φ1 H1 φ2 H') (S:zT K φ2 A2 H') (re:RE K φ2 H' ρ2 σ') (h:(yI j t f i ρ2 A2).post (FB K φ2 H' D) (EB K φ2 H' xr))
noncomputable def Qw (c:Ev)(body:Ex):Nat->Ex
 |0,ρ,A=>.bad|f+1,ρ,A=>(c ρ A).bind λx A1=>match x with
  |.bl true=>(body ρ A1).bind λl A2=>match l with
   |.nx ρ1=>Qw c body f ρ1 A2|.ct ρ1=>Qw c body f ρ1 A2|.bk ρ1=>.ok (.nx ρ1) A2|.rt w=>.ok (.rt w) A2
  |.bl false=>.ok (.nx ρ) A1|_=>.bad
def U2 (f:Nat)(c:Ev)(body:Ex):Ex:=Qw c body f
noncomputable def JL (nl:Nat)(cap:bU)(ρ:En):En:=List.replicate nl none++cap.map λi=>(ρ[i]?).join
theorem RE.ZZ {K:Frag}{ρ:En}{nl:Nat}(r:RE K φ H ρ σ):RE K φ H (JL nl cap ρ) (L2.ZZ nl cap σ):=by
 refine⟨by simp[JL,L2.ZZ],λi w e=>?_⟩
 unfold JL at e;unfold L2.ZZ
 by_cases hi:i<nl
 ·rw[ai (by simpa using hi),bA]at e
  split at e<;>cases e
 ·rw[ay (by simpa using hi),bG,aw]at e
  rw[ay (by simpa using hi),bG,aw]
  cases c:cap[i-nl]? with
  |none=>rw[c]at e;cases e|some k=>
   rw[c]at e;have E:(ρ[k]?).join=some w:=aD e;cases h:ρ[k]? with
   |none=>rw[h]at E;cases E|some o=>cases o with
    |none=>rw[h]at E;cases E|some d=>
     rw[h]at E;cases E;obtain⟨v,b,a⟩:=r.get k w h;exact⟨v,by simp[b],a⟩
abbrev Em:=En->List W->Hx->R (En×List W)
noncomputable def zY:Nat:=100000
def zN (elt:Ev):Em:=λρ acc A=>(elt ρ A).bind λy A1=>if acc.length<zY then .ok (ρ,acc++[y]) A1 else .bad
noncomputable def jB (j:jV)(tw:Tg)(ifs:Ev)(em:Em):Nat->Nat->Em
 |0,i,ρ,acc,A=>match j.at_ A i with
  |some none=>.ok (ρ,acc) A|_=>.bad
 |f+1,i,ρ,acc,A=>match j.at_ A i with
  |some none=>.ok (ρ,acc) A|some (some w)=>match tw w ρ with
   |some ρ1=>(ifs ρ1 A).bind λc A1=>match c with
    |.bl true=>(em ρ1 acc A1).bind λp A2=>jB j tw ifs em f (i+1) p.1 p.2 A2|.bl false=>jB j tw ifs em f (i+1) ρ1 acc A1|_=>.bad
   |none=>.bad
  |none=>.bad
def Zn (mi:Ei)(tw:Tg)(ifs:Ev)(em:Em):Em:=λρ acc A=>(mi ρ A).bind λj A1=>jB j tw ifs em j.len 0 ρ acc A1
abbrev j4:=En->Hx->R (List W)
def zR (nl:Nat)(cap:bU)(mi:Ei)(tw:Tg)(ifs:Ev)(em:Em):j4:=λρ A=>(mi ρ A).bind λj A1=>(jB j tw ifs em j.len 0 (JL nl cap ρ) [] A1).nox.bind λp A2=>.ok p.2 A2
def TN (K:Frag)(D:Addr)(φ:bS)(H:Hp)(Q:St->Hp->Prop)(p:En×List W)(A1:Hx):Prop:=∀a H1 b zs,km K D φ H a H1->(∀k:Nat,a[k]?≠some D)->zT K a A1 H1->RE K a H1 p.1 b->H1 D=some (.lst zs)->zK K a H1 p.2 zs->Q b H1
inductive ME (K:Frag)(em:Em)(D:Addr)(σ:St)(H:Hp)(Q:St->Hp->Prop):Prop
 |mk (φ:bS) (A:Hx) (ρ:En) (acc:List W) (ys:List V) (S:zT K φ A H) (re:RE K φ H ρ σ) (hD:H D=some (.lst ys)) (nD:∀k:Nat,φ[k]?≠some D) (rv:zK K φ H acc ys)
  (h:(em ρ acc A).post (TN K D φ H Q) ZA)
noncomputable def tE (K:Frag)(em:Em):gK:=λD σ H Q=>ME K em D σ H Q
noncomputable abbrev kj:XR:=λ_ _=>False
def SM (X:Cx)(elt:Expr)(gens:List Comprehension)(sc:Scope)(c:Pos)(d:Nat)(em:Em):Prop:=gu X elt gens sc c d (tE X.K em)
def gu.imp {d:Nat}{t t':gK}(h:gu X elt gens sc pos d t)(i:∀D σ H Q,t' D σ H Q->t D σ H Q):gu X elt gens sc pos d t':=
 λpins s σ H D Q k Q' E I hw a=>h pins s σ H D Q k Q' E I (i D σ H Q hw) a
def Ud {K:Frag}{r:R α}{P:α->Hx->Prop}(h:r.post P ZA):r.post P (EB K φ H kj):=qK h (λ_ _ z=>z) λ_ _ z=>z.elim
def Wv (X:Cx)(ifs:bY)(m:Ev):Prop:=Qu X ifs (tT X.K kj m)
inductive MU (tw:Tg)(ifs:Ev)(em:Em)(j:jV)(K:Frag)(D:Addr)(φ:bS)(H:Hp)(Q:St->Hp->Prop)(f i:Nat)(σ':St)(H':Hp):Prop
 |mk (φ2:bS) (A2:Hx) (ρ2:En) (acc2:List W) (ys2:List V) (l:km K D φ H φ2 H') (S:zT K φ2 A2 H') (re:RE K φ2 H' ρ2 σ') (hD:H' D=some (.lst ys2)) (nD:∀k:Nat,φ2[k]?≠some D) (ra:zK K φ2 H' acc2 ys2) (h:(jB j tw ifs em f i ρ2 acc2 A2).post (TN K D φ H Q) ZA)
def jB.read {tw:Tg}{ifs:Ev}{em:Em}{j:jV}{J:It}{K:Frag}{A:Hx}{ρ:En}{acc:List W}{Q:St->Hp->Prop}{f:Nat}
  (jr:Qy K φ H j J)
  (S:zT K φ A H)(re:RE K φ H ρ σ)(hD:H D=some (.lst ys))(nD:∀k:Nat,φ[k]?≠some D)(ra:zK K φ H acc ys)
  (h:(jB j tw ifs em f 0 ρ acc A).post (TN K D φ H Q) ZA):
  Wa J (tG K tw) (tT K kj ifs) (tE K em) D σ H Q:=by
 refine⟨λi f b P=>MU tw ifs em j K D φ H Q f i b P,
  ⟨f,φ,A,ρ,acc,ys,.refl,S,re,hD,nD,ra,h⟩,?_⟩
 rintro i f U H2 ⟨g,A2,s,e,Y,B,S2,t,M,u,n,a⟩
 obtain⟨j1,j2⟩:=jr i g H2 A2 ⟨B.ex,B.tp,B.fz⟩ S2;cases E:j.at_ A2 i with
 |none=>cases f<;>(unfold jB at a;rw[E]at a;exact a.elim)|some o=>
  cases o with
  |none=>
   left
   refine⟨j2 E,?_⟩;cases f<;>(unfold jB at a;rw[E]at a;exact a g H2 U Y B u S2 t M n)
  |some w=>
   right
   obtain⟨go,yl⟩:=j1 w E;cases f with
   |zero=>unfold jB at a;rw[E]at a;exact a.elim|succ f=>
    unfold jB at a;rw[E]at a;refine⟨go,λb P=>MU tw ifs em j K D φ H Q f (i+1) b P,λb P z=>⟨f,bj _,z⟩,λx H3 y=>?_⟩;obtain⟨v,S3,q3⟩:=yl x H3 y;obtain⟨hD3,Z⟩:=v.off M u;dsimp only at a;cases et:tw w s with
    |none=>rw[et]at a;exact a.elim|some l=>
     rw[et]at a;refine⟨g,A2,s,w,l,S3,t.mono v,q3,et,λσ3 r=>?_⟩;refine tT.go S3 r (Ud (qf.mp a)) λc A4 d=>?_;cases c with
     |bl k=>
      refine⟨k,rfl,λq H4 L S4=>?_⟩;obtain⟨I,N⟩:=L.off hD3 Z;have C:=(B.trans (v.trans L).toD);cases k with
      |true=>
       rw[ah rfl];refine⟨q,A4,l,e,Y,S4,r.mono L,I,N,n.mono (v.trans L),qK (qf.mp d) (λp A5 h5 T H5 σ5 zs l5 n5 S5 X d5 r5=>?_) λ_ _ z=>z⟩;exact⟨T,A5,p.1,p.2,zs,C.trans l5,S5,X,d5,n5,r5,h5⟩
      |false=>
       rw[ar aA];exact⟨q,A4,l,e,Y,C,S4,r.mono L,I,N,n.mono (v.trans L),d⟩
     |non=>cases d|int _=>cases d|str _=>cases d|tup _=>cases d|ref _=>cases d|clo _ _ _=>cases d|xc _=>cases d
def Qy.mono {K:Frag}{b:bS}{H1:Hp}{j:jV}{J:It}(h:Qy K φ H j J)(l:QF K φ H b H1):Qy K b H1 j J:=
 λi c d A L=>h i c d A ⟨λn a e=>L.ex n a (l.ex n a e),λa vs e=>L.tp a vs (l.tp a vs e),λa o u e=>L.fz a o u (l.fz a o u e)⟩
inductive MF (K:Frag)(xr:XR)(mq:j4)(σ:St)(H:Hp)(Q:VK):Prop
 |mk (φ:bS) (A:Hx) (ρ:En) (S:zT K φ A H) (re:RE K φ H ρ σ) (h:(mq ρ A).post (λws A1=>∀φ1 H1 D ys,Le K φ H φ1 H1->zT K φ1 A1 H1->H D=none->H1 D=some (.lst ys)->(∀k:Nat,φ1[k]?≠some D)->zK K φ1 H1 ws ys->Q (.ref D) H1) (EB K φ H xr))
noncomputable def tF (K:Frag)(x:XR)(M:j4):TE:=λσ H Q=>MF K x M σ H Q
def SF (X:Cx)(x:XR)(e:Expr)(M:j4):Prop:=PE X e (tF X.K x M)
theorem zR.read {mi:Ei}{tw:Tg}{M:Ev}{em:Em}{nl:Nat}:∀σ H Q,tF X.K xr (zR nl cap mi tw M em) σ H Q->Xf X.K (tI X.K xr mi) (tG X.K tw) (tT X.K kj M) (tE X.K em) nl cap σ H Q:=by
 rintro σ H Q ⟨φ,A,ρ,S,re,h⟩
 refine⟨φ,A,ρ,S,re,qK (qf.mp h) (λj A1 u b H1 J l s q D c t=>?_) λ_ _ z=>z⟩;have ln:Le X.K b H1 b (upd H1 D (.lst [])):=Le.new c;have a:=qf.mp u;refine jB.read (q.mono ⟨ln.ex,ln.tp,ln.fz⟩) (s.lay c) ((re.mono (l.trans ln)).ZZ) jN (s.notin c t) .nil ?_ (f:=j.len) (acc:=[]);cases e:jB j tw M em j.len 0 (JL nl cap ρ) [] A1 with
 |ok p A2=>
  rw[e]at a;intro d y g zs o n w r v i;have L:=l.trans (Le.ofD c o);exact a d y D zs L w (l.st D c) v n i
 |exc x A2=>rw[e]at a;exact a.elim|bad=>rw[e]at a;exact a.elim
noncomputable def qL (q:j4):Ev:=λρ A=>(q ρ A).bind λws A1=>.ok (.ref A1.length) (A1++[.lst ws])
def qL.read {q:j4}{K:Frag}:∀σ H Q,tM K xr (qL q) σ H Q->tF K xr q σ H Q:=by
 rintro σ H Q ⟨φ,A,ρ,S,re,h⟩
 refine⟨φ,A,ρ,S,re,qK (qf.mp h) (λws A1 d b H1 D ys L s h0 c N r=>?_) λ_ _ z=>z⟩;have l:Le K φ H (b++[D]) H1:=L.YS h0;have lw:QF K b H1 (b++[D]) H1:=⟨λn a h=>by
  have:=(cq.mp h).1
  rw[ai this];exact h,λ_ _ h=>h,λ_ _ _ h=>h⟩
 refine d _ _ _ l (s.YS (o:=.lst ws) c N ⟨ys,c,r.monoW lw⟩) ⟨D,rfl,?_⟩;rw[<- s.len];simp
inductive MQ (K:Frag)(xr:XR)(mq:j4)(σ:St)(H:Hp)(Q:VK):Prop
 |mk (φ:bS) (A:Hx) (ρ:En) (S:zT K φ A H) (re:RE K φ H ρ σ) (h:(mq ρ A).post (λws A1=>∀φ1 H1 a ys,Le K φ H φ1 H1->zT K φ1 A1 H1->(jy K H1 a ys∨qS K H1 a ys)->zK K φ1 H1 ws ys->Q (.ref a) H1) (EB K φ H xr))
noncomputable def tQ (K:Frag)(x:XR)(M:j4):TE:=λσ H Q=>MQ K x M σ H Q
def SQ (X:Cx)(x:XR)(e:Expr)(M:j4):Prop:=PE X e (tQ X.K x M)
noncomputable def qb (w:W)(A:Hx):Option (List W):=match w with
 |.tup ws=>some ws|.ref n=>match A[n]? with
  |some (.lst ws)=>some ws|some (.ro ws)=>some ws|_=>none
 |_=>none
def Gg {K:Frag}{A:Hx}{w:W}{ws:List W}(S:zT K φ A H)(q:RV K φ H w v)(e:qb w A=some ws):∃a ys,v=.ref a/\(jy K H a ys∨qS K H a ys)/\zK K φ H ws ys:=by
 unfold qb at e;cases w with
 |tup xs=>cases e;obtain⟨a,ys,b,d,E⟩:=q;exact⟨a,ys,b,.inr d,E⟩|ref n=>
  obtain⟨a,b,d⟩:=q;dsimp only at e;cases ea:A[n]? with
  |none=>rw[ea]at e;cases e|some o=>
   rw[ea]at e;obtain⟨f,E,r⟩:=S.ob n o ea;rw[d]at E;cases E;cases o with
   |lst xs=>cases e;obtain⟨ys,c,h⟩:=r;exact⟨a,ys,b,.inl (jy.of c),h⟩|ro xs=>cases e;obtain⟨ys,c,h⟩:=r;exact⟨a,ys,b,.inl c.sq,h⟩|dct xs=>cases e|tab _ _=>cases e
 |non=>cases e|bl _=>cases e|clo _ _ _=>cases e|xc _=>cases e|int _=>cases e|str _=>cases e
def qw (m:Ev):j4:=λρ A=>(m ρ A).bind λw A1=>match qb w A1 with
 |some ws=>.ok ws A1|none=>.bad
def Xx (w:W)(A:Hx):Option jV:=match qb w A with
 |some ws=>some ⟨λA i=>(qb w A).map λws=>ws[i]?,ws.length⟩|none=>none
def qj (m:Ev):Ei:=λρ A=>(m ρ A).bind λw A1=>match Xx w A1 with
 |some j=>.ok j A1|none=>.bad
def eF (K:Frag)(t:TE):TI:=λσ H r=>t σ H λx H1=>∃a,x=.ref a/\(((∃xs,jy K H1 a xs)/\r (Mz K a) H1)∨((∃xs,qS K H1 a xs)/\r (MJ K a) H1))
def eG {l:Expr}{t:TE}(j:PE X l t):PI X tg l (eF X.K t):=by
 intro pins s σ H u I h;refine qa (j pins s σ H _ I h) λv s1 ⟨x,H1,i,g,Q⟩=>?_;obtain⟨a,e,q⟩:=Q;subst e;cases g;have f:∀b∈[s1.heap.objs.size],wV X pins H1 b:=λb n=>by
  have e:b=s1.heap.objs.size:=by simpa using n
  subst e;exact i.fpOk (av _) (i.hok.fresh (av _))
 rcases q with ⟨⟨xs,d⟩,q⟩|⟨⟨xs,d⟩,q⟩
 ·obtain⟨c,r,p,z⟩:=i.list d
  refine wpAny_pyIter_list p.isList ?_;exact⟨s1.heap.objs.size,[s1.heap.objs.size],_,_,H1,rfl,i.kept (t':=s1.toks) λb o e=>af _ e,ED a _,⟨_,au _ rfl,rfl,rfl⟩,f,q⟩
 ·obtain⟨c,r,p,z⟩:=i.tuple d
  refine wpAny_pyIter_tuple (show s1.heap.IsTuple a c.toArray from p) ?_
  exact⟨s1.heap.objs.size,[s1.heap.objs.size],_,_,H1,rfl,i.kept (t':=s1.toks) λb o e=>af _ e,FC a _,⟨_,au _ rfl,rfl,rfl⟩,f,q⟩
noncomputable def yd (lo:Int)(n:Nat):jV:=⟨λ_ i=>if i<n then some (some (.int (lo+i))) else some none,n⟩
def Nu {K:Frag}{lo:Int}:Qy K φ H (yd lo n) (Wx lo n):=λi a h A lw S=>by
 unfold yd;dsimp only
 by_cases hi:i<n
 ·rw[ah hi]
  refine⟨λw e=>?_,λe=>by cases e⟩
  cases e;exact⟨hi,λx H1 ⟨b,E⟩=>by subst b;exact⟨.refl,S,E⟩⟩
 ·rw[ar hi]
  exact⟨λw e=>(by cases e),λ_=>Nat.le_of_not_lt hi⟩
noncomputable def jP (i:Int):Bool:=decide (-(2 ^ 62)<=i)&&decide (i<2 ^ 62)
def QM {i:Int}(h:jP i=true):-(2 ^ 62)<=i/\i<2 ^ 62:=by
 unfold jP at h;rw[ak,aj,aj]at h;exact h
def qR (m:Ev):Ei:=λρ A=>(m ρ A).bind λw A1=>match w with
 |.int j=>if jP j then .ok (yd 0 j.toNat) A1 else .bad|_=>.bad
def Qo (m M:Ev):Ei:=λρ A=>(m ρ A).bind λw A1=>(M ρ A1).bind λa A2=>match w,a with
 |.int i,.int j=>if jP i&&jP j then .ok (yd i (j-i).toNat) A2 else .bad|_,_=>.bad
end
abbrev Fn:=List W->Hx->R W
def ku (K:Frag)(x:Str)(C:Value):Prop:=nsIn K mainGlobals x=some (some C)
def XE (K:Frag)(E:XK)(x:Str)(H:Hp):Prop:=∀C d,ku K x C->E C d H
inductive Wu (K:Frag)(n:Nat)(f:Fn)(vs:List V)(H:Hp)(Q:VK)(E:XK):Prop
 |mk (len:vs.length=n) (φ:bS) (A:Hx) (ws:List W) (S:zT K φ A H) (r:zK K φ H ws vs) (q:(f ws A).post (PB K φ H Q) (EB K φ H (XE K E)))
def Wu.len {K:Frag}{f:Fn}{vs:List V}{Q:VK}{E:XK}(h:Wu K n f vs H Q E):vs.length=n:=by cases h;assumption
inductive zP (P:Program)(w:World)(K:Frag)(mg:b8)(base:Heap)(k:Nat)(x:Str)(n:Nat)(f:Fn):Prop
 |mk (fa:Addr) (fd:FuncData) (ps:bV) (F:kh P w K mg base g8 k fa fd ps (Wu K n f)) (at_:mg x=some (.ref fa)) (kp:keepIn K (.ref fa)=true) (bi:Binds K fd ps [])
noncomputable def zJ (f:Fn)(a:Ea):Ev:=λρ A=>(a ρ A).bind λws A1=>f ws A1
section
variable {m ma:Ev}
def Z3 (m:Ea)(n:Nat):Prop:=∀ρ A ws a,m ρ A=.ok ws a->ws.length=n
def zF:Z3 zl 0:=λ_ _ _ _ h=>by unfold zl at h;cases h;rfl
def zm {M:Ea}(h:Z3 M n):Z3 (zc ma M) (n+1):=λρ A ws a e=>by
 unfold zc at e;cases h1:ma ρ A with
 |ok x A1=>
  rw[h1,zV]at e;cases H:M ρ A1 with
  |ok xs A2=>rw[H,zV]at e;cases e;simp[h ρ A1 xs _ H]|exc x A2=>rw[H]at e;cases e|bad=>rw[H]at e;cases e
 |exc x A1=>rw[h1]at e;cases e|bad=>rw[h1]at e;cases e
end
noncomputable def qU (n:Nat)(m:Ex):Fn:=λws A=>(m (ws.map some++List.replicate (n-ws.length) none) A).nox.bind λf A1=>match f with
 |.rt w=>.ok w A1|.nx _=>.ok .non A1|_=>.bad
theorem RE.start {K:Frag}{ws:List W}{vs:List V}(h:zK K φ H ws vs):RE K φ H (ws.map some++List.replicate (N.length-ws.length) none) (L2.start N vs):=by
 unfold L2.start;refine⟨by simp[h.length],λi w e=>?_⟩
 by_cases hi:i<ws.length
 ·rw[ai (by simpa using hi),aw]at e
  cases hw:ws[i]? with
  |none=>rw[hw]at e;cases e|some c=>
   rw[hw]at e;cases e;obtain⟨v,b,a⟩:=h.get hw;refine⟨v,?_,a⟩;rw[ai (by rw[ag,<- h.length];exact hi),aw,b];rfl
 ·rw[ay (by simpa using hi),bA]at e
  split at e<;>cases e
section
variable {K:Frag}
theorem zP.mono {k:Nat}{f:Fn}(F:zP P w K mg base j x n f)(h:j<=k):zP P w K mg base k x n f:=by cases F with|mk d fd ps F a b c=>exact⟨d,fd,ps,F.mono h,a,b,c⟩
theorem zP.imp {k:Nat}{f g:Fn}(F:zP P w K mg base k x n f)(h:∀ws A,ws.length=n->g ws A=.bad∨f ws A=g ws A):zP P w K mg base k x n g:=by
 obtain⟨d,fd,ps,F,a,b,c⟩:=F;refine⟨d,fd,ps,F.imp λvs H Q E ⟨l,φ,A,ws,S,r,q⟩=>⟨l,φ,A,ws,S,r,?_⟩,a,b,c⟩;rcases h ws A (by rw[r.length];exact l) with e|e
 ·rw[e]at q;exact q.elim
 ·rw[e];exact q
end
section
variable {K:Frag}
def jW {a:α}{A:Hx}:q9 (R.ok a A):=λ_ _ h=>by cases h
def jd:q9 (R.bad:R α):=λ_ _ h=>by cases h
def ZR {c:Prop} [Decidable c] {a b:R α}(H:q9 a)(h:q9 b):q9 (if c then a else b):=by split<;>assumption
noncomputable def Zw (f:Int->Int->W):W->W->Hx->R W
 |.int i,.int j,A=>.ok (f i j) A|_,_,_=>.bad
def Ja {f:Int->Int->W}:∀x y A,q9 (Zw f x y A):=λx y A=>by
 unfold Zw;split
 ·exact jW
 ·exact jd
noncomputable def QB (c:Int->Int->Bool)(f:Int->Int->W):W->W->Hx->R W
 |.int i,.int j,A=>if c i j then .ok (f i j) A else .bad|_,_,_=>.bad
def Tn {c:Int->Int->Bool}{f:Int->Int->W}:∀x y A,q9 (QB c f x y A):=λx y A=>by
 unfold QB;split
 ·exact ZR jW jd
 ·exact jd
def Q7 {f:Int->Int->W}{g:Int->Int->V}(h:∀i j φ H,RV K φ H (f i j) (g i j)):yv K (ZC g) (Zw f):=λφ A H x y u v Q S a q p=>by
 cases u with
 |int i=>cases v with
  |int j=>obtain rfl:=a;obtain rfl:=q;exact⟨i,j,rfl,rfl,p φ H _ .refl S (h i j φ H)⟩|_=>exact p.elim
 |_=>exact p.elim
def UZ {c:Int->Int->Bool}{C:Int->Int->Prop}{f:Int->Int->W}{g:Int->Int->V}(d:∀i j,c i j=true->C i j)(h:∀i j φ H,RV K φ H (f i j) (g i j)):yv K (rI C g) (QB c f):=λφ A H x y u v Q S b q p=>by
 cases u with
 |int i=>cases v with
  |int j=>
   obtain rfl:=b;obtain rfl:=q;unfold QB at p;dsimp only at p
   by_cases a:c i j=true
   ·rw[ah a]at p;exact⟨i,j,rfl,rfl,d i j a,p φ H _ .refl S (h i j φ H)⟩
   ·rw[ar a]at p;exact p.elim
  |_=>exact p.elim
 |_=>exact p.elim
noncomputable def J1 (i j:Int):Bool:=(decide (-(2 ^ 64)<i)&&decide (i<2 ^ 64)) || (decide (-(2 ^ 64)<j)&&decide (j<2 ^ 64))
noncomputable def Xz (_ j:Int):Bool:=decide (0<j)
def BY (i j:Int)(h:J1 i j=true):Wq i j:=by
 unfold J1 at h;simp only[bx,ak,decide_eq_true_eq]at h;exact h
def Bw (i j:Int)(h:Xz i j=true):(λ_ j=>0<j) i j:=by
 unfold Xz at h;simpa using h
def yT:=Zw λi j=>.int (i-j)
def gD:=QB Xz λi j=>.int (i%j)
def gk:=Zw λi j=>.int (Builtin.bitXor i j)
def kF:=Zw λi j=>.bl (decide (i<j))
def kG:=Zw λi j=>.bl (decide (i<=j))
def XX:=Zw λi j=>.bl (decide (j<i))
def TX:=Zw λi j=>.bl (decide (j<=i))
noncomputable def Ts (i j:Int):Bool:=decide (0<=j)&&decide (j<=1000000)&&decide (i.natAbs<2 ^ 64)
def By (i j:Int)(h:Ts i j=true):Mf i j:=by
 unfold Ts at h;simp only[ak,decide_eq_true_eq]at h;exact⟨h.1.1,h.1.2,h.2⟩
def JV:=QB Ts λi j=>.int (i ^ j.toNat)
variable {a b c:Expr}
noncomputable def yr:W->Hx->R W
 |.int i,A=>.ok (.int (-i)) A|_,_=>.bad
structure wR (X:Cx)(op:CmpOp)(g:W->W->Hx->R W):Prop where
 ex:∃r:R2,jc X (compareOp op) r/\(∀x y A,q9 (g x y A))/\yv X.K r g
 mks:∀b,op≠.In->op≠.NotIn->behindInMarks op b=false
def Q2 {r:R2}{g:W->W->Hx->R W}(a:jc X (compareOp op) r)(H:∀x y A,q9 (g x y A))(h:yv X.K r g):wR X op g:=⟨⟨r,a,H,h⟩,λb a1 a2=>DK b a1 a2⟩
def JW:wR X .Lt kF:=Q2 dH Ja (Q7 λ_ _ _ _=>rfl)
def Ji:wR X .LtE kG:=Q2 dI Ja (Q7 λ_ _ _ _=>rfl)
def eI:wR X .Gt XX:=Q2 dJ Ja (Q7 λ_ _ _ _=>rfl)
def eJ:wR X .GtE TX:=Q2 dM Ja (Q7 λ_ _ _ _=>rfl)
end
inductive Ty where
 |non|bl|int|str|tup|lst|dct
 deriving DecidableEq
noncomputable def Ty.nm:Ty->String
 |.non => "NoneType" | .bl => "bool" | .int => "int" | .str => "str" | .tup => "tuple" | .lst => "list" | .dct => "dict"
noncomputable def jY (w:W)(A:Hx):Option Ty:=match w with
 |.non=>some .non|.bl _=>some .bl|.int _=>some .int|.str _=>some .str|.tup _=>some .tup|.ref n=>match A[n]? with
  |some (.lst _)=>some .lst|some (.dct _)=>some .dct|_=>none
 |_=>none
noncomputable def kA (a b:Ty):Bool:=a==b || (a==.bl&&b==.int)
def GW {K:Frag}(a b:Ty):kitOne K (.type a.nm) (.type b.nm)=some (kA a b):=by
 cases a<;>cases b<;>rfl
section
variable {xr:XR}{K:Frag}{a c:Expr}{es:bY}{m:Ev}
def J8 (K:Frag)(H:Hp)(x:V)(t:Ty):Prop:=gH K H x (.type t.nm)∨∃a xs,x=.ref a/\qS K H a xs/\t=.tup
def OB {A:Hx}{w:W}{t:Ty}(S:zT K φ A H)(q:RV K φ H w v)(e:jY w A=some t):J8 K H v t:=by
 cases w with
 |non=>cases e;obtain rfl:=q;exact .inl .non|bl k=>cases e;obtain rfl:=q;exact .inl (.bl k)|clo _ _ _=>cases e|xc _=>cases e|int k=>cases e;obtain rfl:=q;exact .inl (.int k)|str k=>cases e;obtain rfl:=q;exact .inl (.str k)|tup ws=>cases e;obtain⟨a,vs,rfl,h,_⟩:=q;exact .inr ⟨a,vs,rfl,h,rfl⟩|ref n=>
  obtain⟨a,rfl,c⟩:=q;unfold jY at e;dsimp only at e;cases E:A[n]? with
  |none=>rw[E]at e;cases e|some o=>
   rw[E]at e;obtain⟨d,b,r⟩:=S.ob n o E;rw[c]at b;cases b;cases o with
   |lst ws=>cases e;obtain⟨vs,z,_⟩:=r;exact .inl (.lst z)|dct ws=>cases e;obtain⟨vs,z,_⟩:=r;exact .inl (.dK z)|tab _ _=>cases e|ro ws=>cases e
def J8.kit {x:V}{t:Ty}(I:Inv X pins σ H s)(r:RelV x u)(h:J8 X.K H x t):
  (∀{Q:bX}{E:bX}{A:Around}{c:Ty},(∀tk,Q (.bool (kA t c)) { s with toks:=tk })->wpAny (model X.prog X.w) A (call (.builtin "isinstance") [u,.type c.nm]) Q E s):=by
 intro Q E A c q;rcases h with h|⟨a,xs,rfl,h,rfl⟩
 ·exact PM I r h (GW t c) q
 ·cases (show u=Value.ref a from r)
  obtain⟨i,_,⟨o,d,b,_⟩,_⟩:=I.tuple h;exact bF kitx_tuple I.kIn ⟨o,d,b⟩ (GW .tup c) (λz=>nomatch z) q
def eK (K:Frag):List V->Hp->VK->Prop:=λxs H Q=>∃x t c,xs=[x,.ty (Ty.nm c)]/\J8 K H x t/\Q (.bl (kA t c)) H
def Av:yc X (.builtin "isinstance") (eK X.K):=by
 intro pins s σ H xs us Q I r h;obtain⟨x,t,c,rfl,d,q⟩:=h;obtain⟨u,U,rfl,b,a⟩:=vals2 r;cases (show U=Value.type c.nm from a)
 exact d.kit I b λtk=>⟨.bl (kA t c),H,I.tok tk,rfl,q⟩
def yJ (t:Ty)(m:Ev):Ev:=λρ A=>(m ρ A).bind λw A1=>match jY w A1 with
 |some t'=>.ok (.bl (kA t' t)) A1|none=>.bad
def zD:W->W->Hx->R W:=λx y A=>match qb x A,y with
 |some ws,.int i=>match gr ws i with
  |some w=>.ok w A|none=>.bad
 |_,_=>.bad
def eL:∀x y A,q9 (zD x y A):=λx y A=>by
 unfold zD;split
 ·split
  ·exact jW
  ·exact jd
 ·exact jd
def Cq {ws:List W}{i:Int}{w:W}(r:zK K φ H ws ys)(e:gr ws i=some w):∃y,gr ys i=some y/\RV K φ H w y:=by
 unfold gr at e ⊢;rw[<- r.length];cases h:Zb ws.length i with
 |none=>rw[h]at e;cases e|some j=>
  rw[h]at e;obtain⟨y,b,a⟩:=r.get (i:=j) e;exact⟨y,b,a⟩
def eM:yv K (MW K) zD:=λφ A H x y u v Q S c q p=>by
 unfold zD at p;cases es:qb u A with
 |none=>rw[es]at p;exact p.elim|some ws=>
  rw[es]at p;cases v with
  |int i=>
   obtain rfl:=q;dsimp only at p;cases e:gr ws i with
   |none=>rw[e]at p;exact p.elim|some w=>
    rw[e]at p;obtain⟨a,ys,rfl,z,r⟩:=Gg S c es;obtain⟨Y,b,h⟩:=Cq r e;rcases z with z|z
    ·exact .inl ⟨a,ys,i,Y,rfl,rfl,z,b,p φ H _ .refl S h⟩
    ·exact .inr (.inl ⟨a,ys,i,Y,rfl,rfl,z,b,p φ H _ .refl S h⟩)
  |non=>exact p.elim|bl _=>exact p.elim|str _=>exact p.elim|tup _=>exact p.elim|ref _=>exact p.elim|clo _ _ _=>exact p.elim|xc _=>exact p.elim
def Z4 (K:Frag)(r:List V->Hp->VK->Prop)(g:List W->Hx->R W):Prop:=∀φ A H a ys ws Q,zT K φ A H->(jy K H a ys∨qS K H a ys)->zK K φ H ws ys->(g ws A).post (PB K φ H Q) ZA->r [.ref a] H Q
noncomputable def mQ (g:List W->Hx->R W)(q:j4):Ev:=λρ A=>(q ρ A).bind λws A1=>g ws A1
def mQ.read {g:List W->Hx->R W}{q:j4}(hn:∀ws A,q9 (g ws A))(c:Z4 X.K r g):∀σ H Q,tM X.K xr (mQ g q) σ H Q->WC r (Xn (tQ X.K xr q) Tz) σ H Q:=by
 rintro σ H Q ⟨φ,A,ρ,S,re,h⟩
 refine⟨φ,A,ρ,S,re,qK (qf.mp h) (λws A1 d b H1 a ys l s z r=>?_) λ_ _ z=>z⟩;exact c b A1 H1 a ys ws Q s z r (qK (Yp (hn _ _) d) (λ_ _ z=>z.mono l) λ_ _ z=>z)
def K8 {id:String}{g:List W->Hx->R W}{q:j4}(d:yc X (.builtin id) r)(hn:∀ws A,q9 (g ws A))(a:Z4 X.K r g)(hm:X.mg x=none)(v:bootBuiltins x=some (.builtin id))(f:SQ X xr e q)(c:Gl X x:=by rfl)
  (H:x ≠ "__name__":=by decide)(b:(x==("__debug__":Str))=false:=by decide)(he:starEach [e] X.env=(false,eval e X.env)::starEach [] X.env:=by rfl)(h:(backTo pos (starEach [] X.env)).any (·.1)=false:=by rfl):
  SE X xr (.Call (.Name x p) [e] [] pos) (mQ g q):=PE.imp (Qa d c hm v (jo f j5 he) H b he h) (mQ.read hn a)
def eN {id:String}{g:List W->Hx->R W}{q:j4}(d:yc X (.type id) r)(hn:∀ws A,q9 (g ws A))(a:Z4 X.K r g)(hm:X.mg x=none)(v:bootBuiltins x=some (.type id))(f:SQ X xr e q)(c:Gl X x:=by rfl)
  (H:x ≠ "__name__":=by decide)(b:(x==("__debug__":Str))=false:=by decide)(he:starEach [e] X.env=(false,eval e X.env)::starEach [] X.env:=by rfl)(h:(backTo pos (starEach [] X.env)).any (·.1)=false:=by rfl):
  SE X xr (.Call (.Name x p) [e] [] pos) (mQ g q):=PE.imp (Jx d c hm v (jo f j5 he) H b he h) (mQ.read hn a)
noncomputable def qZ:List W->Hx->R W:=λws A=>.ok (.int ws.length) A
def Az:Z4 K (λxs H Q=>∃p ys,xs=[.ref p]/\(jy K H p ys∨qS K H p ys)/\Q (.int ys.length) H) qZ:=λφ A H a ys ws Q S z r p=>
 ⟨a,ys,rfl,z,by rw[<- r.length];exact p φ H _ .refl S rfl⟩
noncomputable def jU:List W->Hx->R W:=λws A=>.ok (.tup ws) A
def AA:Z4 K (λxs H Q=>∃p ys,xs=[.ref p]/\((jy K H p ys/\∀l,H l=none->Q (.ref l) (upd H l (.tup ys)))∨(qS K H p ys/\Q (.ref p) H))) jU:=λφ A H a ys ws Q S z r p=>by
 refine⟨a,ys,rfl,?_⟩;rcases z with z|z
 ·refine .inl ⟨z,λl h=>?_⟩
  obtain⟨a1,a2,b⟩:=Q9 S h r;exact p _ _ _ a1 a2 b
 ·exact .inr ⟨z,p φ H _ .refl S ⟨a,ys,rfl,z,r⟩⟩
variable {b:Expr}
def KG {a:Addr}(I:Inv X pins σ H s)(l:X.calm=true)(z:jy X.K H a ys∨qS X.K H a ys)
  (h:∀(c:bR)(j:Addr)(fp wr:bS)(S:Nat->Heap->Prop)(s2:Shared),Vals ys c->ys.length<=sizeLine->Walks X.prog X.w X.A.in1 j fp wr c.length (λi v=>c[i]? =some v) S->S 0 s2.heap->(∀b∈fp,b<s2.heap.objs.size)->
   (∀(h':Heap)(tk:Nat),(∀b o,b∉wr->s2.heap.get? b=some o->h'.get? b=some o)->Inv X pins σ H { s2 with heap:=h',toks:=tk })->Q (.ref j) s2):
  wpAny (model X.prog X.w) X.A.in1 (pyIter (.ref a)) Q E s:=by
 have g:X.A.in1.handled=none:=I.ok.hd l;have keep:∀(o:Obj)(h':Heap)(tk:Nat),(∀b u,b∉[s.heap.objs.size]->(s.heap.push o).get? b=some u->h'.get? b=some u)->Inv X pins σ H { s with heap:=h',toks:=tk }:=λo h' tk k=>I.kept λb u e=>k b u (by
  intro hm;have q:b=s.heap.objs.size:=by simpa using hm
  exact absurd (q ▸ aH e) (aT _)) (af _ e)
 rcases z with z|z
 ·obtain⟨c,r,p,f⟩:=I.list z
  have t:a<s.heap.objs.size:=by obtain⟨o,n,e,_⟩:=p;exact aH e
  refine wpAny_pyIter_list p.isList ?_;have W:=Walks.list (prog:=X.prog) (w:=X.w) g s.heap.objs.size a (aK t) c.toArray;rw[aC]at W;simp only[List.getElem?_toArray]at W;refine h c s.heap.objs.size _ _ _ _ r f W ⟨⟨_,au _ rfl,rfl,rfl⟩,p.isList.at λo e=>af _ e⟩ (λb d=>?_) λh' tk k=>keep _ h' tk k;show b<(s.heap.push _).objs.size;rw[bf];rcases cn.mp d with e|d
  ·rw[e];exact bj _
  ·have e:b=a:=by simpa using d
   rw[e];exact a8 t
 ·obtain⟨c,r,p,f⟩:=I.tuple z
  have t:a<s.heap.objs.size:=p.lt;have P:s.heap.IsTuple a c.toArray:=p;refine wpAny_pyIter_tuple P ?_;have W:=Walks.tuple (prog:=X.prog) (w:=X.w) g s.heap.objs.size a (aK t) c.toArray;rw[aC]at W;simp only[List.getElem?_toArray]at W;refine h c s.heap.objs.size _ _ _ _ r f W ⟨⟨_,au _ rfl,rfl,rfl⟩,P.at λo e=>af _ e⟩ (λb d=>?_) λh' tk k=>keep _ h' tk k;show b<(s.heap.push _).objs.size;rw[bf];rcases cn.mp d with e|d
  ·rw[e];exact bj _
  ·have e:b=a:=by simpa using d
   rw[e];exact a8 t
noncomputable def Wh:V->Option Bool
 |.bl b=>some b|.int i=>some (i != 0)|.non=>some false|_=>none
noncomputable def Wd:W->Option Bool
 |.bl b=>some b|.int i=>some (i != 0)|.non=>some false|_=>none
def Cy {w:W}{k:Bool}(q:RV K φ H w v)(e:Wd w=some k):Wh v=some k:=by
 cases w<;>first
  |(cases e;done)
  |(obtain rfl:=q;exact e)
def El {A:Around}{k:Bool}{Q:Bool->Shared->Prop}(r:RelV v u)(e:Wh v=some k)(h:Q k s):wpAny (model X.prog X.w) A (truthy u) Q E s:=by
 cases v with
 |bl b=>cases e;cases r;exact wpAny_truthy_bool h|int i=>
  cases e;obtain⟨t,rfl⟩:=r;exact PySem.P.truthy_int h
 |non=>cases e;cases r;exactλ_ _ _=>h|_=>cases e
def Zl:List W->Option (List Bool)
 |[]=>some []|w::ws=>match Wd w,Zl ws with
  |some k,some K=>some (k::K)|_,_=>none
theorem R1:∀{ws:List W}{ys:List V}{s:List Bool},zK K φ H ws ys->Zl ws=some s->∀(i:Nat)(y:V),ys[i]? =some y->∃k,s[i]? =some k/\Wh y=some k
 |[],_,_,r,e,i,y,h=>by cases r;simp at h|w::ws,_,s,⟨v,r,g,q,t⟩,e,i,y,h=>by
  subst g;unfold Zl at e;cases E:Wd w with
  |none=>rw[E]at e;cases e|some k=>
   cases a:Zl ws with
   |none=>rw[E,a]at e;cases e|some b=>
    rw[E,a]at e;cases e;cases i with
    |zero=>simp at h;subst h;exact⟨k,by simp,Cy q E⟩|succ i=>simp at h;obtain⟨c,f,d⟩:=R1 t a i y h;exact⟨c,by simpa using f,d⟩
theorem Pq:∀{ws:List W}{K:List Bool},Zl ws=some K->K.length=ws.length
 |[],_,e=>by cases e;rfl|w::ws,K,e=>by
  unfold Zl at e;cases a:Wd w with
  |none=>rw[a]at e;cases e|some k=>
   cases E:Zl ws with
   |none=>rw[a,E]at e;cases e|some b=>rw[a,E]at e;cases e;simp[Pq E]
def range_all (K:List Bool):(List.range K.length).all (λi=>K.getD i false)=K.all id:=by
 rw[Bool.eq_iff_iff,bw,bw]
 constructor
 ·intro h x a
  obtain⟨i,hi,rfl⟩:=bM a
  have:=h i (cu.mpr hi)
  rw[ae,aa hi]at this;exact this
 ·intro h i hi
  have H:=cu.mp hi;rw[ae,aa H];exact h _ (aN H)
def Mw (K:Frag)(f:List Bool->Bool):List V->Hp->VK->Prop:=λxs H Q=>∃a ys s,xs=[.ref a]/\(jy K H a ys∨qS K H a ys)/\s.length=ys.length/\(∀(i:Nat)(y:V),ys[i]? =some y->∃k,s[i]? =some k/\Wh y=some k)/\Q (.bl (f s)) H
def Bk {K:List Bool}{A:Around}(r:Vals ys its)(l:K.length=ys.length)(t:∀(i:Nat)(y:V),ys[i]? =some y->∃k,K[i]? =some k/\Wh y=some k):TruthOf X.prog X.w A (λi v=>its[i]? =some v) λi=>K.getD i false:=by
 intro i v s Q E P H;have hi:i<its.length:=(cq.mp P).1;have h:i<ys.length:=by rw[r.length];exact hi
 obtain⟨u,a,d⟩:=r.get (i:=i) (x:=ys[i]) (by simp[h])
 rw[P]at a;cases a;obtain⟨k,c,b⟩:=t i ys[i] (by simp[h])
 dsimp only at H;rw[ae,c]at H;exact El d b H
def CN (f:X.calm=true):yc X (.builtin "all") (Mw X.K λb=>b.all id):=by
 intro pins s σ H xs us Q I r h;obtain⟨a,ys,b,rfl,z,l,t,q⟩:=h;obtain⟨u,rfl,d⟩:=vals1 r;cases d;refine call_all_walk (KG I f z λc g fp wr S s2 v j W st p back=>?_);refine⟨g,fp,wr,_,_,S,λi=>b.getD i false,rfl,W,st,Bk v l t,λh' tk k=>?_⟩;have e:c.length=b.length:=by rw[l,v.length]
 rw[e,range_all];exact⟨.bl _,H,back h' tk k,rfl,q⟩
def Zp (f:List Bool->Bool):List W->Hx->R W:=λws A=>match Zl ws with
 |some K=>.ok (.bl (f K)) A|none=>.bad
def eO {f:List Bool->Bool}:∀ws A,q9 (Zp f ws A):=λws A=>by
 unfold Zp;split
 ·exact jW
 ·exact jd
def An {f:List Bool->Bool}:Z4 K (Mw K f) (Zp f):=λφ A H a ys ws Q S z r p=>by
 unfold Zp at p;cases e:Zl ws with
 |none=>rw[e]at p;exact p.elim|some s=>
  rw[e]at p;exact⟨a,ys,s,rfl,z,by rw[Pq e,r.length],R1 r e,p φ H _ .refl S rfl⟩
abbrev Z2:=Zp λK=>K.all id
def eQ:jc X (compareOp .Is) (λx y H Q=>∃i j,x=.bl i/\y=.bl j/\Q (.bl (i==j)) H):=by
 intro pins s σ H x y v u Q I a r h;obtain⟨i,j,rfl,rfl,q⟩:=h;cases a;cases r;exact is_bool ⟨.bl _,H,I,rfl,q⟩
def EL:jc X (compareOp .IsNot) (λx y H Q=>∃i j,x=.bl i/\y=.bl j/\Q (.bl (!(i==j))) H):=by
 intro pins s σ H x y v u Q I a r h;obtain⟨i,j,rfl,rfl,q⟩:=h;cases a;cases r;exact isnot_bool ⟨.bl _,H,I,rfl,q⟩
noncomputable def Te:W->Bool
 |.non=>true|_=>false
def Pf {w:W}(q:RV K φ H w v):decide (v=.non)=Te w:=by
 cases w with
 |non=>obtain rfl:=q;rfl|bl b=>obtain rfl:=q;rfl|clo _ _ _=>obtain⟨a,_,_,_,_,_,_,rfl,_⟩:=q;rfl|xc _=>obtain⟨a,_,_,_,rfl,_⟩:=q;rfl|int b=>obtain rfl:=q;rfl|str b=>obtain rfl:=q;rfl|tup ws=>obtain⟨a,vs,rfl,_⟩:=q;rfl|ref n=>obtain⟨a,rfl,_⟩:=q;rfl
def wH (neg:Bool):W->W->Hx->R W:=λx y A=>match x,y with
 |.bl i,.bl j=>.ok (.bl (if neg then !(i==j) else i==j)) A|w,.non=>.ok (.bl (if neg then !Te w else Te w)) A|_,_=>.bad
def Nj {n:Bool}:∀x y A,q9 (wH n x y A):=λx y A=>by
 unfold wH;split
 ·exact jW
 ·exact jW
 ·exact jd
def eR:yv K (λx y H Q=>(y=.non/\Q (.bl (decide (x=.non))) H)∨∃i j,x=.bl i/\y=.bl j/\Q (.bl (i==j)) H) (wH false):=λφ A H x y u v Q S b a p=>by
 cases v with
 |non=>
  have q:y=.non:=a;refine .inl ⟨q,?_⟩;rw[Pf b];cases u<;>exact p φ H _ .refl S rfl
 |bl j=>
  cases u with
  |bl i=>obtain rfl:=b;obtain rfl:=a;exact .inr ⟨i,j,rfl,rfl,p φ H _ .refl S rfl⟩|_=>exact p.elim
 |_=>cases u<;>exact p.elim
def EG:yv K (λx y H Q=>(y=.non/\Q (.bl (!decide (x=.non))) H)∨∃i j,x=.bl i/\y=.bl j/\Q (.bl (!(i==j))) H) (wH true):=λφ A H x y u v Q S b a p=>by
 cases v with
 |non=>
  have q:y=.non:=a;refine .inl ⟨q,?_⟩;rw[Pf b];cases u<;>exact p φ H _ .refl S rfl
 |bl j=>
  cases u with
  |bl i=>obtain rfl:=b;obtain rfl:=a;exact .inr ⟨i,j,rfl,rfl,p φ H _ .refl S rfl⟩|_=>exact p.elim
 |_=>cases u<;>exact p.elim
def Mg:wR X .Is (wH false):=Q2 (dN.or eQ) Nj eR
def O2:wR X .IsNot (wH true):=Q2 (A8.or EL) Nj EG
end
noncomputable def Mt (outer sc:Scope):Bool:=sc.kind==.function&&decide ((sc.names.map (·.1)).Nodup)&&sc.names.all λy=>y.2 != .free || (outer.names.lookup y.1==some .cell || outer.names.lookup y.1==some .free)
def cps (h:Mt X.env.scope sc=true):ZL X sc:=by
 unfold Mt at h;rw[ak,ak,aj,aM,bw]at h;refine⟨h.1.1,h.1.2,λy H e=>?_⟩
 have:=h.2 y H
 rw[e]at this;simp only[bne_self_eq_false,Bool.false_or,bx,aM]at this;exact this
section
variable {xr:XR}{K:Frag}{a b:Expr}{ma mb:Ev}
theorem zT.lst {φ:bS}{A:Hx}{H:Hp}{n:Nat}{ws:List W}{v:V}(S:zT K φ A H)(q:RV K φ H (.ref n) v)(e:A[n]? =some (.lst ws)):∃p vs,v=.ref p/\φ[n]? =some p/\H p=some (.lst vs)/\zK K φ H ws vs:=by
 obtain⟨p,rfl,a⟩:=q;obtain⟨P,h,vs,c,b⟩:=S.ob n _ e;rw[a]at h;cases h;exact⟨p,vs,rfl,a,c,b⟩
def Bl {prog:Program}{A:Around}{t b:Addr}{ws:bR}(a:IsTup s.heap t ([]:bR).toArray)(e:IsTup s.heap b ws.toArray)(h0:Q (.ref b) s):
  wpAny (model prog w) A (binaryOp .Add (.ref t) (.ref b)) Q E s:=by
 obtain⟨⟨cls,dd,data,l⟩,o,c,n,hd⟩:=id a;obtain⟨⟨C,d,data2,S⟩,h,H,N,hd2⟩:=id e;simp only at c hd H hd2;subst c hd H hd2;exact concat_meets ⟨_,o,rfl⟩ ⟨_,h,rfl⟩ noFill_tuple_add seq_tuple_add slot_tuple_add entry_tuple_add (args_tuple_add_2 _ _)
   (tuple_addW0 t b ([]:bR).toArray ws.toArray n N dd d l S (by simp)) ⟨o,h,h0⟩
noncomputable def NF (K:Frag):R2:=λx y H Q=>∃a b ys,x=.ref a/\y=.ref b/\qS K H a []/\qS K H b ys/\Q (.ref b) H
def Bi:jc X (binaryOp .Add) (NF X.K):=by
 intro pins s σ H x y v u Q I c r h;obtain⟨a,b,ys,rfl,rfl,g,f,q⟩:=h;cases c;cases r;obtain⟨e,d,P,_⟩:=I.tuple g;obtain⟨i,j,p,_⟩:=I.tuple f;cases d;exact Bl P p ⟨.ref b,H,I,rfl,q⟩
def qh:W->W->Hx->R W:=λx y A=>match x,y with
 |.int i,.int j=>.ok (.int (i+j)) A|.tup xs,.tup ys=>if xs.length+ys.length<=zY then .ok (.tup (xs++ys)) A else .bad|.ref n,.ref k=>match A[n]?,A[k]? with
  |some (.lst xs),some (.lst ys)=>if xs.length+ys.length<=zY then .ok (.ref A.length) (A++[.lst (xs++ys)]) else .bad|_,_=>.bad
 |_,_=>.bad
def eS:∀x y A,q9 (qh x y A):=λx y A=>by
 unfold qh
 split
 ·exact jW
 ·exact ZR jW jd
 ·split
  ·exact ZR jW jd
  ·exact jd
 ·exact jd
def Z9 (h:n<=zY):n<=sizeLine:=by
 have:sizeLine=16777216:=sizeLine_eq
 unfold zY at h;omega
def BM:yv K (λx y H Q=>ZC (λi j=>.int (i+j)) x y H Q∨N0 K x y H Q∨NF K x y H Q∨Mq x y H Q) qh:=λφ A H x y u v Q S f q p=>by
 cases u with
 |int i=>cases v with
  |int j=>obtain rfl:=f;obtain rfl:=q;exact .inl ⟨i,j,rfl,rfl,p φ H _ .refl S rfl⟩|_=>exact p.elim
 |tup xs=>cases v with
  |tup ys=>
   obtain⟨a1,b,rfl,t1,c⟩:=f;obtain⟨a2,a,rfl,t,r⟩:=q;unfold qh at p;dsimp only at p
   by_cases h:xs.length+ys.length<=zY
   ·rw[ah h]at p
    by_cases z:b=[]
    ·subst z
     have o:xs=[]:=by
      have:=c.length
      simpa using this
     subst o;exact .inr (.inr (.inl ⟨a1,a2,a,rfl,rfl,t1,t,p φ H _ .refl S ⟨a2,a,rfl,t,r⟩⟩))
    ·refine .inr (.inl ⟨a1,a2,b,a,rfl,rfl,t1,t,z,by rw[<- c.length,<- r.length];exact Z9 h,λe=>?_,λne l g=>?_⟩)
     ·subst e
      have o:ys=[]:=by
       have:=r.length
       simpa using this
      subst o;rw[bH]at p;exact p φ H _ .refl S ⟨a1,b,rfl,t1,c⟩
     ·obtain⟨w,s,B⟩:=Q9 S g (c.append r)
      exact p _ _ _ w s B
   ·rw[ar h]at p;exact p.elim
  |_=>exact p.elim
 |ref n=>cases v with
  |ref k=>
   unfold qh at p;dsimp only at p;cases E:A[n]? with
   |none=>rw[E]at p;exact p.elim|some I=>cases I with
    |lst xs=>
     cases d:A[k]? with
     |none=>rw[E,d]at p;exact p.elim|some D=>cases D with
      |lst ys=>
       rw[E,d]at p;dsimp only at p;obtain⟨C,v1,rfl,f1,g1,c⟩:=S.lst f E;obtain⟨P,v2,rfl,f2,g2,r⟩:=S.lst q d
       by_cases h:xs.length+ys.length<=zY
       ·rw[ah h]at p
        refine .inr (.inr (.inr ⟨C,P,v1,v2,rfl,rfl,g1,g2,by rw[<- c.length,<- r.length];exact Z9 h,λl g=>?_⟩))
        obtain⟨w,s,B⟩:=JG S g (c.append r);exact p _ _ _ w s B
       ·rw[ar h]at p;exact p.elim
      |_=>rw[E,d]at p;exact p.elim
    |_=>rw[E]at p;exact p.elim
  |_=>exact p.elim
 |_=>cases v<;>exact p.elim
def qT:W->W->Hx->R W:=λx y A=>match x,y with
 |.int i,.int j=>if J1 i j then .ok (.int (i * j)) A else .bad|.ref n,.int k=>match A[n]? with
  |some (.lst xs)=>if jP k&&decide (xs.length * k.toNat<=zY) then .ok (.ref A.length) (A++[.lst (List.replicate k.toNat xs).flatten]) else .bad|_=>.bad
 |_,_=>.bad
def eT:∀x y A,q9 (qT x y A):=λx y A=>by
 unfold qT
 split
 ·exact ZR jW jd
 ·split
  ·exact ZR jW jd
  ·exact jd
 ·exact jd
theorem zK.rep {ws:List W}{vs:List V}(r:zK K φ H ws vs):∀n:Nat,zK K φ H (List.replicate n ws).flatten (List.replicate n vs).flatten
 |0=>.nil|n+1=>by rw[bg,bg,a5,a5];exact r.append (zK.rep r n)
def Bt:yv K (λx y H Q=>rI Wq (λi j=>.int (i * j)) x y H Q∨Mv x y H Q) qT:=λφ A H x y u v Q S a q p=>by
 cases v with
 |int j=>cases u with
  |int i=>
   obtain rfl:=a;obtain rfl:=q;unfold qT at p;dsimp only at p
   by_cases c:J1 i j=true
   ·rw[ah c]at p;exact .inl ⟨i,j,rfl,rfl,BY i j c,p φ H _ .refl S rfl⟩
   ·rw[ar c]at p;exact p.elim
  |ref n=>
   obtain rfl:=q;unfold qT at p;dsimp only at p;cases e:A[n]? with
   |none=>rw[e]at p;exact p.elim|some o=>cases o with
    |lst xs=>
     rw[e]at p;dsimp only at p;obtain⟨P,v1,rfl,f1,g1,r⟩:=S.lst a e
     by_cases h:(jP j&&decide (xs.length * j.toNat<=zY))=true
     ·rw[ah h]at p
      rw[ak,aj]at h;obtain⟨g,B⟩:=QM h.1;refine .inr ⟨P,j,v1,rfl,rfl,g1,by omega,by omega,by rw[<- r.length];exact Z9 h.2,λl b=>?_⟩
      obtain⟨f,d,C⟩:=JG S b (r.rep j.toNat);exact p _ _ _ f d C
     ·rw[ar h]at p;exact p.elim
    |_=>rw[e]at p;exact p.elim
  |_=>exact p.elim
 |_=>cases u<;>exact p.elim
def wa:W->W->Hx->R W:=λx y A=>match x with
 |.ref n=>match A[n]? with
  |some (.lst ws)=>if ws.length<zY then .ok .non (A.set n (.lst (ws++[y]))) else .bad|_=>.bad
 |_=>.bad
noncomputable def Y3 (x:W)(A:Hx):Bool:=match x with
 |.ref n=>match A[n]? with
  |some (.lst _)=>true|_=>false
 |_=>false
def DX {A:Hx}{w:W}(S:zT K φ A H)(q:RV K φ H w v)(e:Y3 w A=true):XO K "list" v H:=by
 unfold Y3 at e;cases w with
 |ref n=>
  dsimp only at e;cases E:A[n]? with
  |none=>rw[E]at e;cases e|some o=>cases o with
   |lst ws=>obtain⟨p,vs,rfl,_,h,_⟩:=S.lst q E;exact .inl ⟨rfl,_,jy.of h⟩|_=>rw[E]at e;cases e
 |_=>cases e
def yx (g:W->W->Hx->R W)(a b:Ev):Ev:=λρ A=>(a ρ A).bind λx A1=>if Y3 x A1 then(b ρ A1).bind λy A2=>g x y A2 else .bad
def Xj {nm:Str}{id:String}{r:V->List V->Hp->VK->Prop}{g:W->W->Hx->R W}{apos:Pos}(slot:Slot "list" nm id)(j:typeOf (.builtin id)=pure (.type "method_descriptor"))(hm:TM X id r)(hn:∀x y A,q9 (g x y A))
  (D:∀φ A H x y u v Q,zT X.K φ A H->RV X.K φ H u x->RV X.K φ H v y->(g u v A).post (PB X.K φ H Q) ZA->r x [y] H Q)(C:SE X xr a ma)(he:SE X xr b mb)
  (s:starEach [b] X.env=(false,eval b X.env)::starEach [] X.env)(c:attributeBase a nm X.env (eval a X.env)=eval a X.env)
  (d:((backTo cpos (starEach [b] X.env)).all (λx=>!x.1)&&(backToKw cpos (keywordEach [] X.env)).all (λx=>x.1.isSome)
   && decide ([b].length+([]:cc).length+(if ([]:cc).isEmpty then 0 else 1)<30))=true)(e:(apos.endLine==cpos.line)=true):
  SE X xr (.Call (.Attribute a nm apos) [b] [] cpos) (yx g ma mb):=
 PE.imp (NW PySem.F.plainAttrs_list slot j hm C (jo he j5 s) c d e s (by rfl)) λσ H Q ⟨φ,A,ρ,S,re,h⟩=>by
  refine tM.go S re (qf.mp h) λw A1 p H1 v f l o q=>?_
  by_cases n:Y3 w A1=true
  ·rw[ah n]at f
   refine⟨DX o q n,?_⟩;refine tM.go o (re.mono l) (qK (qf.mp f) (λ_ _ z=>z) λ_ _ z=>z.mono l) λt A2 i J v2 E L I B=>?_;exact D i A2 J v v2 w t Q I (q.mono L) B (qK (Yp (hn _ _ _) E) (λ_ _ z=>z.mono (l.trans L)) λ_ _ z=>z)
  ·rw[ar n]at f;exact f.elim
def F8:∀x y A,q9 (wa x y A):=λx y A=>by
 unfold wa
 split
 ·split
  ·exact ZR jW jd
  ·exact jd
 ·exact jd
def ZQ:W->W->Hx->R W:=λx y A=>match x,y with
 |.ref n,.int i=>match A[n]? with
  |some (.lst ws)=>match (if jP i then seqIndex? i ws.length else none) with
   |some k=>match ws[k]? with
    |some w=>.ok w (A.set n (.lst (ws.eraseIdx k)))|none=>.bad
   |none=>.bad
  |_=>.bad
 |_,_=>.bad
def C3:∀x y A,q9 (ZQ x y A):=λx y A=>by
 unfold ZQ
 split
 ·split
  ·split
   ·split
    ·exact jW
    ·exact jd
   ·exact jd
  ·exact jd
 ·exact jd
def gF:W->W->W->Hx->R Unit:=λo i v A=>match o,i with
 |.ref n,.int k=>match A[n]? with
  |some (.lst ws)=>match Zb ws.length k with
   |some j=>.ok () (A.set n (.lst (ws.set j v)))|none=>.bad
  |_=>.bad
 |_,_=>.bad
def Nk:∀o i v A,q9 (gF o i v A):=λo i v A=>by
 unfold gF
 split
 ·split
  ·split
   ·exact jW
   ·exact jd
  ·exact jd
 ·exact jd
def Na:NZ K N7 gF:=λφ A H o i v a w wv Q S f d q p=>by
 unfold gF at p;cases a with
 |ref n=>cases w with
  |int k=>
   obtain rfl:=d;dsimp only at p;cases e:A[n]? with
   |none=>rw[e]at p;exact p.elim|some g=>cases g with
    |lst ws=>
     rw[e]at p;dsimp only at p;cases E:Zb ws.length k with
     |none=>rw[E]at p;exact p.elim|some j=>
      rw[E]at p;obtain⟨l,vs,rfl,f1,g1,r⟩:=S.lst f e;have ln:Le K φ H φ (upd H l (.lst (vs.set j v))):=Le.upd f1 (λxs z=>by rw[g1]at z;cases z) (λ_ _ z=>by rw[g1]at z;cases z)
      obtain⟨c,b⟩:=S.write (o:=.lst ws) (o':=.lst (ws.set j wv)) e rfl rfl f1 ⟨_,jN,(r.mono ln).set (q.mono ln) j⟩;exact⟨l,vs,k,j,rfl,rfl,g1,by rw[<- r.length];exact E,p _ _ c b⟩
    |_=>rw[e]at p;exact p.elim
  |_=>exact p.elim
 |_=>cases w<;>exact p.elim
variable {es:bY}{m:Ev}
def eU {id:String}{g:W->Hx->R W}(i:yc X (.builtin id) r)(hn:∀w A,q9 (g w A))(f:XM X.K (λv=>r [v]) g)(hm:X.mg x=none)(d:bootBuiltins x=some (.builtin id))(j:SE X xr e m)(b:Gl X x:=by rfl)
  (a:x ≠ "__name__":=by decide)(c:(x==("__debug__":Str))=false:=by decide)(he:starEach [e] X.env=(false,eval e X.env)::starEach [] X.env:=by rfl)(l:(backTo pos (starEach [] X.env)).any (·.1)=false:=by rfl):
  SE X xr (.Call (.Name x p) [e] [] pos) (jf g m):=PE.imp (Qa i b hm d (jo j j5 he) a c he l) λσ H Q h=>jf.read (r:=λv=>r [v]) hn f σ H Q h
def eV {id:String}{g:W->Hx->R W}(i:yc X (.type id) r)(hn:∀w A,q9 (g w A))(f:XM X.K (λv=>r [v]) g)(hm:X.mg x=none)(d:bootBuiltins x=some (.type id))(j:SE X xr e m)(b:Gl X x:=by rfl)
  (a:x ≠ "__name__":=by decide)(c:(x==("__debug__":Str))=false:=by decide)(he:starEach [e] X.env=(false,eval e X.env)::starEach [] X.env:=by rfl)(l:(backTo pos (starEach [] X.env)).any (·.1)=false:=by rfl):
  SE X xr (.Call (.Name x p) [e] [] pos) (jf g m):=PE.imp (Jx i b hm d (jo j j5 he) a c he l) λσ H Q h=>jf.read (r:=λv=>r [v]) hn f σ H Q h
def U5 {id:String}{g:W->W->Hx->R W}(q:yc X (.builtin id) r)(hn:∀w j A,q9 (g w j A))(o:yv X.K (λv c=>r [v,c]) g)(hm:X.mg x=none)(n:bootBuiltins x=some (.builtin id))(t:SE X xr a ma)(s:SE X xr b mb)(e:Gl X x)
  (d:x ≠ "__name__")(f:(x==("__debug__":Str))=false)(i:starEach [a,b] X.env=(false,eval a X.env)::starEach [b] X.env)(u:starEach [b] X.env=(false,eval b X.env)::starEach [] X.env)(l:(backTo pos (starEach [b] X.env)).any (·.1)=false):
  SE X xr (.Call (.Name x p) [a,b] [] pos) (zi g ma mb):=PE.imp (Qa q e hm n (jo t (jo s j5 u) i) d f i l) λσ H Q h=>zi.read (r:=λv c=>r [v,c]) hn o σ H Q h
noncomputable def Wf:W->Hx->R W
 |.int i,A=>.ok (.int (if i<0 then -i else i)) A|_,_=>.bad
noncomputable def JX:W->Hx->R W
 |.int i,A=>.ok (.int i) A|.bl k,A=>.ok (.int (if k then 1 else 0)) A|_,_=>.bad
def U7:=Zw λi j=>.int (if j > i then j else i)
def Xc:=Zw λi j=>.int (if j<i then j else i)
noncomputable def gT:W->Bool
 |.tup _=>false|.ref _=>false|.clo _ _ _=>false|.xc _=>false|_=>true
noncomputable def TB:W->W->Bool
 |.non,.non=>true|.bl a,.bl b=>a==b|.bl a,.int b=>(if a then 1 else 0)==b|.int a,.bl b=>a==(if b then 1 else 0)|.int a,.int b=>a==b|.str a,.str b=>a==b|_,_=>false
def Y6 (x:W)(xs:List W):Bool:=xs.any λy=>TB y x
def P0 {w:W}(q:RV K φ H w v)(e:gT w=true):ZW v=true:=by
 cases w<;>first
  |(cases e;done)
  |(obtain rfl:=q;rfl)
def EJ {w a:W}{b:V}(q:RV K φ H w v)(Q:RV K φ H a b)(e:gT w=true)(E:gT a=true):QA v b=TB w a:=by
 cases w<;>cases a<;>first
  |(cases e;done)
  |(cases E;done)
  |(obtain rfl:=q;obtain rfl:=Q;rfl)
theorem OI {x:W}(q:RV K φ H x v)(e:gT x=true):∀{xs:List W}{vs:List V},zK K φ H xs vs->xs.all gT=true->vs.all ZW=true/\XN v vs=Y6 x xs
 |[],_,r,_=>by cases r;exact⟨rfl,rfl⟩|w::ws,_,⟨y,r,E,h,t⟩,a=>by
  subst E;rw[List.all_cons,ak]at a;obtain⟨I,i⟩:=OI q e t a.2;refine⟨by rw[List.all_cons,P0 h a.1,I];rfl,?_⟩
  unfold XN Y6 at i ⊢;rw[any_cons,any_cons,i,EJ h q a.1 e]
def J0 (neg:Bool):W->W->Hx->R W:=λx y A=>match qb y A with
 |some ws=>if gT x&&ws.all gT then .ok (.bl (if neg then !Y6 x ws else Y6 x ws)) A else .bad|none=>.bad
abbrev XT:=J0 false
def eW {n:Bool}:∀x y A,q9 (J0 n x y A):=λx y A=>by
 unfold J0
 split
 ·exact ZR jW jd
 ·exact jd
def eX {n:Bool}:yv K (MO K n) (J0 n):=λφ A H x y u v Q S q b p=>by
 unfold J0 at p;cases es:qb v A with
 |none=>rw[es]at p;exact p.elim|some ws=>
  rw[es]at p;dsimp only at p
  by_cases hf:(gT u&&ws.all gT)=true
  ·rw[ah hf]at p
   rw[ak]at hf;obtain⟨a,ys,rfl,z,r⟩:=Gg S b es;obtain⟨I,i⟩:=OI q hf.1 r hf.2;exact⟨a,ys,rfl,z,P0 q hf.1,I,by rw[i];exact p φ H _ .refl S rfl⟩
  ·rw[ar hf]at p;exact p.elim
structure Xq (X:Cx)(op:CmpOp)(g:W->W->Hx->R W):Prop where
 ex:∃r:R2,jc X (compareOp op) r/\(∀x y A,q9 (g x y A))/\yv X.K r g
def Mh:Xq X .In XT:=⟨_,Dy,eW,eX⟩
end
noncomputable def yu (f:W->Option PyData):List W->Option (List PyData)
 |[]=>some []|w::ws=>match f w,yu f ws with
  |some d,some ds=>some (d::ds)|_,_=>none
def qk (A:Hx):Nat->W->Option PyData
 |_,.non=>some .none|_,.bl b=>some (.bool b)|_,.int i=>some (.int i)|_,.str x=>if PyData.strOk x then some (.str x) else none|_,.clo _ _ _=>none|_,.xc _=>none|0,.tup _=>none|0,.ref _=>none|n+1,.tup ws=>(yu (qk A n) ws).map .tuple|n+1,.ref k=>match qb (.ref k) A with
  |some ws=>(yu (qk A n) ws).map .list|none=>none
def C4 {K:Frag}{A:Hx}{us:List W}(S:zT K φ A H)(q:RV K φ H (.ref n) v)(e:qb (.ref n) A=some us):∃a ys,v=.ref a/\jy K H a ys/\zK K φ H us ys:=by
 obtain⟨a,rfl,d⟩:=q;unfold qb at e;dsimp only at e;cases E:A[n]? with
 |none=>rw[E]at e;cases e|some o=>
  rw[E]at e;obtain⟨f,c,r⟩:=S.ob n o E;rw[d]at c;cases c;cases o with
  |lst xs=>cases e;obtain⟨ys,b,h⟩:=r;exact⟨a,ys,rfl,jy.of b,h⟩|ro xs=>cases e;obtain⟨ys,b,h⟩:=r;exact⟨a,ys,rfl,b.sq,h⟩|dct xs=>cases e|tab _ _=>cases e
section
variable {a:Expr}
theorem VX {K:Frag}{f:W->Option PyData}(hf:∀w v u d,RV K φ H w v->RelV v u->f w=some d->∃as,Reads h u d as):
  ∀{ws:List W}{vs:List V}{us:bR}{ds:List PyData},zK K φ H ws vs->Vals vs us->yu f ws=some ds->∃as,ReadsAll h us ds as
 |[],_,_,_,r,a,e=>by cases r;cases a;cases e;exact⟨[],.nil⟩|w::ws,_,_,ds,⟨v,r,l,q,t⟩,a,e=>by
  subst l;cases a with
  |cons g c=>
   unfold yu at e;cases E:f w with
   |none=>rw[E]at e;cases e|some d=>
    cases b:yu f ws with
    |none=>rw[E,b]at e;cases e|some D=>
     rw[E,b]at e;cases e;obtain⟨as,j⟩:=hf w v _ d q g E;obtain⟨bs,i⟩:=VX hf t c b;exact⟨_,.cons j i⟩
def QP {A:Hx}(I:Inv X pins σ H s)(S:zT X.K φ A H):∀(n:Nat)(w:W)(v:V)(u:Value)(d:PyData),RV X.K φ H w v->RelV v u->qk A n w=some d->∃as,Reads s.heap u d as:=by
 intro n
 induction n with
 |zero=>
  intro w v u d q r e;cases w with
  |non=>obtain rfl:=q;cases r;cases e;exact⟨_,.none⟩|bl k=>obtain rfl:=q;cases r;cases e;exact⟨_,.bool k⟩|int k=>obtain rfl:=q;obtain⟨t,rfl⟩:=r;cases e;exact⟨_,.int k t⟩|str k=>
   obtain rfl:=q;obtain⟨t,rfl⟩:=r;unfold qk at e
   split at e
   ·cases e;exact⟨_,.str k t⟩
   ·cases e
  |tup _=>cases e|ref _=>cases e|clo _ _ _=>unfold qk at e;cases e|xc _=>unfold qk at e;cases e
 |succ n x=>
  intro w v u d q r e;cases w with
  |non=>obtain rfl:=q;cases r;cases e;exact⟨_,.none⟩|bl k=>obtain rfl:=q;cases r;cases e;exact⟨_,.bool k⟩|clo _ _ _=>unfold qk at e;cases e|xc _=>unfold qk at e;cases e|int k=>obtain rfl:=q;obtain⟨t,rfl⟩:=r;cases e;exact⟨_,.int k t⟩|str k=>
   obtain rfl:=q;obtain⟨t,rfl⟩:=r;unfold qk at e
   split at e
   ·cases e;exact⟨_,.str k t⟩
   ·cases e
  |tup ws=>
   obtain⟨a,vs,rfl,h,c⟩:=q;cases r;unfold qk at e;cases E:yu (qk A n) ws with
   |none=>rw[E]at e;cases e|some ds=>
    rw[E]at e;cases e;obtain⟨i,b,⟨o,l,j,k,g⟩,_⟩:=I.tuple h;obtain⟨as,f⟩:=VX x c b E;exact⟨_,.tuple l j g (by simpa using f)⟩
  |ref k=>
   unfold qk at e;cases E:qb (.ref k) A with
   |none=>rw[E]at e;cases e|some ws=>
    rw[E]at e;dsimp only at e;obtain⟨a,ys,rfl,h,c⟩:=C4 S q E;cases r;cases p:yu (qk A n) ws with
    |none=>rw[p]at e;cases e|some ds=>
     rw[p]at e;cases e;obtain⟨i,b,⟨o,y,l,j,_,g⟩,_⟩:=I.list h;obtain⟨as,f⟩:=VX x c b p;exact⟨_,.list l j g (by simpa using f)⟩
def Kx {A:Hx}:∀(n:Nat)(w:W)(d:PyData),qk A n w=some d->d.canLay0=true/\d.depth<=n:=by
 intro n;have lst:∀{n:Nat},(∀(w:W)(d:PyData),qk A n w=some d->d.canLay0=true/\d.depth<=n)->∀(ws:List W)(ds:List PyData),yu (qk A n) ws=some ds->PyData.canLayAll0 ds=true/\PyData.depthAll ds<=n:=by
  intro n i ws
  induction ws with
  |nil=>intro ds e;cases e;exact⟨by simp[PyData.canLayAll0],by simp[PyData.depthAll]⟩|cons w ws I=>
   intro ds e;unfold yu at e;cases E:qk A n w with
   |none=>rw[E]at e;cases e|some d=>
    cases b:yu (qk A n) ws with
    |none=>rw[E,b]at e;cases e|some D=>
     rw[E,b]at e;cases e;obtain⟨h,c⟩:=i w d E;obtain⟨f,g⟩:=I D b;refine⟨by simp[PyData.canLayAll0,h,f],?_⟩
     simp only[PyData.depthAll];omega
 induction n with
 |zero=>
  intro w d e;cases w with
  |tup _=>cases e|ref _=>cases e|clo _ _ _=>unfold qk at e;cases e|xc _=>unfold qk at e;cases e|str x=>
   unfold qk at e
   split at e
   ·rename_i H;cases e;exact⟨by simp[PyData.canLay0,H],by simp[PyData.depth]⟩
   ·cases e
  |_=>cases e;exact⟨by simp[PyData.canLay0],by simp[PyData.depth]⟩
 |succ n i=>
  intro w d e;cases w with
  |clo _ _ _=>unfold qk at e;cases e|xc _=>unfold qk at e;cases e|tup ws=>
   unfold qk at e;cases a:yu (qk A n) ws with
   |none=>rw[a]at e;cases e|some ds=>
    rw[a]at e;cases e;obtain⟨h,c⟩:=lst i ws ds a;refine⟨by simp[PyData.canLay0,h],?_⟩
    simp only[PyData.depth];omega
  |ref k=>
   unfold qk at e;cases a:qb (.ref k) A with
   |none=>rw[a]at e;cases e|some ws=>
    rw[a]at e;dsimp only at e;cases E:yu (qk A n) ws with
    |none=>rw[E]at e;cases e|some ds=>
     rw[E]at e;cases e;obtain⟨h,c⟩:=lst i ws ds E;refine⟨by simp[PyData.canLay0,h],?_⟩
     simp only[PyData.depth];omega
  |str x=>
   unfold qk at e
   split at e
   ·rename_i H;cases e;exact⟨by simp[PyData.canLay0,H],by simp[PyData.depth]⟩
   ·cases e
  |_=>cases e;exact⟨by simp[PyData.canLay0],by simp[PyData.depth]⟩
def wD (neg:Bool):W->W->Hx->R W:=λx y A=>match qk A 8 x,qk A 8 y with
 |some d,some d'=>.ok (.bl (if neg then !PyData.eqv d d' else PyData.eqv d d')) A|_,_=>.bad
abbrev jv:=wD false
abbrev jb:=wD true
def NC {n:Bool}:∀x y A,q9 (wD n x y A):=λx y A=>by
 unfold wD
 split
 ·exact jW
 ·exact jd
def TF (K:Frag)(neg:Bool):R2:=λx y H Q=>∃φ A u v d d',zT K φ A H/\RV K φ H u x/\RV K φ H v y/\qk A 8 u=some d/\qk A 8 v=some d'/\Q (.bl (if neg then !PyData.eqv d d' else PyData.eqv d d')) H
def GS {A:Hx}{w:W}{d:PyData}(h:qk A 8 w=some d):SeqAt.shaped d=true:=by
 obtain⟨H,a⟩:=Kx 8 w d h;unfold SeqAt.shaped;rw[H,Bool.true_and,aj];omega
def eY (g:X.A.units+64<cLine):jc X (compareOp .Eq) (TF X.K false):=by
 intro pins s σ H x y v u Q I b r h;obtain⟨φ,A,a,w,d,d',S,f,c,E,e,q⟩:=h;obtain⟨as,j⟩:=QP I S 8 a x v d f b E;obtain⟨bs,i⟩:=QP I S 8 w y u d' c r e;exact eq_dataH j i (GS E) (GS e) g ⟨.bl _,H,I,rfl,q⟩
def eZ (g:X.A.units+64<cLine):jc X (compareOp .NotEq) (TF X.K true):=by
 intro pins s σ H x y v u Q I b r h;obtain⟨φ,A,a,w,d,d',S,f,c,E,e,q⟩:=h;obtain⟨as,j⟩:=QP I S 8 a x v d f b E;obtain⟨bs,i⟩:=QP I S 8 w y u d' c r e;exact ne_dataH j i (GS E) (GS e) g ⟨.bl _,H,I,rfl,q⟩
def OP {K:Frag}{n:Bool}:yv K (TF K n) (wD n):=λφ A H x y u v Q S a q p=>by
 unfold wD at p;cases e:qk A 8 u with
 |none=>rw[e]at p;exact p.elim|some d=>
  cases E:qk A 8 v with
  |none=>rw[e,E]at p;exact p.elim|some d'=>
   rw[e,E]at p;exact⟨φ,A,u,v,d,d',S,a,q,e,E,p φ H _ .refl S rfl⟩
def kz {k:Nat}(h:jQ k X.A):wR X .Eq jv:=Q2 (eY h.units) NC OP
def kN {k:Nat}(h:jQ k X.A):wR X .NotEq jb:=Q2 (eZ h.units) NC OP
end
mutual
noncomputable def W.nr:W->Bool
 |.tup ws=>ji ws|.ref _=>false|.clo _ ws _=>ji ws|_=>true
noncomputable def ji:List W->Bool
 |[]=>true|w::ws=>w.nr&&ji ws
end
def iso (f:Fn):Fn:=λus A=>if ji us then(match f us [] with
 |.ok w A1=>(match w with
  |.ref n=>(match A1[n]? with
   |some (.lst ws)=>if ji ws then .ok (.ref A.length) (A++[.lst ws]) else .bad|some (.dct kvs)=>if ji (kvs.map (·.2)) then .ok (.ref A.length) (A++[.dct kvs]) else .bad|_=>.bad)
  |w=>if w.nr then .ok w A else .bad)
 |_=>.bad) else .bad
def Z0 (f:Fn):Fn:=λus A=>match us with
 |.ref n::us=>(match A[n]? with
  |some (.lst ws)=>if ji ws&&ji us then(match f (.ref 0::us) [.lst ws] with
   |.ok w A1=>(match (List.head? A1:Option O) with
    |some (.lst a)=>if ji a&&w.nr then .ok w (A.set n (.lst a)) else .bad|_=>.bad)
   |_=>.bad) else .bad
  |_=>.bad)
 |_=>.bad
section
variable {K:Frag}{φ' φ1:bS}{H' H1:Hp}{A A1:Hx}
mutual
theorem RV.nrm (tp:∀a vs,qS K H a vs->qS K H' a vs)(fz:∀a o u,H a=some (.frz o u)->H' a=some (.frz o u)):∀{w:W}{v:V},w.nr=true->RV K φ H w v->RV K φ' H' w v
 |.non,_,_,h=>h|.bl _,_,_,h=>h|.int _,_,_,h=>h|.str _,_,_,h=>h|.tup ws,_,n,⟨a,vs,e,t,r⟩=>⟨a,vs,e,tp _ _ t,zK.nrm tp fz n r⟩|.ref _,_,n,_=>nomatch n
 |.clo _ ws P,_,n,⟨a,ob,u,c,g,uc,vs,e,d,b,i,r⟩=>⟨a,ob,u,c,g,uc,vs,e,fz _ _ _ d,fz _ _ _ b,i,zK.nrm tp fz n r⟩|.xc _,_,_,⟨a,f,u,C,e,d,b⟩=>⟨a,f,u,C,e,fz _ _ _ d,b⟩
theorem zK.nrm (tp:∀a vs,qS K H a vs->qS K H' a vs)(fz:∀a o u,H a=some (.frz o u)->H' a=some (.frz o u)):∀{ws:List W}{vs:List V},ji ws=true->zK K φ H ws vs->zK K φ' H' ws vs
 |[],_,_,h=>h|w::ws,_,n,⟨v,r,e,h,t⟩=>by
  have N:(w.nr&&ji ws)=true:=n;rw[ak]at N;exact⟨v,r,e,RV.nrm tp fz N.1 h,zK.nrm tp fz N.2 t⟩
end
def zT.none:zT K [] [] H:=⟨rfl,λi j a o o' _ _ h=>by simp at h,λn o h=>by simp at h⟩
def zT.frame (S:zT K φ A H)(k:∀a o,H a=some o->H1 a=some o)(l:Le K φ H φ H1):zT K φ A H1:=
 ⟨S.len,S.inj,λn o e=>let ⟨a,h1,q⟩:=S.ob n o e;⟨a,h1,q.keep l λu h=>k a u h⟩⟩
def Le.apart (l:Le K [] H φ1 H1):Le K φ H φ H1/\∀a o,H a=some o->H1 a=some o:=
 have k:∀a o,H a=some o->H1 a=some o:=λa o h=>l.fr a o h λn e=>by simp at e
 ⟨⟨λ_ _ h=>h,l.tp,λa o h _=>k a o h,λ_ _ h=>.inl h,l.st,l.fz⟩,k⟩
def zT.trackN {u:HO}{o:O}(S:zT K φ A H)(x:H D=some u)(n:∀(k:Nat)(q:O),φ[k]? =some D->A[k]? =some q->q.mut=false)(new:OR K (φ++[D]) H D o):zT K (φ++[D]) (A++[o]) H:=by
 have l:QF K φ H (φ++[D]) H:=⟨λn a h=>by
  have:=(cq.mp h).1
  rw[ai this];exact h,λ_ _ h=>h,λ_ _ _ h=>h⟩
 have old:∀(i:Nat) a,(φ++[D])[i]? =some a->i<A.length->φ[i]? =some a:=λi a e hi=>by
  rw[ai (by rw[S.len];exact hi)]at e;exact e
 have last:∀a,(φ++[D])[A.length]? =some a->a=D:=λa e=>by
  rw[ay (by rw[S.len];exact av _),S.len]at e
  simpa using e.symm
 refine⟨by simp[S.len],λi j a w v t s d b m1 m2=>?_,λk o' e=>?_⟩
 ·by_cases hi:i<A.length
  ·rw[ai hi]at d
   by_cases c:j<A.length
   ·rw[ai c]at b
    exact S.inj i j a w v (old i a t hi) (old j a s c) d b m1 m2
   ·exfalso
    have g:j=A.length:=by have:=(cq.mp b).1;simp at this;omega
    subst g;have z:=n i w (by rw[<- last a s];exact old i a t hi) d
    rw[m1]at z;cases z
  ·have p:i=A.length:=by have:=(cq.mp d).1;simp at this;omega
   by_cases c:j<A.length
   ·exfalso
    rw[ai c]at b;subst p;have z:=n j v (by rw[<- last a t];exact old j a s c) b
    rw[m2]at z;cases z
   ·have:=(cq.mp b).1;simp at this;omega
 ·by_cases hn:k<A.length
  ·rw[ai hn]at e
   obtain⟨a,E,q⟩:=S.ob k o' e;refine⟨a,l.ex _ _ E,?_⟩;cases o' with
   |lst ws=>obtain⟨vs,z,r⟩:=q;exact⟨vs,z,r.monoW l⟩|dct ws=>obtain⟨vs,z,Z,r⟩:=q;exact⟨vs,z,Z,r.monoW l⟩|tab _ _=>exact q|ro ws=>obtain⟨vs,z,r⟩:=q;exact⟨vs,z,r.monoW l⟩
  ·have f:k=A.length:=by have:=(cq.mp e).1;simp at this;omega
   subst f;rw[ay (av _)]at e;simp at e;subst e;exact⟨D,by rw[ay (by rw[S.len];exact av _),S.len];simp,new⟩
def zT.adopt {o:O}(S:zT K φ A H)(l:Le K [] H φ1 H1)(d:φ1[n]? =some a)(m:∃u,H1 a=some u)(new:OR K (φ++[a]) H1 a o):
  Le K φ H (φ++[a]) H1/\zT K (φ++[a]) (A++[o]) H1/\RV K (φ++[a]) H1 (.ref A.length) (.ref a):=by
 obtain⟨L,k⟩:=l.apart (φ:=φ);have h0:H a=Option.none:=by
  rcases l.nw n a d with e|e
  ·simp at e
  ·exact e
 obtain⟨u,b⟩:=m;have s:=S.frame k L;refine⟨L.YS h0,s.trackN b (λk q g f=>?_) new,a,rfl,by rw[<- S.len];simp⟩
 cases c:q.mut with
 |false=>rfl|true=>
  obtain⟨i,E,r⟩:=S.ob k q f;rw[g]at E;cases E;obtain⟨z,h,_⟩:=r.there c;rw[h0]at h;cases h
def OR.nrL {ws:List W}(h:OR K φ H a (.lst ws))(n:ji ws=true):OR K φ' H a (.lst ws):=let ⟨vs,e,r⟩:=h;⟨vs,e,r.nrm (λ_ _ t=>t) (λ_ _ _ t=>t) n⟩
def OR.nrD {kvs:List (Key×W)}(h:OR K φ H a (.dct kvs))(n:ji (kvs.map (·.2))=true):OR K φ' H a (.dct kvs):=let ⟨vs,e,E,r⟩:=h;⟨vs,e,E,r.nrm (λ_ _ t=>t) (λ_ _ _ t=>t) n⟩
theorem zP.iso {k:Nat}{f:Fn}(F:zP P w K mg base k x n f):zP P w K mg base k x n (iso f):=by
 obtain⟨C,fd,ps,F,a,b,c⟩:=F;refine⟨C,fd,ps,F.imp λvs H Q E ⟨z,φ,A,ws,S,r,q⟩=>?_,a,b,c⟩;unfold Mi.iso at q
 by_cases hn:ji ws=true
 ·rw[ah hn]at q
  refine⟨z,[],[],ws,zT.none,r.nrm (λ_ _ t=>t) (λ_ _ _ t=>t) hn,?_⟩;cases hf:f ws [] with
  |ok w A1=>
   rw[hf]at q;dsimp only at q;intro u H1 v L D g;cases w with
   |ref m=>
    dsimp only at q;cases hm:A1[m]? with
    |none=>rw[hm]at q;exact q.elim|some o=>
     rw[hm]at q;obtain⟨I,j,d⟩:=D.ob m o hm;obtain⟨a2,rfl,e⟩:=g;rw[j]at e;cases e;cases o with
     |lst us=>
      dsimp only at q
      by_cases h:ji us=true
      ·rw[ah h]at q
       obtain⟨t,i,_⟩:=d.there rfl;obtain⟨s,p,B⟩:=S.adopt L j ⟨t,i⟩ (o:=.lst us) (d.nrL h);exact q _ _ _ s p B
      ·rw[ar h]at q;exact q.elim
     |dct us=>
      dsimp only at q
      by_cases h:ji (us.map (·.2))=true
      ·rw[ah h]at q
       obtain⟨t,i,_⟩:=d.there rfl;obtain⟨s,p,B⟩:=S.adopt L j ⟨t,i⟩ (o:=.dct us) (d.nrD h);exact q _ _ _ s p B
      ·rw[ar h]at q;exact q.elim
     |ro us=>exact q.elim|tab _ _=>exact q.elim
   |_=>
    all_goals
     dsimp only at q;obtain⟨l,kk⟩:=L.apart (φ:=φ)
     first
      |exact q φ H1 v l (S.frame kk l) g
      |(
        split at q
        ·rename_i hw
         exact q φ H1 v l (S.frame kk l) (RV.nrm (λ_ _ t=>t) (λ_ _ _ t=>t) hw g)
        ·exact q.elim)
  |exc y A1=>rw[hf]at q;exact q.elim|bad=>rw[hf]at q;exact q.elim
 ·rw[ar hn]at q;exact q.elim
theorem zP.Z0 {k:Nat}{f:Fn}(F:zP P w K mg base k x n f):zP P w K mg base k x n (Z0 f):=by
 obtain⟨fa,fd,ps,F,a,b,c⟩:=F;refine⟨fa,fd,ps,F.imp λvs H Q E ⟨hl,φ,A,ws,S,r,q⟩=>?_,a,b,c⟩;unfold Mi.Z0 at q;cases ws with
 |nil=>exact q.elim|cons Y us=>cases Y with
  |ref n=>
   dsimp only at q;cases g:A[n]? with
   |none=>rw[g]at q;exact q.elim|some o=>cases o with
    |lst xs=>
     rw[g]at q;dsimp only at q
     by_cases hn:(ji xs&&ji us)=true
     ·rw[ah hn]at q
      rw[ak]at hn;obtain⟨v0,vr,rfl,q0,Z⟩:=r;obtain⟨p,ys,rfl,f1,g1,d⟩:=S.lst q0 g;have S0:zT K [p] [.lst xs] H:=by
       refine⟨rfl,λi j a o o' D C T N _ _=>?_,λm o e=>?_⟩
       ·have:=(cq.mp D).1
        have:=(cq.mp C).1
        simp at*;omega
       ·have:m=0:=by have:=(cq.mp e).1;simp at this;omega
        subst this;simp at e;subst e;exact⟨p,rfl,ys,g1,d.nrm (λ_ _ t=>t) (λ_ _ _ t=>t) hn.1⟩
      refine⟨hl,[p],[.lst xs],.ref 0::us,S0,.cons ⟨p,rfl,rfl⟩ (Z.nrm (λ_ _ t=>t) (λ_ _ _ t=>t) hn.2),?_⟩;cases hf:f (.ref 0::us) [.lst xs] with
      |ok w A1=>
       rw[hf]at q;dsimp only at q;intro s H1 v L S1 q1;cases h0:List.head? A1 with
       |none=>rw[h0]at q;exact q.elim|some o=>cases o with
        |lst zs=>
         rw[h0]at q;dsimp only at q
         by_cases hw:(ji zs&&w.nr)=true
         ·rw[ah hw]at q
          rw[ak]at hw;have apart:∀a o,a≠p->H a=some o->H1 a=some o:=λa o ne h=>L.fr a o h λm e=>by
           have:m=0:=by have:=(cq.mp e).1;simp at this;omega
           subst this;simp at e;exact ne e.symm
          have lf:Le K φ H φ H1:=⟨λ_ _ h=>h,L.tp,λa o h nn=>apart a o (λe=>nn n (by rw[e];exact f1)) h,λ_ _ h=>.inl h,L.st,L.fz⟩
          have hp:s[0]? =some p:=L.ex 0 p rfl;obtain⟨p',l,u,I,B⟩:=S1.ob 0 _ (by rw[<- List.head?_eq_getElem?];exact h0)
          rw[hp]at l;cases l;refine q φ H1 v lf ?_ (RV.nrm (λ_ _ t=>t) (λ_ _ _ t=>t) hw.2 q1);have mt:∀(i:Nat)(w:O),(A.set n (.lst zs))[i]? =some w->w.mut=true->∃J,A[i]? =some J/\J.mut=true:=λi w e mw=>by
           by_cases hi:i=n
           ·subst hi;exact⟨_,g,rfl⟩
           ·rw[aI (Ne.symm hi)]at e;exact⟨w,e,mw⟩
          refine⟨by simp[S.len],λi j a o1 o2 D C T N m1 m2=>?_,λi w e=>?_⟩
          ·obtain⟨X,l,k1⟩:=mt i o1 T m1
           obtain⟨U,I,k2⟩:=mt j o2 N m2;exact S.inj i j a X U D C l I k1 k2
          ·by_cases hi:i=n
           ·subst hi
            have:i<A.length:=(cq.mp g).1
            rw[aL this]at e;cases e;exact⟨p,f1,u,I,B.nrm (λ_ _ t=>t) (λ_ _ _ t=>t) hw.1⟩
           ·rw[aI (Ne.symm hi)]at e
            obtain⟨a,l,M⟩:=S.ob i w e;refine⟨a,l,?_⟩
            by_cases hm:w.mut=true
            ·have ne:a≠p:=λz=>hi (S.inj i n a w _ l (by rw[z];exact f1) e g hm rfl)
             exact M.keep lf λz hz=>apart a z ne hz
            ·cases w with
             |lst _=>exact absurd rfl hm|dct _=>exact absurd rfl hm|tab _ _=>exact absurd rfl hm|ro ws=>
              obtain⟨vs,d,B⟩:=M;refine⟨vs,?_,B.mono lf⟩;rcases d with ⟨ob,d⟩|d
              ·refine .inl ⟨ob,apart a _ ?_ d⟩
               intro z;subst z;rw[g1]at d;cases d
              ·exact .inr d
         ·rw[ar hw]at q;exact q.elim
        |_=>rw[h0]at q;exact q.elim
      |exc y A1=>rw[hf]at q;exact q.elim|bad=>rw[hf]at q;exact q.elim
     ·rw[ar hn]at q;exact q.elim
    |_=>rw[g]at q;exact q.elim
  |_=>exact q.elim
end
section
variable {K:Frag}{a b:Expr}{m:Ev}{st:Stmt}
noncomputable def intsOf:List W->Option (bQ)
 |[]=>some []|w::ws=>match w with
  |.int i=>match intsOf ws with
   |some is=>some (i::is)|none=>none
  |_=>none
theorem Gq:∀{ws:List W}{ns:bQ},intsOf ws=some ns->ws=ns.map W.int
 |[],_,e=>by cases e;rfl|w::ws,ns,e=>by
  unfold intsOf at e;cases w with
  |int i=>
   dsimp only at e;cases E:intsOf ws with
   |none=>rw[E]at e;cases e|some is=>rw[E]at e;cases e;rw[Gq E];rfl
  |_=>cases e
noncomputable def yz:List Int->Int->Int
 |[],m=>m|i::is,m=>yz is (if i > m then i else m)
noncomputable def kB:List Int->Int->Int
 |[],m=>m|i::is,m=>kB is (m+i)
def preSum_eq (ns:bQ):∀k,preSum (λi=>ns.getD i 0) k+kB (ns.drop k) 0=kB ns 0∨ns.length<k:=by
 have add:∀(l:bQ)(m:Int),kB l m=m+kB l 0:=λl=>by
  induction l with
  |nil=>intro m;show m=m+0;omega|cons i is I=>intro m;show kB is (m+i)=m+kB is (0+i);rw[I (m+i),I (0+i)];omega
 intro k
 induction k with
 |zero=>left;show(0:Int)+kB ns 0=_;omega|succ k I=>
  rcases I with I|I
  ·by_cases h:k<ns.length
   ·left
    have e:ns.drop k=ns[k]::ns.drop (k+1):=br h;rw[e]at I;have a:kB (ns[k]::ns.drop (k+1)) 0=ns[k]+kB (ns.drop (k+1)) 0:=by show kB (ns.drop (k+1)) (0+ns[k])=_;rw[add];omega
    rw[a]at I;show preSum _ k+ns.getD k 0+_=_;have E:ns.getD k 0=ns[k]:=by rw[ae,aa h];rfl
    rw[E];omega
   ·right;omega
  ·right;omega
def F3 (ns:bQ):preSum (λi=>ns.getD i 0) ns.length=kB ns 0:=by
 rcases preSum_eq ns ns.length with h|h
 ·rw[bO]at h
  have:kB [] 0=0:=rfl
  omega
 ·omega
def Dw (ns:bQ):∀(k:Nat)(a:k<ns.length),yz (ns.drop (k+1)) (ns.getD (argBest (λi j=>decide (ns.getD i 0 > ns.getD j 0)) k) 0)=yz ns.tail (ns.getD 0 0):=by
 intro k
 induction k with
 |zero=>intro _;rw[show argBest _ 0=0 from rfl,List.drop_one]|succ k I=>
  intro a;have H:k<ns.length:=by omega
  rw[<- I H];have e:ns.drop (k+1)=ns[k+1]::ns.drop (k+1+1):=br a;rw[e];have E:ns.getD (k+1) 0=ns[k+1]:=by rw[ae,aa a];rfl
  show yz _ (ns.getD (if decide (ns.getD (k+1) 0 > ns.getD (argBest _ k) 0)=true then k+1 else argBest _ k) 0)=yz _ (if ns[k+1] > ns.getD (argBest _ k) 0 then ns[k+1] else ns.getD (argBest _ k) 0);rw[E]
  by_cases h:ns[k+1] > ns.getD (argBest (λi j=>decide (ns.getD i 0 > ns.getD j 0)) k) 0
  ·rw[ah (by rw[aj];exact h),ah h,E]
  ·rw[ar (by rw[aj];exact h),ar h]
noncomputable def JN (K:Frag)(C:List Int->Prop)(f:List Int->Int):List V->Hp->VK->Prop:=λxs H Q=>∃a ns,xs=[.ref a]/\(jy K H a (ns.map V.int)∨qS K H a (ns.map V.int))/\C ns/\Q (.int (f ns)) H
def ZM (r:Vals (ns.map V.int) its){v:Value}(h:its[i]? =some v):∃t,v=.int (ns.getD i 0) t:=by
 have hi:i<its.length:=(cq.mp h).1;have H:i<ns.length:=by have:=r.length;rw[ag]at this;omega
 obtain⟨u,a,b⟩:=r.get (i:=i) (x:=V.int ns[i]) (by simp[H])
 rw[h]at a;cases a;obtain⟨t,rfl⟩:=b;exact⟨t,by rw[ae,aa H];rfl⟩
def EM (f:X.calm=true):yc X (.builtin "sum") (JN X.K (λ_=>True) λns=>kB ns 0):=by
 intro pins s σ H xs us Q I r h;obtain⟨a,ns,rfl,z,_,q⟩:=h;obtain⟨u,rfl,d⟩:=vals1 r;cases d;refine call_sum_walkG (KG I f z λb g fp wr S s2 c j W st p back=>?_);refine⟨g,fp,wr,_,_,S,λi=>ns.getD i 0,rfl,W,st,p,λi v h=>ZM c h,λh' tk t' k=>?_⟩;have e:b.length=ns.length:=by have:=c.length;rw[ag]at this;omega
 rw[e,F3];exact⟨.int _,H,back h' tk k,⟨_,rfl⟩,q⟩
def EK (n:X.calm=true):yc X (.builtin "max") (JN X.K (λns=>ns≠[]) λns=>yz ns.tail (ns.getD 0 0)):=by
 intro pins s σ H xs us Q I r h;obtain⟨a,ns,rfl,z,f,q⟩:=h;obtain⟨u,rfl,g⟩:=vals1 r;cases g;have M:0<ns.length:=List.length_pos_iff.mpr f;refine call_max_walk (KG I n z λd C fp wr S s2 c L W st p back=>?_);have e:d.length=ns.length:=by have:=c.length;rw[ag]at this;omega
 refine⟨C,fp,wr,_,_,S,λi j=>decide (ns.getD i 0 > ns.getD j 0),rfl,W,st,p,by omega,?_,λv h' tk l k=>?_⟩
 ·intro i j J D s' Q' E y x o
  obtain⟨t1,rfl⟩:=ZM c y;obtain⟨T,rfl⟩:=ZM c x;exact(PyProof.Rows.gt_int o:wpAny (model X.prog X.w) X.A.in1 (compareOp .Gt (.int (ns.getD i 0) t1) (.int (ns.getD j 0) T)) Q' E s')
 ·obtain⟨t,rfl⟩:=ZM c l
  rw[e];have b:=Dw ns (ns.length-1) (by omega)
  rw[show ns.length-1+1=ns.length by omega,bO]at b
  have B:ns.getD (argBest (λi j=>decide (ns.getD i 0 > ns.getD j 0)) (ns.length-1)) 0=yz ns.tail (ns.getD 0 0):=b;rw[B];exact⟨.int _,H,back h' tk k,⟨_,rfl⟩,q⟩
def yj:List W->Hx->R W:=λws A=>match intsOf ws with
 |some (i::is)=>.ok (.int (yz is i)) A|_=>.bad
def gG:List W->Hx->R W:=λws A=>match intsOf ws with
 |some is=>.ok (.int (kB is 0)) A|none=>.bad
def e8:∀ws A,q9 (yj ws A):=λws A=>by
 unfold yj;split
 ·exact jW
 ·exact jd
def fb:∀ws A,q9 (gG ws A):=λws A=>by
 unfold gG;split
 ·exact jW
 ·exact jd
def Gn {ws:List W}{a:Addr}(z:jy K H a ys∨qS K H a ys)(r:zK K φ H ws ys)(e:intsOf ws=some ns):jy K H a (ns.map V.int)∨qS K H a (ns.map V.int):=by
 rw[Gq e]at r;rw[<- zK.ints.mp r];exact z
def AK:Z4 K (JN K (λns=>ns≠[]) λns=>yz ns.tail (ns.getD 0 0)) yj:=λφ A H a ys ws Q S z r p=>by
 unfold yj at p;cases e:intsOf ws with
 |none=>rw[e]at p;exact p.elim|some ns=>cases ns with
  |nil=>rw[e]at p;exact p.elim|cons i is=>rw[e]at p;exact⟨a,i::is,rfl,Gn z r e,(by intro z;cases z),p φ H _ .refl S rfl⟩
def fc:Z4 K (JN K (λ_=>True) λns=>kB ns 0) gG:=λφ A H a ys ws Q S z r p=>by
 unfold gG at p;cases e:intsOf ws with
 |none=>rw[e]at p;exact p.elim|some ns=>rw[e]at p;exact⟨a,ns,rfl,Gn z r e,trivial,p φ H _ .refl S rfl⟩
def fe (y:W):List W->Nat->Nat
 |[],n=>n|w::ws,n=>fe y ws (if TB w y then n+1 else n)
noncomputable def fg (lo d:Int)(n:Nat):It:=⟨λi _=>i<n,λi H x h=>h=H/\x=.int (lo+i * d),λi _=>n<=i⟩
def zeg (t:TA):TI:=λσ H R=>t σ H λvs H1=>∃i j:Int,vs=[.int i,.int j,.int (-1)]/\(-(2 ^ 62)<=i/\i<2 ^ 62/\-(2 ^ 62)<=j/\j<2 ^ 62)/\R (fg i (-1) (i-j).toNat) H1
noncomputable def fh (hi:Int)(n:Nat):jV:=⟨λ_ i=>if i<n then some (some (.int (hi-i))) else some none,n⟩
def zef (m M:Ev):Ei:=λρ A=>(m ρ A).bind λw A1=>(M ρ A1).bind λa A2=>match w,a with
 |.int i,.int j=>if jP i&&jP j then .ok (fh i (i-j).toNat) A2 else .bad|_,_=>.bad
def fi (t:TA):TE:=λσ H Q=>t σ H λvs H1=>∃j:Int,vs=[.int j]/\∀p,H1 p=none->Q (.ref p) (upd H1 p (.rng 0 j))
def AW {T:TA}(g:Gl X "range")(hm:X.mg "range"=none)(e:PA X [a] T)(d:starEach [a] X.env=[(false,eval a X.env)]):PE X (.Call (.Name "range" p) [a] [] pos) (fi T):=by
 intro pins s σ H Q I h;refine Call_ (ZP I g hm boot_range (PyProof.Rows.callWith_type1 (qa (e pos pins s σ H _ I h) λus s1 ⟨vs,H1,i,r,c⟩=>?_) d rfl));obtain⟨j,rfl,q⟩:=c;obtain⟨u,rfl,⟨t,rfl⟩⟩:=r.one;refine call_range_1 ⟨.ref _,_,i.laid (o:=.rng 0 j) (λb o E=>af _ E) (av _) ?_,rfl,q _ (i.hok.fresh (av _))⟩;exact⟨_,_,_,au _ rfl⟩
noncomputable def J3 (n:Nat):List V:=(List.range n).map λ(i:Nat)=>V.int i
def FQ (A:X.calm=true):yc X (.type "list") (λxs H Q=>∃(r:Addr) (j:Int),xs=[.ref r]/\H r=some (.rng 0 j)/\(-(2 ^ 62)<=j/\j<2 ^ 62)/\j.toNat<=sizeLine/\∀l,H l=none->Q (.ref l) (upd H l (.lst (J3 j.toNat)))):=by
 intro pins s σ H xs us Q I r h;obtain⟨p,j,rfl,x,⟨D,B⟩,z,q⟩:=h;obtain⟨u,rfl,g⟩:=vals1 r;cases g;obtain⟨t1,T,t3,y⟩:=I.hok p _ x;have E:sizeLine=16777216:=sizeLine_eq;refine PySem.call_list_range (n:=j.toNat) (I.ok.hd A) (show IsRange s.heap p 0 j 1 t1 T t3 from y) (small_one (by omega) (by omega) D B) (by rw[rangeSize_one];split<;>omega) (by omega) λh' tk acc C kk S ⟨hn,d⟩=>?_
 refine⟨.ref s.heap.objs.size,_,I.laid (t':=tk) (o:=.lst (J3 j.toNat)) kk (av _) ?_,rfl,q _ (I.hok.fresh (av _))⟩;refine⟨by unfold J3;simpa using z,acc.toList,C,?_,by simpa using S⟩
 have a:∀(l:bR)(k:Nat),(∀(i:Nat) v,l[i]? =some v->∃t,v=.int ((k+i:Nat):Int) t)->Vals ((List.range' k l.length).map λ(i:Nat)=>V.int i) l:=by
  intro l
  induction l with
  |nil=>intro k _;exact .nil|cons v l w=>
   intro k e;rw[a9,range'_succ,aX];refine .cons ?_ (w (k+1) λi f a=>?_)
   ·obtain⟨t,rfl⟩:=e 0 v rfl
    exact⟨t,rfl⟩
   ·obtain⟨t,rfl⟩:=e (i+1) f (by simpa using a)
    exact⟨t,by congr 1;omega⟩
 have b:acc.toList.length=j.toNat:=by simpa using hn
 have:=a acc.toList 0 λi v c=>by
  obtain⟨t,rfl⟩:=d i v (by simpa using c)
  exact⟨t,by congr 1;omega⟩
 rw[b]at this;unfold J3;rw[range_eq_range'];exact this
def KR (m:Ev):Ev:=λρ A=>(m ρ A).bind λw A1=>match w with
 |.int j=>if jP j&&decide (j.toNat<=zY) then .ok (.ref A1.length) (A1++[.lst ((List.range j.toNat).map λ(i:Nat)=>W.int i)]) else .bad|_=>.bad
noncomputable def zei (i:Nat)(m:Ev):Ex:=λρ A=>match ρ[i]? with
 |some (some (.int x))=>(m ρ A).bind λw A1=>match w with
  |.int y=>.ok (.nx (ρ.set i (some (.int (x+y))))) A1|_=>.bad
 |_=>.bad
noncomputable def fj:V->V->Hp->VK->Prop:=λo i H Q=>∃p xs k v,o=.ref p/\i=.int k/\0<=k/\H p=some (.lst xs)/\xs[k.toNat]? =some v/\Q v H
def CL:Mm X fj:=by
 intro pins s σ H o i g j Q I ro d h;obtain⟨p,xs,k,v,rfl,rfl,h0,f,e,q⟩:=h;cases ro;obtain⟨t,rfl⟩:=d;obtain⟨a,r,P,z⟩:=I.list (jy.of f);obtain⟨u,b,c⟩:=r.get e;have hn:=YJ;have l:=r.length;have n:k.toNat<a.length:=(cq.mp b).1;exact wpAny_getItem_list P.isList h0 (by omega) (by simpa using b) ⟨v,H,I,c,q⟩
def JO (mo mi me:Ev):Ex:=λρ A=>(mo ρ A).bind λo A1=>(mi ρ A1).bind λi A2=>match o,i with
 |.ref n,.int k=>if 0<=k then(match (A2[n]?:Option O) with
  |some (.lst ws)=>match ws[k.toNat]? with
   |some (.int x)=>(me ρ A2).bind λy b=>match y with
    |.int y=>(gF (.ref n) (.int k) (.int (x+y)) b).bind λ_ a=>.ok (.nx ρ) a|_=>.bad
   |_=>.bad
  |_=>.bad) else .bad
 |_,_=>.bad
noncomputable def GZ (i j k:Nat):Tg:=λw ρ=>match w with
 |.tup [x,.tup [y,z]]=>some (((ρ.set i (some x)).set j (some y)).set k (some z))|_=>none
end
def jT (k:Bool)(h:Heap)(it a:Addr)(i:Nat):Prop:=if k=true then h.IsListIter it a i else h.IsTupleIter it a i
def yq (k:Bool)(h:Heap)(a:Addr)(items:Array Value):Prop:=if k=true then h.IsList a items else h.IsTuple a items
def wg (k:Bool)(K:Frag)(H:Hp)(a:Addr)(xs:List V):Prop:=if k=true then jy K H a xs else qS K H a xs
noncomputable def JR (k:Bool):String:=if k then "list_iterator" else "tuple_iterator"
def jT.ob {k:Bool}{it:Addr}(x:jT k h it a i):∃o,h.get? it=some o/\o.cls=.type (JR k)/\o.data=.fields #[.ref a,.int i 0]:=by
 cases k<;>exact x
def jT.mk {k:Bool}{it:Addr}(x:∃o,h.get? it=some o/\o.cls=.type (JR k)/\o.data=.fields #[.ref a,.int i 0]):jT k h it a i:=by
 cases k<;>exact x
def jT.to {k:Bool}{h':Heap}{it:Addr}(x:jT k h it a i)(e:∀o,h.get? it=some o->h'.get? it=some o):jT k h' it a i:=let ⟨o,h1,r⟩:=x.ob;.mk ⟨o,e o h1,r⟩
def yq.ob {k:Bool}(x:yq k h a items):∃o,h.get? a=some o/\o.cls=.type (if k then "list" else "tuple")/\∃n,o.data=.seq items n:=by
 cases k<;>exact x
def yq.to {k:Bool}{h':Heap}(x:yq k h a items)(e:∀o,h.get? a=some o->h'.get? a=some o):yq k h' a items:=by
 cases k with
 |false=>exact let ⟨o,h1,r⟩:=x.ob;⟨o,e o h1,r⟩|true=>exact let ⟨o,h1,r⟩:=x.ob;⟨o,e o h1,r⟩
section
variable {prog:Program}{A:Around}{k:Bool}{it:Addr}
def O9 (h:yq k s.heap a items)(H:Q (.ref s.heap.objs.size) { s with heap:=s.heap.push { cls:=.type (JR k),data:=.fields #[.ref a,.int 0 0] } }):wpAny (model prog w) A (pyIter (.ref a)) Q E s:=by
 cases k with
 |true=>exact wpAny_pyIter_list h H|false=>exact wpAny_pyIter_tuple h H
def GY {x:Value}(hit:jT k s.heap it a i)(l:yq k s.heap a items)(f:items[i]? =some x)
  (g:∀h',jT k h' it a (i+1)->Heap.SameBut it s.heap h'->Q x { s with heap:=h' }):wpAny (model prog w) A (Builtin.SmallTypes.nextOf (.ref it)) Q E s:=by
 cases k with
 |true=>exact wpAny_nextOf_list_item hit l f g|false=>
  have h:s.heap.IsTupleIter it a i:=hit;obtain⟨o,b,e,H⟩:=id h;obtain⟨j,c,_,na,d⟩:s.heap.IsTuple a items:=l;unfold Builtin.SmallTypes.nextOf;refine ck (wpAny_callSpecial?_slot (name:=Str.ofString "__next__") h.typeIs F.slot_tuple_iterator_next (wpAny_call_entry F.slot_tuple_iterator_next h.typeIs F.entry_tuple_iterator_next ?_ (F.args_tuple_iterator_next_1 _)));show wpAny _ _ (field (.ref it) 0 >>= _) _ _ s;refine ck (wpAny_field b H (x:=.ref a) rfl ?_);show wpAny _ _ (if (Value.ref a==Value.none)=true then _ else _) _ _ s;rw[ar (show ¬((Value.ref a==Value.none)=true) from aA)]
  show wpAny _ _ (field (.ref it) 1 >>= _) _ _ s;refine ck (wpAny_field b H (x:=.int i 0) rfl ?_);show wpAny _ _ (seqItems? (.ref a) >>= _) _ _ s;refine ck (wpAny_seqItems c d ?_);simp only[aG,f];refine ck (wpAny_setField b H (by simp) (cm ⟨x,rfl,cm (g _ (.mk ?_) (Heap.SameBut.update ..))⟩))
  exact⟨_,aZ _ b (Obj.isFreed_of_fields (Obj.data_mapFields H _)),(Obj.cls_mapFields ..).trans e,by rw[Obj.data_mapFields H];simp[rawInt]⟩
def U3 (d:A.handled=none)(hit:jT k s.heap it a i)(l:yq k s.heap a items)(g:items[i]? =none)
  (j:∀h' e,Heap.ExtBut it s.heap h'->(∃o,h'.get? e=some o/\o.cls=.type "StopIteration")->E (.ref e) { s with heap:=h' }):wpAny (model prog w) A (Builtin.SmallTypes.nextOf (.ref it)) Q E s:=by
 cases k with
 |true=>exact wpAny_nextOf_list_end d hit l g j|false=>
  have h:s.heap.IsTupleIter it a i:=hit;obtain⟨p,H,n,b⟩:=id h;obtain⟨q,c,_,na,f⟩:s.heap.IsTuple a items:=l;unfold Builtin.SmallTypes.nextOf;refine ck (wpAny_callSpecial?_slot (name:=Str.ofString "__next__") h.typeIs F.slot_tuple_iterator_next (wpAny_call_entry F.slot_tuple_iterator_next h.typeIs F.entry_tuple_iterator_next ?_ (F.args_tuple_iterator_next_1 _)));show wpAny _ _ (field (.ref it) 0 >>= _) _ _ s;refine ck (wpAny_field H b (x:=.ref a) rfl ?_);show wpAny _ _ (if (Value.ref a==Value.none)=true then _ else _) _ _ s;rw[ar (show ¬((Value.ref a==Value.none)=true) from aA)]
  show wpAny _ _ (field (.ref it) 1 >>= _) _ _ s;refine ck (wpAny_field H b (x:=.int i 0) rfl ?_);show wpAny _ _ (seqItems? (.ref a) >>= _) _ _ s;refine ck (wpAny_seqItems c f ?_);simp only[aG,g];refine ck (wpAny_rule (ck (wpAny_setField H b (by simp) ?_)))
  show wpAny _ _ (newExc (.type "StopIteration") [] >>= _) _ _ _;refine ck ?_;simp only[newExc,newTuple];refine ck (wpAny_newObj_type ?_ (by size_fits))
  refine ck (m:=firstArgMember _ _) (wpAny_of_eq (a:=Value.none) (by first|rfl|(simp only[firstArgMember];rfl)) ?_);refine wpAny_newObj_type ?_ (by size_fits)
  simp only[raiseNew];refine ck (wpAny_handled ?_)
  first|rw[show A.in1.handled=none from d]|rw[d]
  refine ck (cm (wpAny_throw ?_));exact j _ _ (((Heap.SameBut.update ..).extBut.push _).push _) ⟨_,au _ rfl,rfl⟩
def OF (g:A.handled=none)(c:a≠it):Draws prog w A it [it,a] items.size (λi v=>items[i]? =some v) (λi h=>jT k h it a i/\yq k h a items) where
 live:=λ_ _ st=>let ⟨o,f,_⟩:=st.1.ob;⟨o,f⟩
 frame:=λ_ _ _ st d=>⟨st.1.to λo e=>d it (by simp) o e,st.2.to λo e=>d a (by simp) o e⟩
 item:=λi s Q E hi st j=>GY st.1 st.2 (x:=items[i]) (by simp[hi]) λh' b H=>j _ h' s.toks (by simp[hi]) ⟨b,st.2.to λo e=>H.extBut a o c e⟩ H
 done:=λs Q E st l=>U3 g st.1 st.2 (by simp) l
end
section
variable {h':Heap}
def _root_.L2.Inv.spun {T:Addr}{o:HO}(I:Inv X pins σ H s)(k:∀b u,b∉fp->s.heap.get? b=some u->h'.get? b=some u)(hf:∀b∈fp,wV X pins H b)(d:s.heap.objs.size<=T)
  (new:jk X.prog X.w (upd H T o) h' T o):Inv X pins σ (upd H T o) { s with heap:=h',toks:=t' }:=by
 have hn:H T=none:=I.hok.fresh d;have lt:∀b u,s.heap.get? b=some u->b≠T:=λb u e=>aK (aE (aH e) d);have N:∀b u,H b=some u->b∉fp:=λb u e z=>by rw[(hf b z).1]at e;cases e
 refine I.step (g':=s.gens) (d':=s.drawn) (ch:=fp) (λb a=>let ⟨_,f1,_,i,f4,g⟩:=hf b a;⟨i,f1,f4,g⟩) (λb o _ _ h e _=>k b o h e) (λb o _ _ h e _=>⟨o.slots,k b o h e⟩)
  (λb o _ e n=>by rw[qv (lt b o e)];exact n) (λb o h e=>⟨o,k b o h e⟩) (λb xs e=>by rw[qv (kX e hn)];exact e) (λb u xs e=>by rw[qv (kX e hn)];exact e)
  (λb ps e=>⟨#[],by rw[qv (kX e hn),e];simp⟩) (λm hm=>?_) (λb u e=>?_) I.bare
 ·obtain⟨o,E,p,f,r⟩:=hm
  exact⟨o,E,p,k _ o (λz=>(hf _ z).2.1 rfl) f,r⟩
 ·by_cases a:b=T
  ·subst a;rw[jN]at e;cases e;exact new
  ·rw[qv a]at e
   refine(I.hok b u e).stay (λc v h q=>k c v ?_ q) (λc q=>by rw[qv (kX q hn)];exact q) λc xs q=>by rw[qv (kX q hn)];exact q
   rcases h with z|z
   ·rw[z];exact N b u e
   ·exact N c _ z
def _root_.L2.Inv.spun0 (I:Inv X pins σ H s)(k:∀b u,b∉fp->s.heap.get? b=some u->h'.get? b=some u)(hf:∀b∈fp,wV X pins H b):Inv X pins σ H { s with heap:=h',toks:=t' }:=by
 have N:∀b u,H b=some u->b∉fp:=λb u e z=>by rw[(hf b z).1]at e;cases e
 refine I.step (g':=s.gens) (d':=s.drawn) (ch:=fp) (λb d=>let ⟨_,f1,_,g,f4,f⟩:=hf b d;⟨g,f1,f4,f⟩) (λb o _ _ h e _=>k b o h e) (λb o _ _ h e _=>⟨o.slots,k b o h e⟩)
  (λb o _ e n=>n) (λb o h e=>⟨o,k b o h e⟩) (λb xs e=>e) (λb u xs e=>e) (λb ps e=>⟨#[],by rw[e];simp⟩) (λm hm=>?_) (λb u e=>?_) I.bare
 ·obtain⟨o,E,p,a,r⟩:=hm
  exact⟨o,E,p,k _ o (λz=>(hf _ z).2.1 rfl) a,r⟩
 ·refine(I.hok b u e).stay (λc v h q=>k c v ?_ q) (λc q=>q) λc xs q=>q
  rcases h with z|z
  ·rw[z];exact N b u e
  ·exact N c _ z
def _root_.L2.Inv.sq {k:Bool}(I:Inv X pins σ H s)(h:wg k X.K H a xs):∃i:bR,Vals xs i/\yq k s.heap a i.toArray/\xs.length<=sizeLine:=by
 cases k with
 |true=>obtain⟨i,r,p,z⟩:=I.list h;exact⟨i,r,p.isList,z⟩|false=>obtain⟨i,r,p,z⟩:=I.tuple h;exact⟨i,r,(show s.heap.IsTuple a i.toArray from p),z⟩
def _root_.L2.Inv.sq_inj {k:Bool}(I:Inv X pins σ H s)(h:wg k X.K H a xs)(h':wg k X.K H a ys):xs=ys:=by
 cases k with
 |true=>exact I.list_inj h h'|false=>exact I.tuple_inj h h'
end
def TQ (k:Bool)(K:Frag)(a:Addr):It:=
 ⟨λi H=>∃xs x,wg k K H a xs/\xs[i]? =some x,λi H x h=>∃p y,(∀xs,wg k K H a xs->xs[i]? =some y)/\H p=none/\x=.ref p/\h=upd H p (.tup [.int i,y]),λi H=>∃xs,wg k K H a xs/\xs.length=i⟩
def E3 {K:Frag}(k:Bool)(a n it:Addr):Turn P w K (.Tuple elts kk tpos) (TQ k K a) [n,it] n (λi h=>(∃old,IsEnum h n it i old)/\jT k h it a i/\n≠it) where
 mem:=by simp
 obj:=λi h st b f=>by
  obtain⟨⟨old,he⟩,hi,_⟩:=st;rcases cn.mp f with rfl|f
  ·exact⟨_,he,λv z=>nomatch z⟩
  ·rw[cy.mp f]
   obtain⟨o,Q,_,hd⟩:=hi.ob;exact⟨o,Q,λv z=>by rw[hd]at z;cases z⟩
 keep:=λi h h' ⟨⟨old,he⟩,hi,ne⟩ kp=>⟨⟨old,kp n (by simp) _ he⟩,hi.to λo p=>kp it (by simp) o p,ne⟩
 item:=by
  intro X hP hw hK hc i pins s σ H E I hf st T;subst hP hw hK;obtain⟨⟨old,he⟩,hi,ne⟩:=st;obtain⟨xs,x,C,B⟩:=T;obtain⟨d,D,r,hz⟩:=I.sq C;obtain⟨u,hu,ru⟩:=D.get B;have S:i<d.toArray.size:=by simpa using (cq.mp hu).1
  obtain⟨oa,g,Z,na,e⟩:=r.ob;have A:a≠it:=λz=>by
   obtain⟨oi,c,Y,l⟩:=hi.ob;rw[<- z,g]at c;cases c;rw[l]at e;cases e
  have ane:n≠a:=λz=>by
   have t:s.heap.get? a=_:=z ▸ he;rw[g]at t;cases t;cases e
  refine wpAny_pyNext_enum_itemD (OF (k:=k) (items:=d.toArray) (I.ok.hd hc) A) he ⟨hi,r⟩ S ne (by simp[ne,ane]) λy h1 tk J Q N hT hsz hk=>?_
  have ey:y=u:=by
   have:d[i]? =some y:=by simpa using J
   rw[hu]at this;exact(aD this).symm
  subst ey;refine⟨_,rfl,wpAny_letOwnedTupleGo_enum Q λh2 U j=>?_⟩;have L:n<s.heap.objs.size:=aH he;have hT2:h2.get? s.heap.objs.size=some { cls:=.type "tuple",data:=.seq #[.int i tk,y] }:=j.extBut _ _ (bp L) hT;refine⟨.ref s.heap.objs.size,upd H s.heap.objs.size (.tup [.int i,x]),?_,rfl,⟨s.heap.objs.size,x,λys J=>by rw[I.sq_inj J C];exact B,I.hok.fresh (av _),rfl,rfl⟩,⟨⟨_,by simpa using U⟩,?_,ne⟩,λb f=>?_⟩
  ·refine I.spun (fp:=[n,it]) (t':=tk+1) (λb o f p=>?_) hf (av _) ?_
   ·exact j.extBut _ _ (λz=>f (by simp[z])) (hk b o (λz=>f (by simp[z])) (λz=>f (by simp[z])) p)
   ·exact⟨by show 2<=sizeLine;decide,[.int i tk,y],.cons ⟨tk,rfl⟩ (.cons ru .nil),_,hT2,⟨rfl,rfl⟩,0,rfl⟩
  ·exact N.1.to λo p=>j.extBut _ _ (λz=>ne z.symm) p
  ·have bn:b≠s.heap.objs.size:=λz=>by
    rcases cn.mp f with q|q
    ·exact absurd L (by rw[<- q,z];exact aT _)
    ·obtain⟨oi,c,_⟩:=hi.ob
     exact absurd (aH c) (by rw[<- cy.mp q,z];exact aT _)
   show upd H s.heap.objs.size _ b=none;rw[qv bn];exact(hf b f).1
 done:=by
  intro X hP hw hK hc i pins s σ H E I hf st T;subst hP hw hK;obtain⟨⟨old,he⟩,hi,ne⟩:=st;obtain⟨xs,C,B⟩:=T;obtain⟨d,D,r,hz⟩:=I.sq C;have en':d.toArray.size=i:=by rw[aC,<- D.length];exact B
  obtain⟨oa,g,Z,na,e⟩:=r.ob;have A:a≠it:=λz=>by
   obtain⟨oi,c,Y,l⟩:=hi.ob;rw[<- z,g]at c;cases c;rw[l]at e;cases e
  refine wpAny_pyNext_enum_endD (OF (k:=k) (items:=d.toArray) (I.ok.hd hc) A) he ⟨by rw[en'];exact hi,r⟩ λh1 M=>⟨rfl,?_⟩
  exact I.spun0 (fp:=[n,it]) (t':=s.toks) (λb o f p=>M b o (λz=>f (by simp[z])) p) hf
 self:=λ_ _ _ _ _ ⟨⟨_,he⟩,_⟩ h=>wpAny_pyIter_enum he h
open AutoSeq1 (wpAny_loadPart')
abbrev XF (h:Heap)(k:Bool)(a:Addr):Heap:=h.push { cls:=.type (JR k),data:=.fields #[.ref a,.int 0 0] }
abbrev Mn (h:Heap)(k:Bool)(a:Addr):Heap:=(XF h k a).push { cls:=.type "enumerate",data:=.fields #[.none,.bool false,.ref h.objs.size,rawInt 0,.none,.none] }
def Fj (a:Addr)(items:Array Value)(n:Nat)(dd:cf)(S:Array (Option Value)):
  Meets (Builtin.«enumerate.__new__» ⟨[.type "enumerate",.ref a],[]⟩) (λ_ R s=>s.heap.get? a=some { cls:=.type "tuple",dict:=dd,data:=.seq items n,slots:=S }/\R (.ok (.ret (.ref (XF s.heap false a).objs.size))) { s with heap:=Mn s.heap false a }):=
 .of_wp λprog w A R s h=>by
  obtain⟨p,g,d,tk,os⟩:=s;obtain⟨H,h⟩:=h;have b:=sub_enumerate;have T:Heap.IsTuple (Shared.heap ⟨p,g,d,tk,os⟩) a items:=⟨_,H,rfl,n,rfl⟩
  wp_walk using wpAny_loadPart' H
  refine wpAny_stack_any λst=>cm ?_;split
  ·rename_i c _ _ _ _ _
   cases (c==Value.type "enumerate")<;>(wp_walk using wpAny_loadPart' H,wpAny_pyIter_tuple T;exact⟨_,rfl,h⟩)
  ·wp_walk using wpAny_loadPart' H,wpAny_pyIter_tuple T
   exact⟨_,rfl,h⟩
section
variable {prog:Program}{A:Around}
def Dg {k:Bool}(l:yq k s.heap a items)
  (h:∀h',IsEnum h' (s.heap.objs.size+1) s.heap.objs.size 0 .none->jT k h' s.heap.objs.size a 0->(∀b o,s.heap.get? b=some o->h'.get? b=some o)->Q (.ref (s.heap.objs.size+1)) { s with heap:=h' }):
  wpAny (model prog w) A (call (.type "enumerate") [.ref a]) Q E s:=by
 cases k with
 |true=>exact call_enumerate_list l λh' g f _ e=>h h' g f e|false=>
  obtain⟨⟨c,dd,D,S⟩,d,H,n,hd⟩:=(show s.heap.IsTuple a items from l)
  replace H:c=.type "tuple":=H
  replace hd:D=.seq items n:=hd
  subst H hd;refine callType_new F.called_enumerate (by decide) (F.typeCall_enumerate_1 _) (F.newCall_enumerate_1 _) (λobj=>F.args_object_init_2 obj _) F.entry_enumerate_new (Fj a items n dd S) ⟨d,?_⟩
  have z:(XF s.heap false a).objs.size=s.heap.objs.size+1:=bf ..;have he:IsEnum (Mn s.heap false a) (XF s.heap false a).objs.size s.heap.objs.size 0 .none:=au _ rfl;show _/\_;rw[z]at he ⊢;exact⟨⟨_,he,rfl⟩,h _ he (.mk ⟨_,af _ (au _ rfl),rfl,rfl⟩) λb o x=>af _ (af _ x)⟩
end
section
variable {a b:Expr}{m:Ev}
def fk (K:Frag)(t:TA):TI:=λσ H R=>t σ H λvs H1=>∃p k xs,vs=[.ref p]/\wg k K H1 p xs/\R (TQ k K p) H1
def boot_enumerate:bootBuiltins "enumerate"=some (.type "enumerate"):=by rfl
def boot_zip:bootBuiltins "zip"=some (.type "zip"):=by rfl
def Bs {t:TA}(l:Gl X "enumerate")(hm:X.mg "enumerate"=none)(o:PA X [a] t)(g:starEach [a] X.env=[(false,eval a X.env)]):
  PI X (.Tuple elts kk tpos) (.Call (.Name "enumerate" p) [a] [] pos) (fk X.K t):=by
 intro pins s σ H R I h;refine Call_ (ZP I l hm boot_enumerate (PyProof.Rows.callWith_type1 (qa (o pos pins s σ H _ I h) λus s1 ⟨vs,H1,i,d,Q⟩=>?_) g rfl));obtain⟨p,k,xs,rfl,j,q⟩:=Q;obtain⟨u,rfl,r⟩:=d.one;cases r;obtain⟨f,w,sq,x⟩:=i.sq j;refine Dg sq λh' e v E=>wpAny_pyIter_enum e ?_;refine⟨s1.heap.objs.size+1,[s1.heap.objs.size+1,s1.heap.objs.size],_,_,H1,rfl,i.kept (t':=s1.toks) E,E3 k p _ _,⟨⟨_,by simpa using e⟩,v,Nat.succ_ne_self _⟩,λb n=>?_,q⟩
 have c:s1.heap.objs.size<=b:=by
  rcases cn.mp n with z|z
  ·rw[z];exact le_succ _
  ·rw[cy.mp z];exact av _
 exact i.fpOk c (i.hok.fresh c)
noncomputable def atEnd (ws:List W)(i:Nat)(f:W->W):Option (Option W):=match ws[i]? with
 |some x=>some (some (f x))|none=>if ws.length=i then some none else none
def kR (w:W)(n:Nat):jV:=⟨λA i=>match qb w A with
 |some ws=>atEnd ws i λx=>.tup [.int i,x]|none=>none,n⟩
noncomputable def Jb (w:W):Bool:=match w with
 |.tup _=>false|_=>true
def GI {K:Frag}{A:Hx}{w:W}{ws:List W}(S:zT K φ A H)(q:RV K φ H w v)(e:qb w A=some ws):∃p ys,v=.ref p/\wg (Jb w) K H p ys/\zK K φ H ws ys:=by
 cases w with
 |tup us=>cases e;obtain⟨a,vs,E,t,r⟩:=q;exact⟨a,vs,E,t,r⟩|ref n=>
  obtain⟨a,E,f⟩:=q;unfold qb at e;dsimp only at e;cases c:A[n]? with
  |none=>rw[c]at e;cases e|some o=>
   rw[c]at e;obtain⟨g,d,r⟩:=S.ob n o c;rw[f]at d;cases d;cases o with
   |lst xs=>cases e;obtain⟨y,b,h⟩:=r;exact⟨a,y,E,jy.of b,h⟩|ro xs=>cases e;obtain⟨y,b,h⟩:=r;exact⟨a,y,E,b.sq,h⟩|dct xs=>cases e|tab _ _=>cases e
 |non=>cases e|bl _=>cases e|clo _ _ _=>cases e|xc _=>cases e|int _=>cases e|str _=>cases e
def VN {K:Frag}{a:bS}{A:Hx}{h:Hp}{w:W}{b:List W}{p:Addr}(q:RV K φ H w (.ref p))(lw:QF K φ H a h)(S:zT K a A h)(E:qb w A=some b):∃y,wg (Jb w) K h p y/\zK K a h b y:=by
 obtain⟨P,ys,e,d,c⟩:=GI S (RV.monoW lw q) E;cases e;exact⟨ys,d,c⟩
def fm {K:Frag}{w:W}{p:Addr}(q:RV K φ H w (.ref p)):Qy K φ H (kR w n) (TQ (Jb w) K p):=λi c o l lw S=>by
 unfold kR;dsimp only;cases es:qb w l with
 |none=>exact⟨λ_ z=>(by cases z),λz=>(by cases z)⟩|some ws=>
  dsimp only;obtain⟨ys,a,b⟩:=VN q lw S es;unfold atEnd;cases E:ws[i]? with
  |none=>
   dsimp only
   by_cases h:ws.length=i
   ·rw[ah h]
    exact⟨λ_ z=>(by cases z),λ_=>⟨ys,a,by rw[<- b.length];exact h⟩⟩
   ·rw[ar h]
    exact⟨λ_ z=>(by cases z),λz=>(by cases z)⟩
  |some x=>
   dsimp only;refine⟨λu z=>?_,λz=>(by cases z)⟩
   cases z;obtain⟨y,e,j⟩:=b.get E;refine⟨⟨ys,y,a,e⟩,λX H1 ⟨t,Y,d,f,ex,g⟩=>?_⟩;subst ex g
   have:=d ys a
   rw[e]at this;cases this;obtain⟨a1,a2,A⟩:=Q9 S f (.cons (w:=.int i) (v:=.int i) rfl (.one j));exact⟨a1,a2,A⟩
def wB (m:Ev):Ei:=λρ A=>(m ρ A).bind λw A1=>match qb w A1 with
 |some ws=>.ok (kR w ws.length) A1|none=>.bad
end
section
variable {prog:Program}{A:Around}{z TI TO i1 i2 l1 l2:Addr}{n1 n2:Nat}{c1 c2:Bool}{xs ys:Array Value}{x y a b:Value}
def Au (D:ZipApart z TI TO i1 i2 l1 l2)(H:IsZip s.heap z TI TO .none)(I:IsPair s.heap TI (.ref i1) (.ref i2))(B:IsPair s.heap TO a b)
  (g1:jT c1 s.heap i1 l1 n1)(g2:jT c2 s.heap i2 l2 n2)(s1:yq c1 s.heap l1 xs)(s2:yq c2 s.heap l2 ys)(hx:xs[n1]? =some x)(Y:ys[n2]? =some y)
  (hQ:∀h',IsZip h' z TI TO (rawInt s.heap.objs.size)->IsPair h' TI (.ref i1) (.ref i2)->IsPair h' TO x y->jT c1 h' i1 l1 (n1+1)->jT c2 h' i2 l2 (n2+1)->IsPair h' s.heap.objs.size x y->
   (∀c o,c≠z->c≠TO->c≠i1->c≠i2->s.heap.get? c=some o->h'.get? c=some o)->Q (.ref s.heap.objs.size) { s with heap:=h' }):
  wpAny (model prog w) A (Builtin.«zip.__next__» ⟨[.ref z],[]⟩) (λfin s'=>∃v,fin=.done (.ret v)/\Q v s') E s:=by
 show wpAny _ _ (field (.ref z) 2 >>= _) _ _ _;refine ck (wpAny_field H rfl (x:=.bool false) rfl ?_);show wpAny _ _ (field (.ref z) 3 >>= _) _ _ _;refine ck (wpAny_field H rfl (x:=.ref TI) rfl (ck (wpAny_seqItems I rfl ?_)));show wpAny _ _ (Builtin.SmallTypes.ownedTupleIsFree (.ref z) >>= _) _ _ _;refine ck ?_;unfold Builtin.SmallTypes.ownedTupleIsFree;refine ck (wpAny_field H rfl (x:=.none) rfl (cm ?_));simp only[if_true];refine ck (wpAny_rule (ck (wpAny_field H rfl (x:=.ref TO) rfl ?_)));refine ck (wpAny_setField_rec H (by simp) λha r sa=>?_);replace r:IsZip ha z TI TO .ellipsis:=r
 refine ck ?_;simp only[List.zipIdx_cons,List.zipIdx_nil,forIn_cons,forIn_nil];refine ck (ck (wpAny_onRaise ?_));show wpAny _ _ (Builtin.SmallTypes.nextOf (.ref i1) >>= _) _ _ _;refine ck (GY (g1.to λo e=>sa.extBut _ _ D.i1z e) (s1.to λo e=>sa.extBut _ _ D.l1z e) hx λhb gb l=>cm ?_);have L:IsPair hb TO a b:=l.extBut _ _ D.TOi1 (sa.extBut _ _ D.TOz B);refine ck (wpAny_seqItems L rfl (ck (wpAny_updateSeq_pair L λU T sc=>ck (wpAny_letGo (cm ?_)))));replace T:IsPair U TO x b:=T;refine ck (ck (wpAny_onRaise ?_));show wpAny _ _ (Builtin.SmallTypes.nextOf (.ref i2) >>= _) _ _ _;have up:∀c o,c≠z->c≠i1->c≠TO->s.heap.get? c=some o->U.get? c=some o:=λc o f d h e=>sc.extBut _ _ h (l.extBut _ _ d (sa.extBut _ _ f e));refine ck (GY (g2.to λo e=>up _ o D.i2z D.i12.symm D.TOi2.symm e) (s2.to λo e=>up _ o D.l2z D.l2i1 D.l2TO e) Y λhd gd g=>cm ?_);have K:IsPair hd TO x b:=g.extBut _ _ D.TOi2 T;refine ck (wpAny_seqItems K rfl (ck (wpAny_updateSeq_pair K λhe t S=>ck (wpAny_letGo (cm (cm ?_))))));replace t:IsPair he TO x y:=t;refine ck (wpAny_seqItems t rfl (ck (wpAny_newTuple ?_)));have i:he.objs.size=s.heap.objs.size:=by rw[S.1,g.1,sc.1,l.1,sa.1]
 have J:IsZip he z TI TO .ellipsis:=S.extBut _ _ D.TOz.symm (g.extBut _ _ D.i2z.symm (sc.extBut _ _ D.TOz.symm (l.extBut _ _ D.i1z.symm r)));have P:∀c o,c≠z->c≠TO->c≠i1->c≠i2->s.heap.get? c=some o->he.get? c=some o:=λc o f d h u e=>S.extBut _ _ d (g.extBut _ _ u (up c o f h d e));have ge1:jT c1 he i1 l1 (n1+1):=((gb.to λo e=>sc.extBut _ _ D.TOi1.symm e).to λo e=>g.extBut _ _ D.i12 e).to λo e=>S.extBut _ _ D.TOi1.symm e;have C:jT c2 he i2 l2 (n2+1):=gd.to λo e=>S.extBut _ _ D.TOi2.symm e;have Z:z<he.objs.size:=aH J;show wpAny _ _ (Builtin.SmallTypes.ownedTupleHandOut (.ref z) (.ref he.objs.size) >>= _) _ _ _;refine ck ?_;unfold Builtin.SmallTypes.ownedTupleHandOut;have X:IsZip (he.push { cls:=.type "tuple",data:=.seq #[x,y] }) z TI TO .ellipsis:=af _ J;refine ck (wpAny_setField_rec X (by simp) λhg p N=>?_);replace p:IsZip hg z TI TO (rawInt he.objs.size):=p
 refine wpAny_setField_rec p (by simp) λn j M=>?_;replace j:IsZip n z TI TO (rawInt he.objs.size):=j
 have fin:∀c o,c≠z->he.get? c=some o->n.get? c=some o:=λc o q e=>M.extBut _ _ q (N.extBut _ _ q (af _ e));have tk:IsPair n he.objs.size x y:=M.extBut _ _ (bp Z) (N.extBut _ _ (bp Z) (au _ rfl));rw[i]at j tk;refine cm ⟨_,rfl,?_⟩;show Q (.ref he.objs.size) _;rw[i];exact hQ n j (fin _ _ D.TIz (P _ _ D.TIz D.TITO D.TIi1 D.TIi2 I)) (fin _ _ D.TOz t) (ge1.to λo e=>fin _ o D.i1z e) (C.to λo e=>fin _ o D.i2z e) tk λc o f d h u e=>fin c o f (P c o f d h u e)
def fo {Q:Fin->Shared->Prop}(K:A.handled=none)(D:ZipApart z TI TO i1 i2 l1 l2)(i:IsZip s.heap z TI TO .none)(I:IsPair s.heap TI (.ref i1) (.ref i2))(v:IsPair s.heap TO a b)
  (g1:jT c1 s.heap i1 l1 n1)(g2:jT c2 s.heap i2 l2 n2)(s1:yq c1 s.heap l1 xs)(s2:yq c2 s.heap l2 ys)(j:xs[n1]? =none∨ys[n2]? =none)
  (L:∀h' e,(∀c o,c≠z->c≠TO->c≠i1->c≠i2->s.heap.get? c=some o->h'.get? c=some o)->(∃o,h'.get? e=some o/\o.cls=.type "StopIteration")->E (.ref e) { s with heap:=h' }):
  wpAny (model prog w) A (Builtin.«zip.__next__» ⟨[.ref z],[]⟩) Q E s:=by
 show wpAny _ _ (field (.ref z) 2 >>= _) _ _ _;refine ck (wpAny_field i rfl (x:=.bool false) rfl ?_);show wpAny _ _ (field (.ref z) 3 >>= _) _ _ _;refine ck (wpAny_field i rfl (x:=.ref TI) rfl (ck (wpAny_seqItems I rfl ?_)));show wpAny _ _ (Builtin.SmallTypes.ownedTupleIsFree (.ref z) >>= _) _ _ _;refine ck ?_;unfold Builtin.SmallTypes.ownedTupleIsFree;refine ck (wpAny_field i rfl (x:=.none) rfl (cm ?_));simp only[if_true];refine ck (wpAny_rule (ck (wpAny_field i rfl (x:=.ref TO) rfl ?_)));refine ck (wpAny_setField_rec i (by simp) λu Z sa=>?_);replace Z:IsZip u z TI TO .ellipsis:=Z
 refine ck ?_;simp only[List.zipIdx_cons,List.zipIdx_nil,forIn_cons,forIn_nil];refine ck (ck (wpAny_onRaise ?_));show wpAny _ _ (Builtin.SmallTypes.nextOf (.ref i1) >>= _) _ _ _;have ga:=g1.to (h':=u) λo e=>sa.extBut _ _ D.i1z e;have Y:=s1.to (h':=u) λo e=>sa.extBut _ _ D.l1z e;cases p:xs[n1]? with
 |none=>
  refine ck (U3 K ga Y p λt e S he=>?_);obtain⟨n,h,H⟩:=he;have B:IsZip t z TI TO .ellipsis:=S _ _ D.i1z.symm Z;have f:e≠z:=λq=>by subst q;rw[B]at h;cases h;simp at H
  exact wpAny_setField_rec B (by simp) λr _ sc=>L r e (λc o d _ g _ q=>sc.extBut _ _ d (S _ _ g (sa.extBut _ _ d q))) ⟨n,sc.extBut _ _ f h,H⟩
 |some x=>
  have N:ys[n2]? =none:=by
   rcases j with q|q
   ·rw[p]at q;cases q
   ·exact q
  refine ck (GY ga Y p λt U S=>cm ?_);have T:IsPair t TO a b:=S.extBut _ _ D.TOi1 (sa.extBut _ _ D.TOz v);refine ck (wpAny_seqItems T rfl (ck (wpAny_updateSeq_pair T λr P sc=>ck (wpAny_letGo (cm ?_)))));refine ck (ck (wpAny_onRaise ?_));show wpAny _ _ (Builtin.SmallTypes.nextOf (.ref i2) >>= _) _ _ _;have up:∀c o,c≠z->c≠i1->c≠TO->s.heap.get? c=some o->r.get? c=some o:=λc o d l g e=>sc.extBut _ _ g (S.extBut _ _ l (sa.extBut _ _ d e));refine ck (U3 K (g2.to λo e=>up _ o D.i2z D.i12.symm D.TOi2.symm e) (s2.to λo e=>up _ o D.l2z D.l2i1 D.l2TO e) N λhd e J he=>?_);obtain⟨n,h,H⟩:=he;have y:IsZip hd z TI TO .ellipsis:=J _ _ D.i2z.symm (sc.extBut _ _ D.TOz.symm (S.extBut _ _ D.i1z.symm Z));have f:e≠z:=λq=>by subst q;rw[y]at h;cases h;simp at H
  exact wpAny_setField_rec y (by simp) λhf _ C=>L hf e (λc o d l g M q=>C.extBut _ _ d (J _ _ M (up c o d g l q))) ⟨n,C.extBut _ _ f h,H⟩
def BD {Q:Option Value->Shared->Prop}(D:ZipApart z TI TO i1 i2 l1 l2)(d:IsZip s.heap z TI TO .none)(H:IsPair s.heap TI (.ref i1) (.ref i2))(h:IsPair s.heap TO a b)
  (g1:jT c1 s.heap i1 l1 n1)(g2:jT c2 s.heap i2 l2 n2)(s1:yq c1 s.heap l1 xs)(s2:yq c2 s.heap l2 ys)(p:xs[n1]? =some x)(n:ys[n2]? =some y)
  (r:∀h',IsZip h' z TI TO (rawInt s.heap.objs.size)->IsPair h' TI (.ref i1) (.ref i2)->IsPair h' TO x y->jT c1 h' i1 l1 (n1+1)->jT c2 h' i2 l2 (n2+1)->IsPair h' s.heap.objs.size x y->
   (∀c o,c≠z->c≠TO->c≠i1->c≠i2->s.heap.get? c=some o->h'.get? c=some o)->Q (some (.ref s.heap.objs.size)) { s with heap:=h' }):wpAny (model prog w) A (pyNext (.ref z)) Q E s:=by
 have T:s.TypeIs (.ref z) "zip":=⟨_,d,rfl⟩;unfold pyNext;exact ck (wpAny_attempt (wpAny_callSpecial?_slot (name:=Str.ofString "__next__") T F.slot_zip_next (wpAny_call_entry F.slot_zip_next T F.entry_zip_next
  (Au D d H h g1 g2 s1 s2 p n λh' l j i g f e q=>cm (r h' l j i g f e q)) (F.args_zip_next_1 _))))
def BK {Q:Option Value->Shared->Prop}(j:A.handled=none)(D:ZipApart z TI TO i1 i2 l1 l2)(d:IsZip s.heap z TI TO .none)(I:IsPair s.heap TI (.ref i1) (.ref i2))(H:IsPair s.heap TO a b)
  (g1:jT c1 s.heap i1 l1 n1)(g2:jT c2 s.heap i2 l2 n2)(s1:yq c1 s.heap l1 xs)(s2:yq c2 s.heap l2 ys)(h:xs[n1]? =none∨ys[n2]? =none)
  (n:∀h',(∀c o,c≠z->c≠TO->c≠i1->c≠i2->s.heap.get? c=some o->h'.get? c=some o)->Q none { s with heap:=h' }):wpAny (model prog w) A (pyNext (.ref z)) Q E s:=by
 have f:s.TypeIs (.ref z) "zip":=⟨_,d,rfl⟩;unfold pyNext;refine ck (wpAny_attempt (wpAny_callSpecial?_slot (name:=Str.ofString "__next__") f F.slot_zip_next (wpAny_call_entry F.slot_zip_next f F.entry_zip_next (fo j D d I H g1 g2 s1 s2 h λh' e i he=>?_) (F.args_zip_next_1 _))));obtain⟨o,g,l⟩:=he;exact ck (wpAny_isInstance (T := "StopIteration") (b:=true) ⟨o,g,l⟩ isSubtype_stop (cm (n _ i)))
end
abbrev Xy (h:Heap)(c:Bool)(l:Addr):Heap:=h.push { cls:=.type (JR c),data:=.fields #[.ref l,.int 0 0] }
abbrev XD (h:Heap)(C c:Bool)(L l:Addr):Heap:=(Xy h C L).push { cls:=.type (JR c),data:=.fields #[.ref l,.int 0 0] }
abbrev XC (h:Heap)(c C:Bool)(l L:Addr):Heap:=(XD h c C l L).push { cls:=.type "tuple",data:=.seq #[.ref h.objs.size,.ref (Xy h c l).objs.size] }
abbrev Xr (h:Heap)(C c:Bool)(L l:Addr):Heap:=(XC h C c L l).push { cls:=.type "tuple",data:=.seq #[.none,.none] }
abbrev YX (h:Heap)(C c:Bool)(L l:Addr):Heap:=(Xr h C c L l).push { cls:=.type "zip",data:=.fields #[.none,.bool false,.bool false,.ref (XD h C c L l).objs.size,.ref (XC h C c L l).objs.size] }
def E2 (c C:Bool)(l L:Addr)(xs ys:Array Value):
  Meets (Builtin.«zip.__new__» ⟨[.type "zip",.ref l,.ref L],[]⟩) (λ_ R s=>yq c s.heap l xs/\yq C s.heap L ys/\R (.ok (.ret (.ref (Xr s.heap c C l L).objs.size))) { s with heap:=YX s.heap c C l L }):=
 .of_wp λprog w A R s h=>by
  obtain⟨p,g,d,tk,os⟩:=s;obtain⟨Q,q,h⟩:=h;have H:=sub_zip;have k1:yq c (Shared.heap ⟨p,g,d,tk,os⟩) l xs:=Q;have k2:yq C (Shared.heap ⟨p.push { cls:=.type (JR c),data:=.fields #[.ref l,.int 0 0] },g,d,tk,os⟩) L ys:=q.to λo e=>af _ e
  wp_walk using O9 k1,O9 k2
  exact⟨_,rfl,h⟩
section
variable {prog:Program}{A:Around}{c1 c2:Bool}{l1 l2:Addr}{xs ys:Array Value}
def Bm (s1:yq c1 s.heap l1 xs)(s2:yq c2 s.heap l2 ys)
  (h:∀h' n,n=s.heap.objs.size->IsZip h' (n+4) (n+2) (n+3) .none->IsPair h' (n+2) (.ref n) (.ref (n+1))->IsPair h' (n+3) .none .none->jT c1 h' n l1 0->jT c2 h' (n+1) l2 0->
   (∀c o,s.heap.get? c=some o->h'.get? c=some o)->Q (.ref (n+4)) { s with heap:=h' }):wpAny (model prog w) A (call (.type "zip") [.ref l1,.ref l2]) Q E s:=by
 refine callType_new F.called_zip (by decide) (F.typeCall_zip_2 _ _) (F.newCall_zip_2 _ _) (λobj=>F.args_object_init_3 obj _ _) F.entry_zip_new (E2 c1 c2 l1 l2 xs ys) ⟨s1,s2,?_⟩
 have a:(Xy s.heap c1 l1).objs.size=s.heap.objs.size+1:=bf ..;have Z:(XD s.heap c1 c2 l1 l2).objs.size=s.heap.objs.size+2:=by rw[bf,a]
 have z:(XC s.heap c1 c2 l1 l2).objs.size=s.heap.objs.size+3:=by rw[bf,Z]
 have b:(Xr s.heap c1 c2 l1 l2).objs.size=s.heap.objs.size+4:=by rw[bf,z]
 have y5:(YX s.heap c1 c2 l1 l2).get? (Xr s.heap c1 c2 l1 l2).objs.size=some _:=au _ rfl;have y:(YX s.heap c1 c2 l1 l2).get? (XC s.heap c1 c2 l1 l2).objs.size=some _:=af _ (au _ rfl);have Y:(YX s.heap c1 c2 l1 l2).get? (XD s.heap c1 c2 l1 l2).objs.size=some _:=af _ (af _ (au _ rfl));have d:(YX s.heap c1 c2 l1 l2).get? (Xy s.heap c1 l1).objs.size=some _:=af _ (af _ (af _ (au _ rfl)));have e:(YX s.heap c1 c2 l1 l2).get? s.heap.objs.size=some _:=af _ (af _ (af _ (af _ (au _ rfl))));show _/\_;rw[Z,z,b]at y5;rw[a,Z]at Y;rw[z]at y;rw[a]at d;rw[b];exact⟨⟨_,y5,rfl⟩,h _ _ rfl y5 Y y (.mk ⟨_,e,rfl,rfl⟩) (.mk ⟨_,d,rfl,rfl⟩) λc o q=>
  af _ (af _ (af _ (af _ (af _ q))))⟩
end
def TK (C c:Bool)(K:Frag)(p q:Addr):It:=
 ⟨λi H=>∃xs ys x y,wg C K H p xs/\wg c K H q ys/\xs[i]? =some x/\ys[i]? =some y,
  λi H v h=>∃t x y,(∀xs,wg C K H p xs->xs[i]? =some x)/\(∀ys,wg c K H q ys->ys[i]? =some y)/\H t=none/\v=.ref t/\h=upd H t (.tup [x,y]),
  λi H=>∃xs ys,wg C K H p xs/\wg c K H q ys/\(xs[i]? =none∨ys[i]? =none)⟩
def CZ {K:Frag}(c1 c2:Bool)(p q z TI TO t r:Addr)(D:ZipApart z TI TO t r p q):
  Turn P w K (.Tuple elts kk tpos) (TK c1 c2 K p q) [z,TI,TO,t,r] z (λi h=>IsZip h z TI TO .none/\IsPair h TI (.ref t) (.ref r)/\(∃a b,IsPair h TO a b)/\jT c1 h t p i/\jT c2 h r q i) where
 mem:=by simp
 obj:=λi h st b d=>by
  obtain⟨j,g,⟨T,Q,f⟩,g1,g2⟩:=st;simp only[mem_cons,not_mem_nil,or_false]at d;rcases d with rfl|rfl|rfl|rfl|rfl
  ·exact⟨_,j,λv e=>nomatch e⟩
  ·exact⟨_,g,λv e=>nomatch e⟩
  ·exact⟨_,f,λv e=>nomatch e⟩
  ·obtain⟨o,B,_,hd⟩:=g1.ob;exact⟨o,B,λv e=>by rw[hd]at e;cases e⟩
  ·obtain⟨o,B,_,hd⟩:=g2.ob;exact⟨o,B,λv e=>by rw[hd]at e;cases e⟩
 keep:=λi h h' ⟨j,g,⟨T,Q,f⟩,g1,g2⟩ k=>⟨k z (by simp) _ j,k TI (by simp) _ g,⟨T,Q,k TO (by simp) _ f⟩,g1.to λo e=>k t (by simp) o e,g2.to λo e=>k r (by simp) o e⟩
 item:=by
  intro X hP hw hK hc i pins s σ H E I hf st hg;subst hP hw hK;obtain⟨j,g,⟨T,Q,f⟩,g1,g2⟩:=st;obtain⟨xs,ys,x,y,N,M,ex,ey⟩:=hg;obtain⟨n,r1,u,_⟩:=I.sq N;obtain⟨l,r2,S,_⟩:=I.sq M;obtain⟨Y,eu1,ru1⟩:=r1.get ex;obtain⟨U,eu2,Z⟩:=r2.get ey;refine BD D j g f g1 g2 u S (x:=Y) (y:=U) (by simpa using eu1) (by simpa using eu2) λhh z1 z2 z3 z4 z5 z6 kp=>?_
  refine⟨_,rfl,wpAny_letOwnedTupleGo_zip z1 λhk zk J=>?_⟩;have lt:∀{c o},s.heap.get? c=some o->c≠s.heap.objs.size:=λe=>aK (aH e);have T2:IsPair hk s.heap.objs.size Y U:=J.extBut _ _ (lt j).symm z6;have fre:∀b∈[z,TI,TO,t,r],b≠s.heap.objs.size:=λb d=>by
   simp only[mem_cons,not_mem_nil,or_false]at d;rcases d with rfl|rfl|rfl|rfl|rfl
   ·exact lt j
   ·exact lt g
   ·exact lt f
   ·obtain⟨o,B,_⟩:=g1.ob;exact lt B
   ·obtain⟨o,B,_⟩:=g2.ob;exact lt B
  refine⟨.ref s.heap.objs.size,upd H s.heap.objs.size (.tup [x,y]),?_,rfl,⟨s.heap.objs.size,x,y,λzs A=>by rw[I.sq_inj A N];exact ex,λzs A=>by rw[I.sq_inj A M];exact ey,I.hok.fresh (av _),rfl,rfl⟩,
   ⟨zk,J.extBut _ _ D.TIz z2,⟨_,_,J.extBut _ _ D.TOz z3⟩,z4.to λo e=>J.extBut _ _ D.i1z e,z5.to λo e=>J.extBut _ _ D.i2z e⟩,λb d=>?_⟩
  ·refine I.spun (fp:=[z,TI,TO,t,r]) (t':=s.toks) (λb o d eo=>?_) hf (av _) ?_
   ·exact J.extBut _ _ (λe=>d (by simp[e])) (kp b o (λe=>d (by simp[e])) (λe=>d (by simp[e])) (λe=>d (by simp[e])) (λe=>d (by simp[e])) eo)
   ·exact⟨by show 2<=sizeLine;decide,[Y,U],.cons ru1 (.cons Z .nil),_,T2,⟨rfl,rfl⟩,0,rfl⟩
  ·show upd H s.heap.objs.size _ b=none
   rw[qv (fre b d)];exact(hf b d).1
 done:=by
  intro X hP hw hK hc i pins s σ H E I hf st hg;subst hP hw hK;obtain⟨j,g,⟨T,Q,f⟩,g1,g2⟩:=st;obtain⟨xs,ys,N,M,L⟩:=hg;obtain⟨n,r1,u,_⟩:=I.sq N;obtain⟨l,r2,S,_⟩:=I.sq M;have C:n.toArray[i]? =none∨l.toArray[i]? =none:=by
   rcases L with e|e
   ·exact .inl (by simpa using r1.none_of e)
   ·exact .inr (by simpa using r2.none_of e)
  exact BK (I.ok.hd hc) D j g f g1 g2 u S C λhh kp=>⟨rfl,I.spun0 (fp:=[z,TI,TO,t,r]) (t':=s.toks) (λb o d eo=>kp b o (λe=>d (by simp[e])) (λe=>d (by simp[e])) (λe=>d (by simp[e])) (λe=>d (by simp[e])) eo) hf⟩
 self:=λ_ _ _ _ _ st h=>wpAny_pyIter_zip st.1 h
section
variable {a b:Expr}{m:Ev}
def fq (K:Frag)(t:TA):TI:=λσ H R=>t σ H λvs H1=>∃p q C c xs ys,vs=[.ref p,.ref q]/\wg C K H1 p xs/\wg c K H1 q ys/\R (TK C c K p q) H1
def ft {T:TA}(U:Gl X "zip")(hm:X.mg "zip"=none)(Y:PA X [a,b] T)(N:starEach [a,b] X.env=(false,eval a X.env)::starEach [b] X.env)(P:(backTo pos (starEach [b] X.env)).any (·.1)=false):
  PI X (.Tuple elts kk tpos) (.Call (.Name "zip" p) [a,b] [] pos) (fq X.K T):=by
 intro pins s σ H R I h;refine Call_ (ZP I U hm boot_zip (PyProof.Rows.callWith_type1 (qa (Y pos pins s σ H _ I h) λus s1 ⟨vs,H1,g,M,Q⟩=>?_) N P));obtain⟨p,q,c1,c2,xs,ys,rfl,h1,h2,hR⟩:=Q;obtain⟨u1,u2,rfl,o,r⟩:=M.two;cases o;cases r;obtain⟨w,J,d,_⟩:=g.sq h1;obtain⟨v,C,S,_⟩:=g.sq h2;obtain⟨op,u,_⟩:=d.ob;obtain⟨oq,t,_⟩:=S.ob;have L:p<s1.heap.objs.size:=aH u;have l:q<s1.heap.objs.size:=aH t;refine Bm d S λh' n E z B A y Z kp=>wpAny_pyIter_zip z ?_;rw[<- E]at L l;have ne1:∀(i j:Nat),i≠j->n+i≠n+j:=λi j h e=>h (Nat.add_left_cancel e);have ne2:∀(c:Nat)(i:Nat),c<n->c≠n+i:=λc i h e=>absurd h (by rw[e];exact Nat.not_lt.mpr (le_add_right n i))
 have D:ZipApart (n+4) (n+2) (n+3) (n+0) (n+1) p q:=⟨ne1 2 4 (by decide),ne1 3 4 (by decide),ne1 0 4 (by decide),ne1 1 4 (by decide),ne1 2 3 (by decide),ne1 2 0 (by decide),ne1 2 1 (by decide),ne1 3 0 (by decide),ne1 3 1 (by decide),ne1 0 1 (by decide),
  ne2 p 4 L,ne2 p 3 L,ne2 p 0 L,ne2 p 1 L,ne2 q 4 l,ne2 q 3 l,ne2 q 0 l,ne2 q 1 l⟩
 refine⟨n+4,[n+4,n+2,n+3,n,n+1],_,_,H1,rfl,g.kept (t':=s1.toks) kp,CZ c1 c2 p q _ _ _ _ _ D,⟨z,B,⟨_,_,A⟩,y,Z⟩,λc x=>?_,hR⟩;have f:s1.heap.objs.size<=c:=by
  rw[<- E];simp only[mem_cons,not_mem_nil,or_false]at x;rcases x with rfl|rfl|rfl|rfl|rfl
  ·exact le_add_right _ _
  ·exact le_add_right _ _
  ·exact le_add_right _ _
  ·exact av _
  ·exact le_add_right _ _
 exact g.fpOk f (g.hok.fresh f)
noncomputable def zip2:Option W->Option W->Option W
 |some x,some y=>some (.tup [x,y])|_,_=>none
def wU (w a:W)(n:Nat):jV:=⟨λA i=>match qb w A,qb a A with
 |some us,some vs=>some (zip2 us[i]? vs[i]?)|_,_=>none,n⟩
def fv {K:Frag}{w a:W}{p P:Addr}(q:RV K φ H w (.ref p))(Q:RV K φ H a (.ref P)):Qy K φ H (wU w a n) (TK (Jb w) (Jb a) K p P):=λi c I A lw S=>by
 unfold wU;dsimp only;cases es:qb w A with
 |none=>exact⟨λ_ z=>(by cases z),λz=>(by cases z)⟩|some us=>
  cases es':qb a A with
  |none=>exact⟨λ_ z=>(by cases z),λz=>(by cases z)⟩|some vs=>
   dsimp only;obtain⟨xs,b,f⟩:=VN q lw S es;obtain⟨ys,h,d⟩:=VN Q lw S es';have non:∀{us:List W}{xs:List V},zK K c I us xs->us[i]? =none->xs[i]? =none:=λr e=>by
    rw[List.getElem?_eq_none_iff]at e ⊢;rw[<- r.length];exact e
   cases j:us[i]? with
   |none=>exact⟨λ_ z=>(by cases z),λ_=>⟨xs,ys,b,h,.inl (non f j)⟩⟩|some x=>
    cases E:vs[i]? with
    |none=>exact⟨λ_ z=>(by cases z),λ_=>⟨xs,ys,b,h,.inr (non d E)⟩⟩|some y=>
     refine⟨λu z=>?_,λz=>(by cases z)⟩
     cases z;obtain⟨l,f1,f2⟩:=f.get j;obtain⟨v,g,f4⟩:=d.get E;refine⟨⟨xs,ys,l,v,b,h,f1,g⟩,λX H1 ⟨t,J,Y,s,o,B,ex,C⟩=>?_⟩;subst ex C;have g1:=s xs b;have g2:=o ys h;rw[f1]at g1;cases g1;rw[g]at g2;cases g2;obtain⟨a1,a2,D⟩:=Q9 S B (.cons f2 (.one f4));exact⟨a1,a2,D⟩
def wW (m M:Ev):Ei:=λρ A=>(m ρ A).bind λw A1=>(M ρ A1).bind λa A2=>match qb w A2,qb a A2 with
 |some us,some _=>.ok (wU w a us.length) A2|_,_=>.bad
variable {K:Frag}{c:Expr}
noncomputable def Jk:Ev:=λ_ A=>.ok (.ref A.length) (A++[.dct []])
noncomputable def XG:W->Option Key
 |.int i=>some (.inl i)|_=>none
noncomputable def yt (k:Key):List (Key×W)->Option W
 |[]=>none|(j,w)::r=>if j=k then some w else yt k r
theorem V1 (k:Key):∀{kvs:List (Key×W)}{us:List (Key×V)},us.map (·.1)=kvs.map (·.1)->zK K φ H (kvs.map (·.2)) (us.map (·.2))->
  (∀w,yt k kvs=some w->∃v,kQ us k=some v/\RV K φ H w v)/\(yt k kvs=none->kQ us k=none)
 |[],[],_,_=>⟨λw h=>(by cases h),λ_=>rfl⟩|[],_::_,h,_=>by simp at h|_::_,[],h,_=>by simp at h|(j,w)::kvs,(J,v)::us,h,r=>by
  simp only[aX,List.cons.injEq]at h;obtain⟨g,l,e,d,c⟩:=r;simp only[aX,List.cons.injEq]at e;obtain⟨rfl,rfl⟩:=e;have i:=V1 k h.2 c;have b:J=j:=h.1;subst b
  by_cases a:J=k
  ·refine⟨λf hw=>⟨v,GJ a,?_⟩,λhn=>?_⟩
   ·unfold yt at hw;rw[ah a]at hw;cases hw;exact d
   ·unfold yt at hn;rw[ah a]at hn;cases hn
  ·unfold yt
   rw[ar a,GC (p:=(J,v)) a];exact i
theorem zT.dct {A:Hx}{kvs:List (Key×W)}(S:zT K φ A H)(q:RV K φ H (.ref n) v)(e:A[n]? =some (.dct kvs)):∃p us,v=.ref p/\φ[n]? =some p/\H p=some (.dK us)/\us.map (·.1)=kvs.map (·.1)/\zK K φ H (kvs.map (·.2)) (us.map (·.2)):=by
 obtain⟨p,rfl,a⟩:=q;obtain⟨P,h,us,d,c,b⟩:=S.ob n _ e;rw[a]at h;cases h;exact⟨p,us,rfl,a,d,c,b⟩
def Xl:W->W->Hx->R W:=λd k A=>match d,XG k with
 |.ref n,some k=>match A[n]? with
  |some (.dct kvs)=>match yt k kvs with
   |some w=>.ok w A|none=>.bad
  |_=>.bad
 |_,_=>.bad
def fw:V->List V->Hp->VK->Prop:=λx vs H Q=>∃p us k d,x=.ref p/\vs=[kV k,d]/\H p=some (.dK us)/\us.length<sizeLine/\(∀v,kQ us k=some v->Q v H)/\(kQ us k=none->Q d (upd H p (.dK (putK us k d))))
def Dp:TM X "dict.setdefault" fw:=by
 intro pins s σ H x vs v us Q I g i h;obtain⟨p,kvs,k,d,rfl,rfl,f,A,n,l⟩:=h;cases g;obtain⟨U,u,rfl,j,c⟩:=i.two;obtain⟨z,hd,ws,rel,dd⟩:=NV I.hok f;refine call_meetsIn PySem.F.slot_dict_setdefault dd.typeIs PySem.F.entry_dict_setdefault (PySem.F.args_dict_setdefault_3 _ _ _) (kt_meets_setdefault (kM X.prog X.w) p (U8 j) hd u) ⟨ws,dd,by rw[<- rel.length];exact z,λv o=>?_,λhn h' D t=>?_⟩
 ·have r:=rel.val k
  rw[o]at r;cases e:kQ kvs k with
  |none=>rw[e]at r;exact r.elim|some a=>rw[e]at r;exact⟨a,H,I.tok _,r,n a e⟩
 ·have r:=rel.val k
  rw[hn]at r;cases e:kQ kvs k with
  |some a=>rw[e]at r;exact r.elim|none=>
   have b:(putK kvs k d).length<=sizeLine:=by have:=HH kvs k d;omega
   have he:∃q,h'.get? p=some q:=let ⟨q,_,_,y,_⟩:=D;⟨q,y⟩
   exact⟨d,_,Am I (by rw[f];exact True.intro) t he (eh b hd (rel.put k c) D),c,l e⟩
noncomputable def X3 (x:W)(A:Hx):Bool:=match x with
 |.ref n=>match A[n]? with
  |some (.dct _)=>true|_=>false
 |_=>false
def Qe:W->W->W->Hx->R W:=λd k v A=>match d,XG k with
 |.ref n,some k=>match A[n]? with
  |some (.dct kvs)=>if kvs.length<zY then(match yt k kvs with
   |some w=>.ok w A|none=>.ok v (A.set n (.dct (kvs++[(k,v)])))) else .bad
  |_=>.bad
 |_,_=>.bad
def YL (g:W->W->W->Hx->R W)(a b c:Ev):Ev:=λρ A=>(a ρ A).bind λx A1=>if X3 x A1 then(b ρ A1).bind λy A2=>(c ρ A2).bind λz d=>g x y z d else .bad
def CO {A:Hx}{w:W}(S:zT K φ A H)(q:RV K φ H w v)(e:X3 w A=true):XO K "dict" v H:=by
 unfold X3 at e;cases w with
 |ref n=>
  dsimp only at e;cases E:A[n]? with
  |none=>rw[E]at e;cases e|some o=>cases o with
   |dct ws=>obtain⟨p,us,rfl,_,h,_⟩:=S.dct q E;exact .inr (.inr (.inl ⟨rfl,.inl ⟨us,h⟩⟩))|_=>rw[E]at e;cases e
 |_=>cases e
end
def TH (d:Addr)(o:Obj)(us:List (Key×V)):It:=
 ⟨λi H=>H d=some (.frz o (.dK us))/\i<us.length,λi H x h=>∃t p,us[i]? =some p/\H t=none/\x=.ref t/\h=upd H t (.tup [kV p.1,p.2]),λi H=>H d=some (.frz o (.dK us))/\us[i]? =none⟩
def fx {k:Key}(h:(kM P w).is k u=true):RelV (kV k) u:=by
 rw[F6]at h;rcases ZI h with ⟨i,t,rfl,rfl⟩|⟨x,t,rfl,rfl⟩
 ·exact⟨t,rfl⟩
 ·exact⟨t,rfl⟩
theorem KV.at:∀{us:List (Key×V)}{vs:List (Key×Value)}{i:Nat}{p:Key×V},KV us vs->us[i]? =some p->∃u,vs[i]? =some (p.1,u)/\RelV p.2 u
 |[],_,_,_,_,e=>by simp at e|q::us,_,0,p,.cons (b:=b) r t,e=>by
  simp at e;subst e;exact⟨b.2,by simp only[List.getElem?_cons_zero];rw[r.1],r.2⟩
 |q::us,_,i+1,p,.cons r t,e=>by
  obtain⟨u,H,h⟩:=KV.at (i:=i) (p:=p) t (by simpa using e)
  exact⟨u,by simpa using H,h⟩
section
def _root_.L2.Inv.frzD {d:Addr}{o:Obj}{us:List (Key×V)}{f:Nat}(I:Inv X pins σ H s)(h:H d=some (.frz o (.dK us)))(p:∃E,o.data=.dict E f):∃vs,KV us vs/\s.heap.DictAt (kM X.prog X.w) d vs f:=by
 obtain⟨a,z,hd,vs,rel,dd⟩:=I.hok d _ h;obtain⟨i,o',es',e,g,c,r⟩:=dd.dictAt;rw[a]at e;cases e;obtain⟨E,he⟩:=p;have b:=c;rw[he]at b;injection b with l j
 subst j;exact⟨vs,rel,o,es',a,g,c,r⟩
end
def D5:entryFor table "dict_itemiterator.__iter__"=some Builtin.«dict_keyiterator.__iter__»:=entryFor_alias (id' := "dict_keyiterator.__iter__") (by kernel_rfl)
 (by first|rfl|decide +kernel|(unfold String.splitOn;simp +decide [String.splitOnAux])) (by decide +kernel) (by kernel_rfl)
def FY {K:Frag}(d it:Addr)(o:Obj)(us:List (Key×V))(j:Nat)(g:∃Y,o.data=.dict Y j):
  Turn P w K (.Tuple elts kk tpos) (TH d o us) [it] it (λi h=>∃ok a,IsItemIter h it d i us.length j ok a) where
 mem:=by simp
 obj:=λi h ⟨ok,a,st⟩ b c=>by
  rw[cy.mp c];exact⟨_,st,λv e=>nomatch e⟩
 keep:=λi h h' ⟨ok,a,st⟩ k=>⟨ok,a,k it (by simp) _ st⟩
 item:=by
  intro X q hw r x i pins s σ H E I hf st l;subst q hw r;obtain⟨ok,a,st⟩:=st;obtain⟨hd,hi⟩:=l;obtain⟨vs,rel,D⟩:=I.frzD hd g;obtain⟨u,J,B⟩:=KV.at rel (i:=i) (p:=us[i]) (by simp[hi])
  have S:IsItemIter s.heap it d i vs.length j ok a:=by rw[<- rel.length];exact st
  refine wpAny_pyNext_items_item S D J λkey U y M T L kp=>⟨_,rfl,wpAny_letOwnedTupleGo_items M λN n f=>?_⟩;have lt:it<s.heap.objs.size:=aH st;have Z:N.get? s.heap.objs.size=some { cls:=.type "tuple",data:=.seq #[key,u] }:=f.extBut _ _ (bp lt) T;refine⟨.ref s.heap.objs.size,upd H s.heap.objs.size (.tup [kV us[i].1,us[i].2]),?_,rfl,⟨s.heap.objs.size,us[i],by simp[hi],I.hok.fresh (av _),rfl,rfl⟩,⟨_,_,by rw[rel.length];exact n⟩,λb c=>?_⟩
  ·refine I.spun (fp:=[it]) (t':=s.toks) (λb ob c t=>?_) hf (av _) ?_
   ·exact f.extBut _ _ (λz=>c (by simp[z])) (kp b ob (λz=>c (by simp[z])) t)
   ·exact⟨by show 2<=sizeLine;decide,[key,u],.cons (fx y) (.cons B .nil),_,Z,⟨rfl,rfl⟩,0,rfl⟩
  ·show upd H s.heap.objs.size _ b=none
   have bn:b≠s.heap.objs.size:=λz=>by rw[cy.mp c]at z;exact absurd lt (by rw[z];exact aT _)
   rw[qv bn];exact(hf b c).1
 done:=by
  intro X q hw r x i pins s σ H E I hf st l;subst q hw r;obtain⟨ok,a,st⟩:=st;obtain⟨hd,hi⟩:=l;obtain⟨vs,rel,D⟩:=I.frzD hd g;have S:IsItemIter s.heap it d i vs.length j ok a:=by rw[<- rel.length];exact st
  have hn:vs[i]? =none:=by
   rw[List.getElem?_eq_none_iff]at hi ⊢;rw[<- rel.length];exact hi
  exact wpAny_pyNext_items_end (I.ok.hd x) S D hn λU C=>⟨rfl,I.spun0 (fp:=[it]) (t':=s.toks) (λb ob c t=>C b ob (λz=>c (by simp[z])) t) hf⟩
 self:=λA i s Q E ⟨ok,a,st⟩ h=>by
  have T:s.TypeIs (.ref it) "dict_itemiterator":=⟨_,st,rfl⟩;refine wpAny_pyIter_slot T F.slot_dict_itemiterator_iter (wpAny_call_entry F.slot_dict_itemiterator_iter T D5 ?_ (F.args_dict_itemiterator_iter_1 _));show wpAny _ _ (ret (.ref it)) _ _ s;exact cm ⟨_,rfl,"dict_itemiterator",_,T,F.slot_dict_itemiterator_next.lookup,h⟩
section
variable {a b:Expr}{m:Ev}
def fy (t:TE):TI:=λσ H R=>t σ H λx H1=>∃d us,x=.ref d/\H1 d=some (.dK us)/\∀o,R (TH d o us) (upd H1 d (.frz o (.dK us)))
def CM {apos:Pos}{T:TE}(y:PE X a T)(i:attributeBase a "items" X.env (eval a X.env)=eval a X.env)(g:(apos.endLine==cpos.line)=true):
  PI X (.Tuple elts kk tpos) (.Call (.Attribute a "items" apos) [] [] cpos) (fy T):=by
 intro pins s σ H R I h;refine wpAny_Call_method0_late i g (qa (y pins s σ H _ I h) λv s1 ⟨x,H1,n,u,d,us,ex,hd,q⟩=>?_);subst ex;cases u;obtain⟨z,f,vs,rel,dd⟩:=NV n.hok hd;obtain⟨o,l,p,c,hex,t,r⟩:=id dd;refine⟨"dict","dict.items",PySem.F.plainAttrs_dict,PySem.F.slot_dict_items,PySem.F.type_dict_items,dd.typeIs,λb E=>by cases E;exact⟨o,c,hex.2.1⟩,Calls.callWith_builtin rfl (PySem.evalArgs_none ?_)⟩
 refine call_meetsIn PySem.F.slot_dict_items dd.typeIs PySem.F.entry_dict_items (PySem.F.args_dict_items_1 _) (meets_dict_items (kM X.prog X.w) d f) ⟨⟨vs,dd⟩,?_⟩;have B:Inv X pins σ (upd H1 d (.frz o (.dK us))) { s1 with heap:=s1.heap,toks:=s1.toks }:=n.write (x:=d) (e:=d) (o:=.frz o (.dK us)) (t':=s1.toks) (h':=s1.heap) (by rw[hd];exact True.intro) (.inl rfl) (λ_ _ _ q=>q) ⟨o,c⟩ ⟨c,z,f,vs,rel,dd⟩
 have j:Inv X pins σ (upd H1 d (.frz o (.dK us))) { s1 with heap:=s1.heap.push { cls:=.type "dict_items",data:=.fields #[.ref d] } }:=B.kept (t':=s1.toks) λb ob q=>af _ q
 have D:(s1.heap.push { cls:=.type "dict_items",data:=.fields #[.ref d] }).DictAt (kM X.prog X.w) d vs p:=⟨o,l,af _ c,hex,t,r⟩;refine wpAny_pyIter_items (s:={ s1 with heap:=s1.heap.push { cls:=.type "dict_items",data:=.fields #[.ref d] } }) ⟨_,au _ rfl,rfl,rfl⟩ D ?_
 refine⟨_,[_],_,_,_,rfl,j.kept (t':=s1.toks) λb ob q=>af _ q,FY d _ o us p ⟨l,t⟩,⟨.none,.none,?_⟩,λb A=>?_,q o⟩
 ·rw[rel.length];exact au _ rfl
 ·have E:=cy.mp A
  subst E;exact j.fpOk (av _) (j.hok.fresh (av _))
noncomputable def kW:Key->W
 |.inl i=>.int i|.inr x=>.str x
def Wj (kvs:List (Key×W)):jV:=⟨λ_ i=>some (kvs[i]?.map λp=>.tup [kW p.1,p.2]),kvs.length⟩
def K3 (m:Ev):Ei:=λρ A=>match A with
 |[]=>(m ρ []).bind λw A1=>match w,A1 with
  |.ref 0,[.dct kvs]=>if ji (kvs.map (·.2)) then .ok (Wj kvs) [] else .bad|_,_=>.bad
 |_=>.bad
def fA {K:Frag}{d:Addr}{o:Obj}{us:List (Key×V)}{kvs:List (Key×W)}(hd:H d=some (.frz o (.dK us)))(f:us.map (·.1)=kvs.map (·.1))(A:zK K φ H (kvs.map (·.2)) (us.map (·.2)))(n:ji (kvs.map (·.2))=true):
  Qy K φ H (Wj kvs) (TH d o us):=λi a g I lw S=>by
 unfold Wj;dsimp only;have h:=lw.fz d o _ hd;have E:zK K a g (kvs.map (·.2)) (us.map (·.2)):=A.nrm lw.tp lw.fz n;have l:us.length=kvs.length:=by have:=congrArg List.length f;simpa using this
 cases e:kvs[i]? with
 |none=>
  refine⟨λ_ z=>(by cases z),λ_=>⟨h,?_⟩⟩
  rw[List.getElem?_eq_none_iff]at e ⊢;rw[l];exact e
 |some p=>
  have hi:i<kvs.length:=(cq.mp e).1;refine⟨λu z=>?_,λz=>(by cases z)⟩
  cases z;refine⟨⟨h,by rw[l];exact hi⟩,λx H1 ⟨t,q,b,j,ex,y⟩=>?_⟩
  subst ex y;have k1:q.1=p.1:=by
   have a1:(us.map (·.1))[i]? =some q.1:=by simp[b]
   rw[f]at a1;simp[e]at a1;exact a1.symm
  have a2:(kvs.map (·.2))[i]? =some p.2:=by simp[e]
  obtain⟨v,c,w⟩:=E.get a2;have s:v=q.2:=by simp[b]at c;exact c.symm
  subst s;rw[k1];have r:RV K a g (kW p.1) (kV p.1):=by cases p.1<;>rfl
  obtain⟨D,C,B⟩:=Q9 S j (.cons r (.one w));exact⟨D,C,B⟩
end
mutual
noncomputable def W.beq:W->W->Bool
 |.non,.non=>true|.bl a,.bl b=>a==b|.int a,.int b=>decide (a=b)|.str a,.str b=>decide (a=b)|.tup a,.tup b=>Wm a b|_,_=>false
noncomputable def Wm:List W->List W->Bool
 |[],[]=>true|a::as,b::bs=>a.beq b&&Wm as bs|_,_=>false
end
mutual
theorem W.eq_of:∀{a b:W},a.beq b=true->a=b
 |.non,.non,_=>rfl|.bl a,.bl b,h=>by have h':(a==b)=true:=h;rw[aM]at h';rw[h']|.int a,.int b,h=>by have h':decide (a=b)=true:=h;rw[aj]at h';rw[h']|.str a,.str b,h=>by have h':decide (a=b)=true:=h;rw[aj]at h';rw[h']|.tup a,.tup b,h=>by have h':Wm a b=true:=h;rw[NL h']|.non,.bl _,h=>nomatch h|.non,.int _,h=>nomatch h|.non,.str _,h=>nomatch h|.non,.tup _,h=>nomatch h|.non,.ref _,h=>nomatch h
 |.bl _,.non,h=>nomatch h|.bl _,.int _,h=>nomatch h|.bl _,.str _,h=>nomatch h|.bl _,.tup _,h=>nomatch h|.bl _,.ref _,h=>nomatch h
 |.int _,.non,h=>nomatch h|.int _,.bl _,h=>nomatch h|.int _,.str _,h=>nomatch h|.int _,.tup _,h=>nomatch h|.int _,.ref _,h=>nomatch h
 |.str _,.non,h=>nomatch h|.str _,.bl _,h=>nomatch h|.str _,.int _,h=>nomatch h|.str _,.tup _,h=>nomatch h|.str _,.ref _,h=>nomatch h
 |.tup _,.non,h=>nomatch h|.tup _,.bl _,h=>nomatch h|.tup _,.int _,h=>nomatch h|.tup _,.str _,h=>nomatch h|.tup _,.ref _,h=>nomatch h
 |.ref _,.non,h=>nomatch h|.ref _,.bl _,h=>nomatch h|.ref _,.int _,h=>nomatch h|.ref _,.str _,h=>nomatch h|.ref _,.tup _,h=>nomatch h|.ref _,.ref _,h=>nomatch h
theorem NL:∀{a b:List W},Wm a b=true->a=b
 |[],[],_=>rfl|a::as,b::bs,h=>by
  have h':(a.beq b&&Wm as bs)=true:=h;rw[ak]at h';rw[W.eq_of h'.1,NL h'.2]
 |[],_::_,h=>nomatch h
 |_::_,[],h=>nomatch h
end
section
variable {K:Frag}
def FD (K:Frag)(x:Str)(st:Stmt):Prop:=∃f fd,gv K x x st f fd/\nsIn K mainGlobals x=some (some (.ref f))
def zc9 {st:Stmt}{b:Value}{o an:cf}{kV doc pm C ct:Value}(a:nsIn K mainGlobals x=some (some (.ref f)))
  (l:K.lookup f=some ⟨b,o,.func (fnOf x x (QW st) (kZ st) (qp st) .none kV doc pm an C ct),osl⟩)(c:codeIn K C x=true)(k:keepIn K (.ref f)=true):FD K x st:=⟨f,_,ee l c k,a⟩
def CD (K:Frag)(x:Str)(i:Int):Prop:=∃t,nsIn K mainGlobals x=some (some (.int i t))
def zcz {i:Int}{t:Tok}(a:nsIn K mainGlobals x=some (some (.int i t))):CD K x i:=⟨t,a⟩
end
open PySem PySem.Spec PyProof.Rows L2 Mi
@[irreducible] noncomputable def zC (X:Cx)(x:XR)(e:Expr)(m:Ev):Prop:=Mi.SE X x e m
def G2:@zC=@Mi.SE:=by
 funext X xr e m
 unfold zC
 rfl
@[irreducible] noncomputable def gn (X:Cx)(x:XR)(e:bY)(m:Ea):Prop:=Mi.SA X x e m
def UO:@gn=@Mi.SA:=by
 funext X xr es m
 unfold gn
 rfl
@[irreducible] noncomputable def yL (X:Cx)(x:XR)(e:Expr)(m:Ev):Prop:=Mi.ST X x e m
def UG:@yL=@Mi.ST:=by
 funext X xr e m
 unfold yL
 rfl
@[irreducible] noncomputable def gZ (X:Cx)(x:XR)(e:Expr)(m:Ev):Prop:=Mi.SW X x e m
def UL:@gZ=@Mi.SW:=by
 funext X xr e m
 unfold gZ
 rfl
@[irreducible] noncomputable def kH (X:Cx)(x:XR)(st:Stmt)(m:Ex):Prop:=Mi.SS X x st m
def UT:@kH=@Mi.SS:=by
 funext X xr st m
 unfold kH
 rfl
@[irreducible] noncomputable def we (X:Cx)(x:XR)(st:cg)(m:Ex):Prop:=Mi.WD X x st m
def Uh:@we=@Mi.WD:=by
 funext X xr st m
 unfold we
 rfl
@[irreducible] noncomputable def wG (X:Cx)(x:XR)(t e:Expr)(m:Ei):Prop:=Mi.SI X x t e m
def UQ:@wG=@Mi.SI:=by
 funext X xr tg e m
 unfold wG
 rfl
@[irreducible] noncomputable def gw (X:Cx)(t:Expr)(m:Tg):Prop:=Mi.SG X t m
def U0:@gw=@Mi.SG:=by
 funext X tg m
 unfold gw
 rfl
@[irreducible] noncomputable def Qz (X:Cx)(x:XR)(e:Expr)(m:j4):Prop:=Mi.SF X x e m
def UU:@Qz=@Mi.SF:=by
 funext X xr e m
 unfold Qz
 rfl
@[irreducible] noncomputable def wX (X:Cx)(x:XR)(e:Expr)(m:j4):Prop:=Mi.SQ X x e m
def UR:@wX=@Mi.SQ:=by
 funext X xr e m
 unfold wX
 rfl
@[irreducible] noncomputable def Zr (X:Cx)(e:bY)(m:Ev):Prop:=Mi.Wv X e m
def Ux:@Zr=@Mi.Wv:=by
 funext X es m
 unfold Zr
 rfl
@[irreducible] noncomputable def Za (X:Cx)(elt:Expr)(gens:List Comprehension)(sc:Scope)(c:Pos)(d:Nat)(em:Em):Prop:=Mi.SM X elt gens sc c d em
def UI:@Za=@Mi.SM:=by
 funext X elt gens sc cpos d em
 unfold Za
 rfl
section
variable {xr:XR}{K:Frag}{a b c:Expr}{es:bY}{m ma mb mc:Ev}{m1 m2:Ex}{st:Stmt}{rest:cg}
def qe:@zC=@Mi.SE/\@gn=@Mi.SA/\@yL=@Mi.ST/\@gZ=@Mi.SW/\@kH=@Mi.SS/\@we=@Mi.WD/\@wG=@Mi.SI/\@gw=@Mi.SG/\@Qz=@Mi.SF/\@wX=@Mi.SQ/\@Zr=@Mi.Wv/\@Za=@Mi.SM:=⟨G2,UO,UG,UL,UT,Uh,UQ,U0,UU,UR,Ux,UI⟩
def zj {M:Ea}(d:zC X xr e ma)(r:gn X xr es M)(s:starEach (e::es) X.env=(false,eval e X.env)::starEach es X.env:=by rfl):gn X xr (e::es) (zc ma M):=by
 try simp only[qe]at*
 exact PA.imp (jo d r s) λσ H Q ⟨φ,A,ρ,S,re,h⟩=>by
   refine tM.go S re (qf.mp h) λw A1 b H1 v g l j c=>?_;refine XQ.go j (re.mono l) (qK (qf.mp g) (λ_ _ z=>z) λ_ _ z=>z.mono l) λo A2 a n v2 f L i q=>?_;exact f a n _ (l.trans L) i (.cons (c.mono L) q)
def zy:gn X xr [] zl:=by
 try simp only[qe]at*
 exact PA.imp j5 λσ H Q ⟨φ,A,ρ,S,re,h⟩=>h φ H [] .refl S .nil
def jH (H:zC X xr a ma)(h:zC X xr b mb):zC X xr (.BinOp a .Add b pos) (zi qh ma mb):=by
 try simp only[qe]at*
 exact JJ (dz.or (Bv.or (Bi.or d9))) eS BM H h
def JC {q:j4}(H:X.calm=true)(hm:X.mg "all"=none)(a:wX X xr e q)(h:Gl X "all":=by rfl)(he:starEach [e] X.env=(false,eval e X.env)::starEach [] X.env:=by rfl):
  zC X xr (.Call (.Name "all" p) [e] [] pos) (mQ Z2 q):=by
 try simp only[qe]at*
 exact K8 (CN H) eO An hm (by rfl) a h (by decide) (by decide) he (by rfl)
def Qd {rest:bY}(f:zC X xr a ma)(e:zC X xr (.BoolOp .And (b::rest) pos) mb):zC X xr (.BoolOp .And (a::b::rest) pos) (ym ma mb):=by
 try simp only[qe]at*
 exact PE.imp (cT f e) λσ H Q ⟨φ,A,ρ,S,re,h⟩=>by
   refine tM.go S re (qf.mp h) λw A1 d H1 v c l s q=>?_;cases w with
   |bl k=>
    refine⟨k,q,?_⟩;cases k with
    |true=>rw[ah rfl];exact⟨d,A1,ρ,s,re.mono l,qK c (λ_ _ z=>z.mono l) λ_ _ z=>z.mono l⟩|false=>rw[ar aA];exact c d H1 _ l s rfl
   |non=>cases c|int _=>cases c|str _=>cases c|tup _=>cases c|ref _=>cases c|clo _ _ _=>cases c|xc _=>cases c
def yF {i j}:zC X xr (.Constant (.bool i) j pos) (zW (.bl i)):=by
 try simp only[qe]at*
 exact PE.imp cH λσ H Q ⟨φ,A,ρ,S,r,h⟩=>h φ H _ .refl S rfl
def gX {g:W->W->Hx->R W}(h:wR X op g)(c:zC X xr a ma)(H:zC X xr b mb)(e:op≠.In:=by decide)(d:op≠.NotIn:=by decide):zC X xr (.Compare a [op] [b] pos) (zi g ma mb):=by
 try simp only[qe]at*
 exact let ⟨r,a1,a2,A⟩:=h.ex;NK a1 a2 A c H (h.mks b e d)
def NO {o:CmpOp}{g g':W->W->Hx->R W}(h:wR X op g)(h':wR X o g')(e:zC X xr a ma)(d:zC X xr b mb)(H:zC X xr c mc)(hm:lastMarks [op,o] [b,c]=false:=by with_unfolding_all rfl):
  zC X xr (.Compare a [op,o] [b,c] pos) (yZ g g' ma mb mc):=by
 try simp only[qe]at*
 exact let ⟨r,a1,a2,A⟩:=h.ex;let ⟨j,i,f,B⟩:=h'.ex;DM a1 a2 A i f B e d H hm
def qu {k:Nat}{f:Fn}{M:Ea}(F:zP X.prog X.w X.K X.mg X.base k x n f)(r:jQ k X.A)(s:gn X kj (e::es) M)(g:Z3 M n:=by repeat' (first|exact zF|refine zm ?_))(j:Gl X x:=by rfl)
  (c:(x==("__debug__":Str))=false:=by decide)(he:starEach (e::es) X.env=(false,eval e X.env)::starEach es X.env:=by rfl)(l:(backTo pos (starEach es X.env)).any (·.1)=false:=by rfl):
  zC X kj (.Call (.Name x p) (e::es) [] pos) (zJ f M):=by
 try simp only[qe]at*
 obtain⟨B,fd,ps,F,hm,i,o⟩:=F;refine PE.imp (OT F r j hm i o .nil ed s c he l) λσ H Q ⟨φ,A,ρ,S,re,h⟩=>?_;have h':=qf.mp h;refine⟨φ,A,ρ,S,re,?_⟩;cases E:M ρ A with
 |ok ws A1=>
  rw[E]at h';intro b H1 vs L u q;have v:vs.length=n:=by rw[<- q.length];exact g ρ A ws A1 E
  rw[bH];exact⟨v,b,A1,ws,u,q,qK h' (λ_ _ z=>z.mono L) λx A2 z a y d t=>(z a y (L.trans d) t).elim⟩
 |exc x A1=>rw[E]at h';exact h'|bad=>rw[E]at h';exact h'
def fB {g:W->W->Hx->R W}(h:Xq X op g)(c:zC X xr a ma)(H:zC X xr b mb)(hm:behindInMarks op b=false:=by rfl):zC X xr (.Compare a [op] [b] pos) (zi g ma mb):=by
 try simp only[qe]at*
 exact let ⟨r,a1,a2,A⟩:=h.ex;NK a1 a2 A c H hm
def UC:zC X xr (.Dict [] [] pos) Jk:=by
 try simp only[qe]at*
 exact PE.imp C5 λσ H Q ⟨φ,A,ρ,S,re,h⟩ p a=>by
  obtain⟨l,s⟩:=S.alloc (o:=.dct []) a (u:=.dK []) ⟨[],jN,rfl,.nil⟩;exact h _ _ _ l s ⟨p,rfl,by rw[<- S.len];simp⟩
def EI {k:Nat}(x:jQ k X.A)(B:zC X xr a ma)(y:zC X xr b mb)(u:Tu b:=by intro _ _;rfl):zC X xr (.Subscript a b pos) (zi Xl ma mb):=by
 try simp only[qe]at*
 exact PE.imp (en (eg x) B y u) λσ H Q ⟨φ,A,ρ,S,re,h⟩=>by
   refine tM.go S re (qf.mp h) λw A1 f H1 v C l D j=>?_;refine tM.go D (re.mono l) (qK (qf.mp C) (λ_ _ z=>z) λ_ _ z=>z.mono l) λg A2 d I v2 c L s q=>?_;unfold Xl at c;cases w with
   |ref n=>
    cases g with
    |int i=>
     obtain rfl:=q;dsimp only[XG]at c;cases e:A2[n]? with
     |none=>rw[e]at c;exact c.elim|some o=>cases o with
      |dct kvs=>
       rw[e]at c;dsimp only at c;obtain⟨p,us,rfl,f1,g1,g2,g3⟩:=s.dct (j.mono L) e;cases E:yt (.inl i) kvs with
       |none=>rw[E]at c;exact c.elim|some w=>
        rw[E]at c;obtain⟨v,t,r⟩:=(V1 (.inl i) g2 g3).1 w E;refine⟨p,v,rfl,?_,c d I v (l.trans L) s r⟩;rw[<- t];exact Y0.k (k:=.inl i) g1
      |_=>rw[e]at c;exact c.elim
    |_=>exact c.elim
   |_=>exact c.elim
def Gx {i:Int}{t:Tok}(g:Gl X x)(hm:X.mg x=some (.int i t))(hd:(x==("__debug__":Str))=false:=by decide):zC X xr (.Name x pos) (zW (.int i)):=by
 try simp only[qe]at*
 exact PE.imp (cK g hm (v:=.int i) ⟨t,rfl⟩ hd) λσ H Q ⟨φ,A,ρ,S,r,h⟩=>h φ H _ .refl S rfl
def fC {c:Expr}(f:yL X xr c mc)(i:zC X xr a ma)(g:zC X xr b mb):zC X xr (.IfExp c a b pos) (MB mc ma mb):=by
 try simp only[qe]at*
 exact PE.imp (CP f i g) λσ H Q ⟨φ,A,ρ,S,re,h⟩=>by
   refine tT.go S re (qf.mp h) λw A1 d=>?_;cases w with
   |bl k=>
    refine⟨k,rfl,λe H1 l s=>?_⟩;cases k with
    |true=>rw[ah rfl];exact⟨e,A1,ρ,s,re.mono l,qK d (λ_ _ z=>z.mono l) λ_ _ z=>z.mono l⟩|false=>rw[ar aA];exact⟨e,A1,ρ,s,re.mono l,qK d (λ_ _ z=>z.mono l) λ_ _ z=>z.mono l⟩
   |non=>cases d|int _=>cases d|str _=>cases d|tup _=>cases d|ref _=>cases d|clo _ _ _=>cases d|xc _=>cases d
def zu {i j}:zC X xr (.Constant (.int i) j pos) (zW (.int i)):=by
 try simp only[qe]at*
 exact PE.imp cG λσ H Q ⟨φ,A,ρ,S,r,h⟩=>h φ H _ .refl S rfl
def gf (t:Ty){P:Pos}(hm:X.mg "isinstance"=none)(c:X.mg x=none)(f:bootBuiltins x=some (.type t.nm))(i:zC X xr e m)(g:Gl X "isinstance":=by rfl)(d:Gl X x:=by rfl)
  (hn:x ≠ "__name__":=by decide)(hd:(x==("__debug__":Str))=false:=by decide)
  (a:starEach [e,.Name x P] X.env=(false,eval e X.env)::starEach [.Name x P] X.env:=by rfl)(j:(backTo pos (starEach [.Name x P] X.env)).any (·.1)=false:=by rfl):
  zC X xr (.Call (.Name "isinstance" p) [e,.Name x P] [] pos) (yJ t m):=by
 try simp only[qe]at*
 exact PE.imp (Qa Av g hm (by rfl) (jo i (jo (GK d c f (v:=.ty t.nm) rfl hn hd) j5) a) (by decide) (by decide) a j) λσ H Q ⟨φ,A,ρ,S,re,h⟩=>by
   refine tM.go S re (qf.mp h) λw A1 b H1 v a l s q=>?_;cases E:jY w A1 with
   |none=>rw[E]at a;exact a.elim|some t'=>
    rw[E]at a;exact⟨v,t',t,rfl,OB s q E,a b H1 _ l s rfl⟩
def qM (c:zC X xr a ma)(H:zC X xr b mb)(h:Nb b:=by intro _ _;rfl):zC X xr (.Subscript a b pos) (zi zD ma mb):=by
 try simp only[qe]at*
 exact PE.imp (dZ d2 c H h) (zi.read eL eM)
def kL {q:j4}(hm:X.mg "len"=none)(H:wX X xr e q)(h:Gl X "len":=by rfl)(he:starEach [e] X.env=(false,eval e X.env)::starEach [] X.env:=by rfl):
  zC X xr (.Call (.Name "len" p) [e] [] pos) (mQ qZ q):=by
 try simp only[qe]at*
 exact K8 Hi (λ_ _=>jW) Az hm (by rfl) H h (by decide) (by decide) he (by rfl)
def yn {q:j4}(h:Qz X xr e q):zC X xr e (qL q):=by
 try simp only[qe]at*
 exact PE.imp h qL.read
def FK {P pos':Pos}(u:X.calm=true)(hm:X.mg "list"=none)(f:X.mg "range"=none)(x:zC X xr a ma)(t:Gl X "list":=by rfl)(g:Gl X "range":=by rfl)(s:starEach [a] X.env=[(false,eval a X.env)]:=by rfl)
  (d:starEach [.Call (.Name "range" P) [a] [] pos'] X.env=(false,eval (.Call (.Name "range" P) [a] [] pos') X.env)::starEach [] X.env:=by rfl):
  zC X xr (.Call (.Name "list" p) [.Call (.Name "range" P) [a] [] pos'] [] pos) (KR ma):=by
 try simp only[qe]at*
 exact PE.imp (Jx (FQ u) t hm (by rfl) (jo (AW g f (jo x j5 (by rw[s];rfl)) s) j5 d) (by decide) (by decide) d (by rfl)) λσ H Q ⟨φ,A,ρ,S,re,h⟩=>by
   refine tM.go S re (qf.mp h) λw A1 b H1 v c L C q=>?_;cases w with
   |int j=>
    obtain rfl:=q;dsimp only at c
    by_cases e:(jP j&&decide (j.toNat<=zY))=true
    ·rw[ah e]at c
     rw[ak,aj]at e;refine⟨j,rfl,λp n=>⟨p,j,rfl,jN,QM e.1,Z9 e.2,λl o=>?_⟩⟩;have ln:Le X.K b H1 b (upd H1 p (.rng 0 j)):=Le.new n;have r:zK X.K b (upd H1 p (.rng 0 j)) ((List.range j.toNat).map λ(i:Nat)=>W.int i) (J3 j.toNat):=by
      have:=(zK.ints (K:=X.K) (φ:=b) (H:=upd H1 p (.rng 0 j)) (ns:=(List.range j.toNat).map λ(i:Nat)=>(i:Int)) (vs:=J3 j.toNat)).mpr (by unfold J3;simp)
      rw[aP]at this;exact this
     obtain⟨z,y,B⟩:=JG (C.lay n) o r;exact c _ _ _ ((L.trans ln).trans z) y B
    ·rw[ar e]at c;exact c.elim
   |_=>exact c.elim
def ja {M:Ea}(h:gn X xr es M)(H:Z3 M n)(hn:n<=zY:=by decide):zC X xr (.List es pos) (zZ M):=by
 try simp only[qe]at*
 exact eE h λρ A ws a e=>by rw[H ρ A ws a e];exact Z9 hn
def QR {q:j4}(H:X.calm=true)(hm:X.mg "max"=none)(a:wX X xr e q)(h:Gl X "max":=by rfl)(he:starEach [e] X.env=(false,eval e X.env)::starEach [] X.env:=by rfl):
  zC X xr (.Call (.Name "max" p) [e] [] pos) (mQ yj q):=by
 try simp only[qe]at*
 exact K8 (EK H) e8 AK hm (by rfl) a h (by decide) (by decide) he (by rfl)
def ON (e:X.calm=true)(hm:X.mg "min"=none)(o:zC X xr a ma)(n:zC X xr b mb)(l:Gl X "min":=by rfl)(s:starEach [a,b] X.env=(false,eval a X.env)::starEach [b] X.env:=by rfl)(r:starEach [b] X.env=(false,eval b X.env)::starEach [] X.env:=by rfl)(h:(backTo pos (starEach [b] X.env)).any (·.1)=false:=by rfl):
  zC X xr (.Call (.Name "min" p) [a,b] [] pos) (zi Xc ma mb):=by
 try simp only[qe]at*
 exact U5 (Et e) Ja (λφ A H x y u v Q S d c p=>by
   obtain⟨i,j,t,E,q⟩:=Q7 (K:=X.K) (f:=λi j=>.int (if j<i then j else i)) (g:=λi j=>.int (if j<i then j else i)) (λ_ _ _ _=>rfl) φ A H x y u v Q S d c p;subst t;subst E;exact⟨i,j,rfl,q⟩) hm (by rfl) o n l (by decide) (by decide) s r h
def JA (H:zC X xr a ma)(h:zC X xr b mb):zC X xr (.BinOp a .Mod b pos) (zi gD ma mb):=by
 try simp only[qe]at*
 exact JJ dC Tn (UZ Bw λ_ _ _ _=>rfl) H h
def kK (H:zC X xr a ma)(h:zC X xr b mb):zC X xr (.BinOp a .Mult b pos) (zi qT ma mb):=by
 try simp only[qe]at*
 exact JJ (dB.or eb) eT Bt H h
def QT (h:zC X xr a ma):zC X xr (.UnaryOp .USub a pos) (jf yr ma):=by
 try simp only[qe]at*
 exact eD dG (λx A=>by unfold yr;split;exact jW;exact jd) (λφ A H x u Q S q p=>by
  cases u with
  |int i=>obtain rfl:=q;exact⟨i,rfl,p φ H _ .refl S rfl⟩|_=>exact p.elim) h
def wu {j}:zC X xr (.Constant .none j pos) (zW .non):=by
 try simp only[qe]at*
 exact PE.imp cI λσ H Q ⟨φ,A,ρ,S,r,h⟩=>h φ H _ .refl S rfl
def OY (d:zC X xr a ma):zC X xr (.UnaryOp .Not a pos) (yf ma):=by
 try simp only[qe]at*
 exact PE.imp (cU d) λσ H Q ⟨φ,A,ρ,S,re,h⟩=>by
   refine tM.go S re (qf.mp h) λw A1 c H1 v b l s q=>?_;cases w with
   |bl k=>exact⟨k,q,b c H1 _ l s rfl⟩|non=>cases b|int _=>cases b|str _=>cases b|tup _=>cases b|ref _=>cases b|clo _ _ _=>cases b|xc _=>cases b
def QV {op}(h:zC X xr a ma):zC X xr (.BoolOp op [a] pos) ma:=by
 try simp only[qe]at*
 exact cS h
def FI {apos:Pos}(ho:zC X xr a ma)(he:zC X xr b mb)(hf:zC X xr c mc)(q:starEach [b,c] X.env=(false,eval b X.env)::starEach [c] X.env:=by rfl)(P:starEach [c] X.env=(false,eval c X.env)::starEach [] X.env:=by rfl)
  (j:attributeBase a "setdefault" X.env (eval a X.env)=eval a X.env:=by rfl)
  (s:((backTo cpos (starEach [b,c] X.env)).all (λx=>!x.1)&&(backToKw cpos (keywordEach [] X.env)).all (λx=>x.1.isSome)
   && decide ([b,c].length+([]:cc).length+(if ([]:cc).isEmpty then 0 else 1)<30))=true:=by rfl)(g:(apos.endLine==cpos.line)=true:=by rfl)(N:(backTo cpos (starEach [c] X.env)).any (·.1)=false:=by rfl):
  zC X xr (.Call (.Attribute a "setdefault" apos) [b,c] [] cpos) (YL Qe ma mb mc):=by
 try simp only[qe]at*
 exact PE.imp (NW PySem.F.plainAttrs_dict PySem.F.slot_dict_setdefault PySem.F.type_dict_setdefault Dp ho (jo he (jo hf j5 P) q) j s g q N) λσ H Q ⟨φ,A,ρ,S,re,h⟩=>by
   refine tM.go S re (qf.mp h) λw A1 φ1 H1 v q I S1 q1=>?_
   by_cases hd:X3 w A1=true
   ·rw[ah hd]at q
    refine⟨CO S1 q1 hd,?_⟩;refine tM.go S1 (re.mono I) (qK (qf.mp q) (λ_ _ z=>z) λ_ _ z=>z.mono I) λy A2 φ2 H2 v2 P l2 S2 q2=>?_;have l:=I.trans l2;refine tM.go S2 (re.mono l) (qK (qf.mp P) (λ_ _ z=>z) λ_ _ z=>z.mono l) λw3 A3 f U r d l3 T q3=>?_;have L:=l.trans l3;unfold Qe at d;cases w with
    |ref n=>cases y with
     |int i=>
      obtain rfl:=q2;dsimp only[XG]at d;cases t:A3[n]? with
      |none=>rw[t]at d;exact d.elim|some o=>cases o with
       |dct kvs=>
        rw[t]at d;dsimp only at d;obtain⟨p,us,rfl,f1,g1,g2,g3⟩:=T.dct ((q1.mono l2).mono l3) t;have hlen:us.length=kvs.length:=by have:=congrArg List.length g2;simpa using this
        by_cases J:kvs.length<zY
        ·rw[ah J]at d
         have D:=V1 (.inl i) g2 g3;refine⟨p,us,.inl i,r,rfl,rfl,g1,?_,λv' M=>?_,λhn=>?_⟩
         ·rw[hlen]
          have:sizeLine=16777216:=sizeLine_eq
          unfold zY at J;omega
         ·cases E:yt (.inl i) kvs with
          |none=>rw[D.2 E]at M;cases M|some B=>
           rw[E]at d;obtain⟨C,e,Z⟩:=D.1 B E;rw[M]at e;cases e;exact d f U _ L T Z
         ·cases E:yt (.inl i) kvs with
          |some B=>obtain⟨C,e,Z⟩:=D.1 B E;rw[hn]at e;cases e|none=>
           rw[E]at d;dsimp only at d;rw[DW r hn];have ln:Le X.K f U f (upd U p (.dK (us++[(.inl i,r)]))):=Le.upd f1 (λxs z=>by rw[g1]at z;cases z) (λ_ _ z=>by rw[g1]at z;cases z)
           obtain⟨Y,y⟩:=T.write (o:=.dct kvs) (o':=.dct (kvs++[(.inl i,w3)])) t rfl rfl f1 (u:=.dK (us++[(.inl i,r)])) ⟨us++[(.inl i,r)],jN,by simp[g2],by
            rw[aO,aO];exact(g3.mono ln).append (.one (q3.mono ln))⟩
           exact d _ _ _ (L.trans Y) y (q3.mono Y)
        ·rw[ar J]at d;exact d.elim
       |_=>rw[t]at d;exact d.elim
     |_=>exact d.elim
    |_=>exact d.elim
   ·rw[ar hd]at q;exact q.elim
def Qf (H:zC X xr a ma)(h:zC X xr b mb):zC X xr (.BinOp a .Sub b pos) (zi yT ma mb):=by
 try simp only[qe]at*
 exact JJ dA Ja (Q7 λ_ _ _ _=>rfl) H h
def Um {q:j4}(H:X.calm=true)(hm:X.mg "sum"=none)(a:wX X xr e q)(h:Gl X "sum":=by rfl)(he:starEach [e] X.env=(false,eval e X.env)::starEach [] X.env:=by rfl):
  zC X xr (.Call (.Name "sum" p) [e] [] pos) (mQ gG q):=by
 try simp only[qe]at*
 exact K8 (EM H) fb fc hm (by rfl) a h (by decide) (by decide) he (by rfl)
def z0 {x1}{M:Ea}(h:gn X xr es M)(d:Z3 M n)(hn:n<=zY:=by decide):zC X xr (.Tuple es x1 pos) (zB M):=by
 try simp only[qe]at*
 exact PE.imp (ND h) λσ H Q ⟨φ,A,ρ,S,re,h⟩=>by
   have h':=qf.mp h;cases e:M ρ A with
   |ok ws a=>
    rw[e]at h';refine⟨φ,A,ρ,S,re,?_⟩;rw[e];intro b H1 vs l s q;refine⟨by rw[<- q.length,d ρ A ws a e];exact Z9 hn,λp c=>?_⟩
    obtain⟨a1,a2,f⟩:=Q9 s c q;exact h' _ _ _ (l.trans a1) a2 f
   |exc x a=>rw[e]at h';refine⟨φ,A,ρ,S,re,?_⟩;rw[e];exact h'|bad=>rw[e]at h';exact h'.elim
def w6 {q:j4}(hm:X.mg "tuple"=none)(H:wX X xr e q)(h:Gl X "tuple":=by rfl)(he:starEach [e] X.env=(false,eval e X.env)::starEach [] X.env:=by rfl):
  zC X xr (.Call (.Name "tuple" p) [e] [] pos) (mQ jU q):=by
 try simp only[qe]at*
 exact eN Ik (λ_ _=>jW) AA hm (by rfl) H h (by decide) (by decide) he (by rfl)
def zh (i:Nat)(b:X.N[i]? =some x:=by rfl)(a:XI X.env.scope x:=by first|exact Or.inl rfl|exact Or.inr (Or.inl rfl)|exact Or.inr (Or.inr rfl))(hd:(x==("__debug__":Str))=false:=by decide)
  (d:(x==("__classdict__":Str))=false:=by decide):zC X xr (.Name x pos) (qd i):=by
 try simp only[qe]at*
 exact PE.imp (cF b a hd d) λσ H Q ⟨φ,A,ρ,S,r,h⟩=>by
  unfold qd at h;cases e:ρ[i]? with
  |none=>rw[e]at h;cases h|some o=>cases o with
   |none=>rw[e]at h;cases h|some w=>
    rw[e]at h;obtain⟨v,f,c⟩:=r.get i w e;exact⟨v,f,h φ H v .refl S c⟩
def CU {iter:Expr}{mi:Ei}{tw:Tg}{M:Ev}{em:Em}(nl:Nat)(cap:bU)(c:X.calm=true)(S:ZL X sc)(p:Jc X.N N sc nl cap=true)(hw:wG X xr tg iter mi)
  (n:∀s H fp,gw (yg X N sc s H fp kf) tg tw/\Zr (yg X N sc s H fp kf) ifs M/\Za (yg X N sc s H fp kf) elt (⟨tg,iter,ifs,0⟩::gs) sc pos 0 em)
  (b:∀g',gs[0]? =some g'->g'.is_async=0:=by intro _ h;cases h<;>rfl)
  (a:∀x,foldedSetIterable iter X.env x=pure x:=by intro _;rfl):Qz X xr (.ListComp elt (⟨tg,iter,ifs,0⟩::gs) sc pos) (zR nl cap mi tw M em):=by
 try simp only[qe]at*
 exact PE.imp (B7 (g:=tG X.K tw) (ti:=tT X.K kj M) (tm:=tE X.K em) c S p b hw n a) zR.read
def wL (i j:Nat){y:Str}{q:Pos}{k:Nat}(n:X.calm=true)(h:X.N.Nodup)(hi:X.N[i]? =some x:=by rfl)(f:Loc X.env.scope x:=by first|exact Or.inl rfl|exact Or.inr rfl)(hf:X.fn x=true∨X.env.scope.names.lookup x=some .local:=by first|exact .inl rfl|exact .inr rfl)
  (g:X.N[j]? =some y:=by rfl)(d:Loc X.env.scope y:=by first|exact Or.inl rfl|exact Or.inr rfl)(l:X.fn y=true∨X.env.scope.names.lookup y=some .local:=by first|exact .inl rfl|exact .inr rfl):gw X (.Tuple [.Name x p,.Name y q] k pos) (jx i j):=by
 try simp only[qe]at*
 exact PG.imp (US n (Yr (Yz h hi f hf) (Yr (Yz h g d l) Uz))) λv σ H Q ⟨φ,A,ρ,w,b,S,re,c,e,kk⟩=>by
   unfold jx at e
   split at e
   ·rename_i x1 Y
    have E:=aD e;subst E;obtain⟨a,vs,rfl,s,rs⟩:=c;obtain⟨v1,u,rfl,r,v2,t,rfl,o,rfl⟩:=rs;exact⟨a,[v1,v2],rfl,s,rfl,v1,[v2],rfl,v2,[],rfl,rfl,kk _ ((re.set r).set o)⟩
   ·cases e
def Dr (i j k:Nat){y z:Str}{q r pp:Pos}{s:Nat}(f:X.calm=true)(c:X.N.Nodup)(hi:X.N[i]? =some x:=by rfl)(B:Loc X.env.scope x:=by first|exact Or.inl rfl|exact Or.inr rfl)(hf:X.fn x=true∨X.env.scope.names.lookup x=some .local:=by first|exact .inl rfl|exact .inr rfl)
  (E:X.N[j]? =some y:=by rfl)(u:Loc X.env.scope y:=by first|exact Or.inl rfl|exact Or.inr rfl)(J:X.fn y=true∨X.env.scope.names.lookup y=some .local:=by first|exact .inl rfl|exact .inr rfl)
  (D:X.N[k]? =some z:=by rfl)(t:Loc X.env.scope z:=by first|exact Or.inl rfl|exact Or.inr rfl)(I:X.fn z=true∨X.env.scope.names.lookup z=some .local:=by first|exact .inl rfl|exact .inr rfl):
  gw X (.Tuple [.Name x p,.Tuple [.Name y q,.Name z r] s pp] n pos) (GZ i j k):=by
 try simp only[qe]at*
 exact PG.imp (US f (Yr (Yz c hi B hf) (Yr (US f (Yr (Yz c E u J) (Yr (Yz c D t I) Uz))) Uz))) λv σ H Q ⟨φ,A,ρ,w,g,S,re,o,e,kk⟩=>by
   unfold GZ at e
   split at e
   ·rename_i x1 Y Z
    have T:=aD e;subst T;obtain⟨a,vs,rfl,C,rs⟩:=o;obtain⟨v1,r1,rfl,P,v2,r2,rfl,M,rfl⟩:=rs;obtain⟨a2,l,rfl,h,b⟩:=M;obtain⟨d,r3,rfl,L,v4,U,rfl,K,rfl⟩:=b;exact⟨a,[v1,.ref a2],rfl,C,rfl,v1,[.ref a2],rfl,.ref a2,[],rfl,a2,[d,v4],rfl,h,rfl,d,[v4],rfl,v4,[],rfl,rfl,rfl,kk _ (((re.set P).set L).set K)⟩
   ·cases e
def qm (i:Nat)(b:X.N.Nodup)(hi:X.N[i]? =some x:=by rfl)(h:Loc X.env.scope x:=by first|exact Or.inl rfl|exact Or.inr rfl)(hf:X.fn x=true∨X.env.scope.names.lookup x=some .local:=by first|exact .inl rfl|exact .inr rfl):gw X (.Name x pos) (zG i):=by
 try simp only[qe]at*
 exact PG.imp (Yz b hi h hf) λv σ H Q ⟨φ,A,ρ,w,a,S,re,q,e,k⟩=>by
   have E:ρ.set i (some w)=a:=aD e;subst E;exact k _ (re.set q)
def jK (h:zC X xr e m):wG X xr tg e (qj m):=by
 try simp only[qe]at*
 exact PI.imp (eG h) λσ H Rr ⟨φ,A,ρ,S,re,h⟩=>by
  refine tM.go S re (qf.mp h) λw A1 g H1 v d P N Q=>?_;unfold Xx at d;cases e:qb w A1 with
  |none=>rw[e]at d;exact d.elim|some ws=>
   rw[e]at d;dsimp only at d;cases w with
   |tup us=>
    obtain⟨a,ys,rfl,j,q⟩:=Q;refine⟨a,rfl,.inr ⟨⟨ys,j⟩,d g H1 _ P N λi c l f lw s=>⟨λB b=>?_,λb=>?_⟩⟩⟩
    ·have E:us[i]? =some B:=aD b
     obtain⟨y,p,D⟩:=(q.monoW lw).get E;refine⟨⟨ys,y,lw.tp _ _ j,p⟩,λx Z u=>?_⟩;obtain⟨M,L⟩:=u;subst M;have e7:=L ys (lw.tp _ _ j);rw[p]at e7;cases e7;exact⟨.refl,s,D⟩
    ·have E:us[i]? =none:=aD b
     refine⟨ys,lw.tp _ _ j,?_⟩;rw[<- q.length];exact List.getElem?_eq_none_iff.mp E
   |ref n=>
    obtain⟨a,rfl,j⟩:=Q;have read:∀{c l f us},QF X.K g H1 c l->zT X.K c f l->qb (.ref n) f=some us->∃ys,jy X.K l a ys/\zK X.K c l us ys:=λ {c l f us} lw s es=>by
     obtain⟨U,ys,T,z,r⟩:=Gg (w:=.ref n) (v:=.ref a) s ⟨a,rfl,lw.ex _ _ j⟩ es;cases T;unfold qb at es;dsimp only at es;cases J:f[n]? with
     |none=>rw[J]at es;cases es|some o=>
      rw[J]at es;obtain⟨U,q,r⟩:=s.ob n o J;rw[lw.ex _ _ j]at q;cases q;cases o with
      |lst xs=>cases es;obtain⟨ys,d,I⟩:=r;exact⟨ys,jy.of d,I⟩|ro xs=>cases es;obtain⟨ys,d,I⟩:=r;exact⟨ys,d.sq,I⟩|dct xs=>cases es|tab _ _=>cases es
    obtain⟨Y,C,_⟩:=read ⟨λ_ _ h=>h,λ_ _ h=>h,λ_ _ _ h=>h⟩ N e;refine⟨a,rfl,.inl ⟨⟨Y,C⟩,d g H1 _ P N λi c l f lw s=>⟨λB b=>?_,λb=>?_⟩⟩⟩
    ·dsimp only at b
     cases es:qb (.ref n) f with
     |none=>rw[es]at b;cases b|some us=>
      rw[es]at b;have E:us[i]? =some B:=aD b;obtain⟨ys,t,r⟩:=read lw s es;obtain⟨y,p,D⟩:=r.get E;refine⟨⟨ys,y,t,p⟩,λx Z u=>?_⟩;obtain⟨M,L⟩:=u;subst M;have e7:=L ys t;rw[p]at e7;cases e7;exact⟨.refl,s,D⟩
    ·dsimp only at b
     cases es:qb (.ref n) f with
     |none=>rw[es]at b;cases b|some us=>
      rw[es]at b;have E:us[i]? =none:=aD b;obtain⟨ys,t,r⟩:=read lw s es;refine⟨ys,t,?_⟩;rw[<- r.length];exact List.getElem?_eq_none_iff.mp E
   |non=>cases e|bl _=>cases e|clo _ _ _=>cases e|xc _=>cases e|int _=>cases e|str _=>cases e
def Yn (g:Gl X "enumerate")(hm:X.mg "enumerate"=none)(e:zC X xr a ma)(s:starEach [a] X.env=[(false,eval a X.env)]:=by rfl):wG X xr (.Tuple elts kk tpos) (.Call (.Name "enumerate" p) [a] [] pos) (wB ma):=by
 try simp only[qe]at*
 exact PI.imp (Bs g hm (jo e j5 (by rw[s];rfl)) s) λσ H r ⟨φ,A,ρ,S,re,h⟩=>by
   refine tM.go S re (qf.mp h) λw A1 c H1 v b l d q=>?_;cases es:qb w A1 with
   |none=>rw[es]at b;exact b.elim|some ws=>
    rw[es]at b;obtain⟨p,ys,rfl,z,Z⟩:=GI d q es;exact⟨p,Jb w,ys,rfl,z,b c H1 _ l d (fm q)⟩
def Ew {apos:Pos}(r:zC X xr a ma)(d:attributeBase a "items" X.env (eval a X.env)=eval a X.env:=by rfl)(e:(apos.endLine==cpos.line)=true:=by rfl):
  wG X xr (.Tuple elts kk tpos) (.Call (.Attribute a "items" apos) [] [] cpos) (K3 ma):=by
 try simp only[qe]at*
 exact PI.imp (CM r d e) λσ H x ⟨φ,A,ρ,S,re,h⟩=>by
   unfold K3 at h;cases A with
   |cons o A=>exact h.elim|nil=>
    dsimp only at h;have i:φ=[]:=by have:=S.len;simpa using this
    subst i;refine tM.go S re (qf.mp h) λw A1 j H1 v f l s q=>?_
    split at f
    ·rename_i kvs
     by_cases hn:ji (kvs.map (·.2))=true
     ·rw[ah hn]at f
      obtain⟨p,us,rfl,f1,g1,g2,g3⟩:=s.dct q (kvs:=kvs) rfl;have h0:H p=none:=by
       rcases l.nw 0 p f1 with z|z
       ·simp at z
       ·exact z
      refine⟨p,us,rfl,g1,λo=>?_⟩;have tp:∀c vs,qS X.K H1 c vs->qS X.K (upd H1 p (.frz o (.dK us))) c vs:=λc vs t=>GV t (λxs z=>by rw[g1]at z;cases z) (λ_ _ z=>by rw[g1]at z;cases z)
      have le:Le X.K [] H [] (upd H1 p (.frz o (.dK us))):=by
       refine⟨λn c z=>z,λc vs t=>tp c vs (l.tp c vs t),λc u b nn=>?_,λn c z=>.inl z,λc z=>?_,λc u U b=>?_⟩
       ·rw[qv (kX b h0)];exact l.fr c u b nn
       ·by_cases g:c=p
        ·rw[g];exact h0
        ·rw[qv g]at z;exact l.st c z
       ·rw[qv (kX b h0)];exact l.fz c u U b
      exact f [] _ _ le zT.none (fA (o:=o) jN g2 (g3.nrm tp (λc u U b=>by rw[qv (YT b g1 (by intro z;cases z))];exact b) hn) hn)
     ·rw[ar hn]at f;exact f.elim
    ·exact f.elim
def jG (g:Gl X "range")(hm:X.mg "range"=none)(e:zC X xr a ma)(s:starEach [a] X.env=[(false,eval a X.env)]:=by rfl):wG X xr tg (.Call (.Name "range" p) [a] [] pos) (qR ma):=by
 try simp only[qe]at*
 exact PI.imp (ER g hm (jo e j5 (by rw[s];rfl)) s) λσ H r ⟨φ,A,ρ,S,re,h⟩=>by
   refine tM.go S re (qf.mp h) λw A1 c H1 v b l i q=>?_;cases w with
   |int j=>
    obtain rfl:=q;dsimp only at b
    by_cases d:jP j=true
    ·rw[ah d]at b
     obtain⟨f,B⟩:=QM d;exact⟨j,rfl,f,B,b c H1 _ l i Nu⟩
    ·rw[ar d]at b;exact b.elim
   |non=>exact b.elim|bl _=>exact b.elim|str _=>exact b.elim|tup _=>exact b.elim|ref _=>exact b.elim|clo _ _ _=>exact b.elim|xc _=>exact b.elim
def Ua (o:Gl X "range")(hm:X.mg "range"=none)(t:zC X xr a ma)(r:zC X xr b mb)(s:starEach [a,b] X.env=[(false,eval a X.env),(false,eval b X.env)]:=by rfl)(d:starEach [b] X.env=[(false,eval b X.env)]:=by rfl):wG X xr tg (.Call (.Name "range" p) [a,b] [] pos) (Qo ma mb):=by
 try simp only[qe]at*
 exact PI.imp (E9 o hm (jo t (jo r j5 (by rw[d];rfl)) (by rw[s,d])) s d) λσ H J ⟨φ,A,ρ,S,re,h⟩=>by
   refine tM.go S re (qf.mp h) λw A1 g H1 v u l E Q=>?_;refine tM.go E (re.mono l) (qK (qf.mp u) (λ_ _ z=>z) λ_ _ z=>z.mono l) λn A2 f I v2 c L D q=>?_;cases w with
   |int i=>
    obtain rfl:=Q;cases n with
    |int j=>
     obtain rfl:=q;dsimp only at c
     by_cases e:(jP i&&jP j)=true
     ·rw[ah e]at c
      rw[ak]at e;obtain⟨C,y⟩:=QM e.1;obtain⟨x,B⟩:=QM e.2;exact⟨i,j,rfl,⟨C,y,x,B⟩,c f I _ (l.trans L) D Nu⟩
     ·rw[ar e]at c;exact c.elim
    |non=>exact c.elim|bl _=>exact c.elim|str _=>exact c.elim|tup _=>exact c.elim|ref _=>exact c.elim|clo _ _ _=>exact c.elim|xc _=>exact c.elim
   |non=>exact c.elim|bl _=>exact c.elim|str _=>exact c.elim|tup _=>exact c.elim|ref _=>exact c.elim|clo _ _ _=>exact c.elim|xc _=>exact c.elim
def KY (r:Gl X "zip")(hm:X.mg "zip"=none)(u:zC X xr a ma)(t:zC X xr b mb)(g:starEach [a,b] X.env=(false,eval a X.env)::starEach [b] X.env:=by rfl)(e:starEach [b] X.env=(false,eval b X.env)::starEach [] X.env:=by rfl)(o:(backTo pos (starEach [b] X.env)).any (·.1)=false:=by rfl):
  wG X xr (.Tuple elts kk tpos) (.Call (.Name "zip" p) [a,b] [] pos) (wW ma mb):=by
 try simp only[qe]at*
 exact PI.imp (ft r hm (jo u (jo t j5 e) g) g o) λσ H E ⟨φ,A,ρ,S,re,h⟩=>by
   refine tM.go S re (qf.mp h) λw A1 i H1 v x l y n=>?_;refine tM.go y (re.mono l) (qK (qf.mp x) (λ_ _ z=>z) λ_ _ z=>z.mono l) λf A2 d B v2 c L s Q=>?_;cases es:qb w A2 with
   |none=>rw[es]at c;exact c.elim|some us=>
    cases es':qb f A2 with
    |none=>rw[es,es']at c;exact c.elim|some vs=>
     rw[es,es']at c;have q:=n.mono L;obtain⟨p,xs,rfl,j,D⟩:=GI s q es;obtain⟨P,ys,rfl,Z,C⟩:=GI s Q es';exact⟨p,P,Jb w,Jb f,xs,ys,rfl,j,Z,c d B _ (l.trans L) s (fv q Q)⟩
def BJ {d:Nat}{me:Ev}(x:∀e s,X.xe e s->False)(he:zC X kj elt me)(o:gens[d+1]? =none):Za X elt gens sc pos d (zN me):=by
 try simp only[qe]at*
 exact gu.imp (D7 x he o) λD σ H Q ⟨φ,A,ρ,acc,ys,S,re,p,n,r,h⟩=>by
   refine tM.go S re (Ud (qf.mp h)) λw A1 g H1 v f l t q=>?_;obtain⟨c,n1⟩:=l.off p n
   by_cases z:acc.length<zY
   ·rw[ah z]at f
    have j:=r.length;refine⟨ys,c,?_,?_⟩
    ·rw[<- j]
     have:sizeLine=16777216:=sizeLine_eq
     unfold zY at z;omega
    ·exact f g _ σ _ (l.toD.trans (km.upd c)) n1 (t.off c n1) ⟨re.len,λi w e=>let ⟨v,a,b⟩:=re.get i w e;⟨v,a,(b.mono l).monoD (km.upd c)⟩⟩ jN
      (((r.mono l).monoD (km.upd c)).append (.one (q.monoD (km.upd c))))
   ·rw[ar z]at f;exact f.elim
def Ur {iter:Expr}{d:Nat}{mi:Ei}{tw:Tg}{M:Ev}{em:Em}(o:∀e s,X.xe e s->False)(v:X.calm=true)(u:gens[d+1]? =some ⟨tg,iter,ifs,0⟩)(w:∀g',gens[d+2]? =some g'->g'.is_async=0)
  (hw:wG X kj tg iter mi)(t:gw X tg tw)(hi:Zr X ifs M)(hm:Za X elt gens sc pos (d+1) em)(q:∀x,foldedSetIterable iter X.env x=pure x:=by intro _;rfl):Za X elt gens sc pos d (Zn mi tw M em):=by
 try simp only[qe]at*
 exact gu.imp (Cc o v u w hw t hi hm q) λD σ H Q ⟨φ,A,ρ,acc,ys,S,re,y,n,f,h⟩=>by
   refine⟨φ,A,ρ,S,re,qK (Ud (qf.mp h)) (λj A1 C c H1 J l P i=>?_) λ_ _ z=>z⟩;obtain⟨I,n1⟩:=l.off y n;exact jB.read i P (re.mono l) I n1 (f.mono l) (qK C (λp A2 B a T b zs L N K r E g=>B a T b zs (l.toD.trans L) N K r E g) λ_ _ z=>z)
def yb (h:zC X xr e m):wX X xr e (qw m):=by
 try simp only[qe]at*
 exact PE.imp h λσ H Q ⟨φ,A,ρ,S,re,h⟩=>by
  refine tM.go S re (qf.mp h) λw A1 c H1 v b l s q=>?_;cases e:qb w A1 with
  |none=>rw[e]at b;exact b.elim|some ws=>
   rw[e]at b;obtain⟨a,ys,rfl,d,E⟩:=Gg s q e;exact b c H1 a ys l s d E
def j0 {q:j4}(h:Qz X xr e q):wX X xr e q:=by
 try simp only[qe]at*
 exact PE.imp h λσ H Q ⟨φ,A,ρ,S,re,h⟩=>
  ⟨φ,A,ρ,S,re,qK h (λws A1 c a H1 D ys l s h0 b n r=>c a H1 D ys l s (.inl (jy.of b)) r) λ_ _ z=>z⟩
def Oi {o i:Expr}{mo mi:Ev}(ho:zC X xr o mo)(hi:zC X xr i mi)(he:zC X xr e m)
  (ha:∀c I new,augStore i c I new=(do holding [new,c,I] (setItem c I new);release [new,c,I] [];pure .next):=by intros;rfl):kH X xr (.AugAssign (.Subscript o i tpos) .Add e pos) (JO mo mi m):=by
 try simp only[qe]at*
 exact PS.imp (dj ho hi CL he dm set_list ha) λD σ H ⟨φ,A,ρ,S,re,h⟩=>by
   refine tM.go S re (qf.mp h) λU A1 N H1 v1 h1 q S1 Q=>?_;refine tM.go S1 (re.mono q) (qK (qf.mp h1) (λ_ _ z=>z) λ_ _ z=>z.mono q) λw A2 M H2 v2 a j B q2=>?_;have l:=q.trans j;cases U with
   |ref n=>cases w with
    |int k=>
     obtain rfl:=q2;dsimp only at a
     by_cases h0:0<=k
     ·rw[ah h0]at a
      cases d:(A2[n]?:Option O) with
      |none=>rw[d]at a;exact a.elim|some ob=>cases ob with
       |lst ws=>
        rw[d]at a;dsimp only at a;obtain⟨p,vs,rfl,f1,g1,Z⟩:=B.lst (Q.mono j) d;cases E:ws[k.toNat]? with
        |none=>rw[E]at a;exact a.elim|some P=>cases P with
         |int x=>
          rw[E]at a;dsimp only at a;obtain⟨v,hv,Y⟩:=Z.get E;obtain rfl:=Y;refine⟨p,vs,k,_,rfl,rfl,h0,g1,hv,?_⟩;refine tM.go B (re.mono l) (qK (qf.mp a) (λ_ _ z=>z) λ_ _ z=>z.mono l) λT J g H3 v3 b t S3 q3=>?_;have L:=l.trans t;cases T with
          |int y=>
           obtain rfl:=q3;dsimp only at b;refine⟨x,y,rfl,rfl,?_⟩;refine Na (K:=X.K) g J H3 (.ref p) (.int k) (.int (x+y)) (.ref n) (.int k) (.int (x+y)) _ S3 ((Q.mono j).mono t) rfl rfl ?_;cases r:gF (.ref n) (.int k) (.int (x+y)) J with
           |ok u C=>
            rw[r]at b;exactλf H4 s S4=>b f H4 σ (L.trans s) S4 (re.mono (L.trans s))
           |exc z C=>exact absurd r (Nk _ _ _ _ z C)|bad=>rw[r]at b;exact b.elim
          |_=>exact b.elim
         |_=>rw[E]at a;exact a.elim
       |_=>rw[d]at a;exact a.elim
     ·rw[ar h0]at a;exact a.elim
    |_=>exact a.elim
   |_=>cases w<;>exact a.elim
def zx (a:kH X xr st m1)(d:we X xr rest m2):we X xr (st::rest) (zp m1 m2):=by
 try simp only[qe]at*
 exact yU.imp (Cj a d) λD σ H ⟨φ,A,ρ,S,re,h⟩=>by
   refine⟨φ,A,ρ,S,re,qK (qf.mp h) (λf A1 a=>?_) λ_ _ z=>z⟩;cases f with
   |nx ρ1=>exactλb e c l s r=>⟨b,A1,ρ1,s,r,qK a (λ_ _ z=>z.mono l) λ_ _ z=>z.mono l⟩|rt w=>exact a|bk ρ1=>exact a|ct ρ1=>exact a
def Zh (he:zC X xr e m)(s:swapsWith e none pos.line X.env=pure false:=by rfl):kH X xr (.Expr e pos) (yK m):=by
 try simp only[qe]at*
 exact PS.imp (c4 he s) λD σ H ⟨φ,A,ρ,S,re,h⟩=>tM.go S re (qf.mp h) λw A1 a H1 v b l c q=>b a H1 σ l c (re.mono l)
def yW {iter:Expr}{mi:Ei}{tw:Tg}(hp:PassesOwn (model X.prog X.w) X.A X.env X.xe)(hc:X.calm=true)(hi:wG X xr tg iter mi)(hg:gw X tg tw)(hb:we X xr body m1)
  (hs:∀x,foldedSetIterable iter X.env x=pure x:=by intro _;rfl):kH X xr (.For tg iter body [] pos) (jL mi tw m1):=by
 try simp only[qe]at*
 exact PS.imp (dv hp hc hi hg hb hs) λD σ H ⟨φ,A,ρ,S,re,h⟩=>by
   refine⟨φ,A,ρ,S,re,qK (qf.mp h) (λj A1 h1 g H1 J P S1 jr=>?_) λ_ _ z=>z⟩;refine⟨λi f d I=>MC X.K xr j (turn tw m1) D g H1 f i d I,
    ⟨j.len,g,A1,ρ,.refl,S1,re.mono P,qK h1 (λ_ _ z=>z.mono P) λ_ _ z=>z.mono P⟩,?_⟩
   rintro i f M Y ⟨c,A2,q,u,U,t,b⟩
   obtain⟨j1,j2⟩:=jr i c Y A2 ⟨u.ex,u.tp,u.fz⟩ U;cases E:j.at_ A2 i with
   |none=>cases f<;>(unfold yI at b;rw[E]at b;exact b.elim)|some o=>
    cases o with
    |none=>
     left
     refine⟨j2 E,?_⟩;cases f<;>(unfold yI at b;rw[E]at b;exact b c Y M .refl U t)
    |some w=>
     right
     obtain⟨go,yl⟩:=j1 w E;cases f with
     |zero=>unfold yI at b;rw[E]at b;exact b.elim|succ f=>
      unfold yI at b;rw[E]at b;refine⟨go,λd I=>MC X.K xr j (turn tw m1) D g H1 f (i+1) d I,λd I z=>⟨f,bj _,z⟩,λx H3 y=>?_⟩;obtain⟨L,T,q3⟩:=yl x H3 y;have v:=qf.mp b;unfold turn at v;cases Q:tw w q with
      |none=>rw[Q]at v;exact v.elim|some p=>
       rw[Q]at v;refine⟨c,A2,q,w,p,T,t.mono L,q3,Q,λσ3 N=>?_⟩;refine⟨c,A2,p,T,N,qK v (λfl Z C=>?_) λ_ _ z=>z.mono L⟩;cases fl with
       |nx e=>exactλa B n l s r=>⟨a,Z,e,(u.trans L).trans l,s,r,qK C (λ_ _ z=>z.mono (L.trans l)) λ_ _ z=>z.mono (L.trans l)⟩|ct e=>exactλa B n l s r=>⟨a,Z,e,(u.trans L).trans l,s,r,qK C (λ_ _ z=>z.mono (L.trans l)) λ_ _ z=>z.mono (L.trans l)⟩|bk e=>exactλa B n l s r=>C a B n (L.trans l) s r|rt w4=>exactλa B v4 l s q4=>C a B v4 (L.trans l) s q4
def jq {sa s:cg}(e:yL X xr c mc)(g:we X xr sa m1)(f:we X xr s m2):kH X xr (.If c sa s pos) (qy mc m1 m2):=by
 try simp only[qe]at*
 exact PS.imp (c8 e g f) λD σ H ⟨φ,A,ρ,S,re,h⟩=>by
   refine tT.go S re (qf.mp h) λw A1 a=>?_;cases w with
   |bl k=>
    refine⟨k,rfl,λb H1 l d=>?_⟩;cases k with
    |true=>rw[ah rfl];exact⟨b,A1,ρ,d,re.mono l,qK a (λ_ _ z=>z.mono l) λ_ _ z=>z.mono l⟩|false=>rw[ar aA];exact⟨b,A1,ρ,d,re.mono l,qK a (λ_ _ z=>z.mono l) λ_ _ z=>z.mono l⟩
   |non=>cases a|int _=>cases a|str _=>cases a|tup _=>cases a|ref _=>cases a|clo _ _ _=>cases a|xc _=>cases a
def zH:we X xr [] zA:=by
 try simp only[qe]at*
 exact yU.imp Ao λD σ H ⟨φ,A,ρ,S,re,h⟩=>h φ H σ .refl S re
def qo (he:zC X xr e m):kH X xr (.Return (some e) pos) (qF m):=by
 try simp only[qe]at*
 exact PS.imp (c6 he) λD σ H ⟨φ,A,ρ,S,re,h⟩=>tM.go S re (qf.mp h) λw A1 a H1 v b l s q=>b a H1 v l s q
def qt (i:Nat){pos':Pos}(a:X.N.Nodup)(he:zC X xr e m)(hi:X.N[i]? =some x:=by rfl)(h:Loc X.env.scope x:=by first|exact Or.inl rfl|exact Or.inr rfl)(H:swapsWith e (some (.Name x pos')) pos.line X.env=pure false:=by rfl)
  (hf:X.fn x=true∨X.env.scope.names.lookup x=some .local:=by first|exact .inl rfl|exact .inr rfl):kH X xr (.Assign [.Name x pos'] e pos) (zS i m):=by
 try simp only[qe]at*
 exact PS.imp (de a hi h he H hf) zS.read
def Yg (i:Nat){iter:Expr}{mi:Ei}{tw:Tg}{M:Ev}{em:Em}{P a:Pos}(nl:Nat)(cap:bU)(j:X.N.Nodup)
  (e:X.calm=true)(S:ZL X sc)(p:Jc X.N N sc nl cap=true)(hw:wG X xr tg iter mi)
  (n:∀s H fp,gw (yg X N sc s H fp kf) tg tw/\Zr (yg X N sc s H fp kf) ifs M/\Za (yg X N sc s H fp kf) elt (⟨tg,iter,ifs,0⟩::gs) sc pos 0 em)
  (b:X.N[i]? =some x:=by rfl)(c:X.env.scope.names.lookup x=some .local:=by rfl)
  (w:swapsWith (.ListComp elt (⟨tg,iter,ifs,0⟩::gs) sc pos) (some (.Name x P)) a.line X.env=pure true:=by rfl)
  (f:∀g',gs[0]? =some g'->g'.is_async=0:=by intro _ h;cases h<;>rfl)
  (d:∀x,foldedSetIterable iter X.env x=pure x:=by intro _;rfl):kH X xr (.Assign [.Name x P] (.ListComp elt (⟨tg,iter,ifs,0⟩::gs) sc pos) a) (zS i (qL (zR nl cap mi tw M em))):=by
 try simp only[qe]at*
 exact PS.imp (L2.FR (g:=tG X.K tw) (ti:=tT X.K kj M) (tm:=tE X.K em) j b c w e S p f hw n d) λD σ H h=>zR.read σ H _ (qL.read σ H _ (zS.read D σ H h))
def Qc (h:gZ X xr e m):yL X xr e m:=by
 try simp only[qe]at*
 exact PW.pt h
def jw {g:W->W->Hx->R W}(h:wR X op g)(c:zC X xr a ma)(H:zC X xr b mb)(e:op≠.In:=by decide)(d:op≠.NotIn:=by decide):yL X xr (.Compare a [op] [b] pos) (zi g ma mb):=by
 try simp only[qe]at*
 exact let ⟨r,a1,a2,A⟩:=h.ex;Np a1 a2 A c H (h.mks b e d)
def NP {o:CmpOp}{g g':W->W->Hx->R W}(h:wR X op g)(h':wR X o g')(e:zC X xr a ma)(d:zC X xr b mb)(H:zC X xr c mc)(hm:lastMarks [op,o] [b,c]=false:=by with_unfolding_all rfl):
  yL X xr (.Compare a [op,o] [b,c] pos) (yZ g g' ma mb mc):=by
 try simp only[qe]at*
 exact let ⟨r,a1,a2,A⟩:=h.ex;let ⟨j,i,f,B⟩:=h'.ex;C1 a1 a2 A i f B e d H hm
def Nt {g:W->W->Hx->R W}(h:Xq X op g)(c:zC X xr a ma)(H:zC X xr b mb)(hm:behindInMarks op b=false:=by rfl):yL X xr (.Compare a [op] [b] pos) (zi g ma mb):=by
 try simp only[qe]at*
 exact let ⟨r,a1,a2,A⟩:=h.ex;Np a1 a2 A c H hm
def gN (f:yL X xr a ma):yL X xr (.UnaryOp .Not a pos) (yf ma):=by
 try simp only[qe]at*
 exact PT.imp (cP f) λσ H Q ⟨φ,A,ρ,S,re,h⟩=>by
   refine tT.go S re (qf.mp h) λw A1 c=>?_;cases w with
   |bl k=>obtain⟨b,e,q⟩:=c;cases e;exact⟨k,rfl,λd H1 l s=>q d H1 l s⟩|non=>cases c|int _=>cases c|str _=>cases c|tup _=>cases c|ref _=>cases c|clo _ _ _=>cases c|xc _=>cases c
def gz (h:zC X xr e m)(he:∀whole,isTrue e X.env whole=(do let v <- whole;standAt e.pos;holding [v] (truthy v)):=by intro _;rfl):yL X xr e m:=by
 try simp only[qe]at*
 exact PT.imp (cL h he) λσ H Q h=>h.toM
def qJ:Zr X [] (zW (.bl true)):=by
 try simp only[qe]at*
 exactλpins s σ H Q I ⟨φ,A,ρ,S,re,h⟩=>DI pins s σ H Q I (by
  obtain⟨b,e,q⟩:=h;cases e;exact q φ H .refl S)
def KI (h:yL X kj c mc):Zr X [c] mc:=by
 try simp only[qe]at*
 exact D9 h
def Uj {rest:bY}(g:yL X xr a ma)(f:gZ X xr (.BoolOp .And (b::rest) pos) mb):gZ X xr (.BoolOp .And (a::b::rest) pos) (ym ma mb):=by
 try simp only[qe]at*
 exact PW.imp (pw_and g f) λσ H Q ⟨φ,A,ρ,S,re,h⟩=>by
   refine tT.go S re (qf.mp h) λw A1 c=>?_;cases w with
   |bl k=>
    refine⟨k,rfl,λd H1 l s=>?_⟩;cases k with
    |true=>rw[ah rfl];exact tT.mono s l re c|false=>rw[ar aA];obtain⟨b,e,q⟩:=c;cases e;exact q d H1 l s
   |non=>cases c|int _=>cases c|str _=>cases c|tup _=>cases c|ref _=>cases c|clo _ _ _=>cases c|xc _=>cases c
def V4 (h:yL X xr a ma):gZ X xr (.BoolOp .And [a] pos) ma:=by
 try simp only[qe]at*
 exact pw_and1 h
def YG {rest:bY}(g:yL X xr a ma)(f:gZ X xr (.BoolOp .Or (b::rest) pos) mb):gZ X xr (.BoolOp .Or (a::b::rest) pos) (kE ma mb):=by
 try simp only[qe]at*
 exact PW.imp (pw_or g f) λσ H Q ⟨φ,A,ρ,S,re,h⟩=>by
   refine tT.go S re (qf.mp h) λw A1 c=>?_;cases w with
   |bl k=>
    refine⟨k,rfl,λd H1 l s=>?_⟩;cases k with
    |false=>rw[ar aA];exact tT.mono s l re c|true=>rw[ah rfl];obtain⟨b,e,q⟩:=c;cases e;exact q d H1 l s
   |non=>cases c|int _=>cases c|str _=>cases c|tup _=>cases c|ref _=>cases c|clo _ _ _=>cases c|xc _=>cases c
def YB (h:yL X xr a ma):gZ X xr (.BoolOp .Or [a] pos) ma:=by
 try simp only[qe]at*
 exact pw_or1 h
def jt {K:Frag}{st:Stmt}{k:Nat}{m:Ex}(F:gv K x x st f fd)(hm:mg x=some (.ref f))(S:qX N ps (qp st))
  (i:∀(kV doc pm:Value)(an:cf)(c ct:Value)(us:bR),us.length=ps.length->bindArgs (fnOf x x (QW st) (kZ st) (qp st) .none kV doc pm an c ct) ⟨us,[]⟩=pure (ps.zip us))
  (a:∀(c:Value)(A:Around)(outer:b9)(s:Shared)(H:Hp)(E:XK),jQ k (A.deeper (envOfC x (qp st) s.heap.objs.size f c))->we (gE g8 P w K mg base N x (qp st) f c A outer s H E).nox kj (kZ st) m):
  zP P w K mg base (k+1) x ps.length (qU N.length m):=by
 try simp only[qe]at*
 refine⟨f,fd,ps,?_,hm,F.kp,F.binds i⟩;refine F.ok S (λvs H Q E h=>h.len) λc A outer s H vs Q E g ⟨q,φ,A1,ws,n,r,h⟩=>⟨_,a c A outer s H E g,?_⟩;refine⟨φ,A1,ws.map some++List.replicate (N.length-ws.length) none,n,RE.start r,?_⟩;have h':=qf.mp h;show R.post _ (FB K φ H _) _;cases e:m (ws.map some++List.replicate (N.length-ws.length) none) A1 with
 |ok j A2=>
  rw[e]at h';cases j with
  |rt w=>exact h'|nx ρ=>exactλb p d l o _=>h' b p .non l o rfl|bk ρ=>exact h'.elim|ct ρ=>exact h'.elim
 |exc y A2=>
  rw[e]at h';exact h'.elim
 |bad=>rw[e]at h';exact h'.elim
def Uk (hm:X.mg "abs"=none)(a:zC X xr e m)(h:Gl X "abs":=by rfl)(he:starEach [e] X.env=(false,eval e X.env)::starEach [] X.env:=by rfl):zC X xr (.Call (.Name "abs" p) [e] [] pos) (jf Wf m):=by
 try simp only[qe]at*
 exact eU DD (λw A=>by unfold Wf;split;exact jW;exact jd) (λφ A H x u Q S q p=>by
   cases u with
   |int i=>obtain rfl:=q;exact⟨i,rfl,p φ H _ .refl S rfl⟩|_=>exact p.elim) hm (by rfl) a h (by decide) (by decide) he (by rfl)
def Yk {apos:Pos}(i:zC X xr a ma)(he:zC X xr b mb)(s:starEach [b] X.env=(false,eval b X.env)::starEach [] X.env:=by rfl)
  (e:attributeBase a "append" X.env (eval a X.env)=eval a X.env:=by rfl)
  (w:((backTo cpos (starEach [b] X.env)).all (λx=>!x.1)&&(backToKw cpos (keywordEach [] X.env)).all (λx=>x.1.isSome)
   && decide ([b].length+([]:cc).length+(if ([]:cc).isEmpty then 0 else 1)<30))=true:=by rfl)(h:(apos.endLine==cpos.line)=true:=by rfl):
  zC X xr (.Call (.Attribute a "append" apos) [b] [] cpos) (yx wa ma mb):=by
 try simp only[qe]at*
 exact Xj PySem.F.slot_list_append PySem.F.type_list_append Oc F8 (λφ A H x y u v Q S g q p=>by
   unfold wa at p;cases u with
   |ref n=>
    dsimp only at p;cases E:A[n]? with
    |none=>rw[E]at p;exact p.elim|some o=>cases o with
     |lst ws=>
      rw[E]at p;dsimp only at p
      by_cases c:ws.length<zY
      ·rw[ah c]at p
       obtain⟨l,vs,rfl,f1,g1,r⟩:=S.lst g E;refine⟨l,vs,y,rfl,rfl,g1,?_,?_⟩
       ·rw[<- r.length]
        have:sizeLine=16777216:=sizeLine_eq
        unfold zY at c;omega
       ·have ln:Le X.K φ H φ (upd H l (.lst (vs++[y]))):=Le.upd f1 (λxs z=>by rw[g1]at z;cases z) (λ_ _ z=>by rw[g1]at z;cases z)
        obtain⟨f,d⟩:=S.write (o:=.lst ws) (o':=.lst (ws++[v])) E rfl rfl f1 ⟨_,jN,(r.mono ln).append (.one (q.mono ln))⟩;exact p _ _ _ f d rfl
      ·rw[ar c]at p;exact p.elim
     |_=>rw[E]at p;exact p.elim
   |_=>exact p.elim) i he s e w h
def Kz (hm:X.mg "int"=none)(a:zC X xr e m)(h:Gl X "int":=by rfl)(he:starEach [e] X.env=(false,eval e X.env)::starEach [] X.env:=by rfl):zC X xr (.Call (.Name "int" p) [e] [] pos) (jf JX m):=by
 try simp only[qe]at*
 exact eV Dt (λw A=>by unfold JX;split;exact jW;exact jW;exact jd) (λφ A H x u Q S q p=>by
   cases u with
   |int i=>obtain rfl:=q;exact .inl ⟨i,rfl,p φ H _ .refl S rfl⟩|bl k=>obtain rfl:=q;exact .inr ⟨k,rfl,p φ H _ .refl S rfl⟩|_=>exact p.elim) hm (by rfl) a h (by decide) (by decide) he (by rfl)
def DO (e:X.calm=true)(hm:X.mg "max"=none)(o:zC X xr a ma)(n:zC X xr b mb)(l:Gl X "max":=by rfl)(s:starEach [a,b] X.env=(false,eval a X.env)::starEach [b] X.env:=by rfl)(r:starEach [b] X.env=(false,eval b X.env)::starEach [] X.env:=by rfl)(h:(backTo pos (starEach [b] X.env)).any (·.1)=false:=by rfl):
  zC X xr (.Call (.Name "max" p) [a,b] [] pos) (zi U7 ma mb):=by
 try simp only[qe]at*
 exact U5 (Dj e) Ja (λφ A H x y u v Q S d c p=>by
   obtain⟨i,j,t,E,q⟩:=Q7 (K:=X.K) (f:=λi j=>.int (if j > i then j else i)) (g:=λi j=>.int (if j > i then j else i)) (λ_ _ _ _=>rfl) φ A H x y u v Q S d c p;subst t;subst E;exact⟨i,j,rfl,q⟩) hm (by rfl) o n l (by decide) (by decide) s r h
def EV {apos:Pos}(C:zC X xr a ma)(he:zC X xr b mb)(B:starEach [b] X.env=(false,eval b X.env)::starEach [] X.env:=by rfl)
  (e:attributeBase a "pop" X.env (eval a X.env)=eval a X.env:=by rfl)
  (c:((backTo cpos (starEach [b] X.env)).all (λx=>!x.1)&&(backToKw cpos (keywordEach [] X.env)).all (λx=>x.1.isSome)
   && decide ([b].length+([]:cc).length+(if ([]:cc).isEmpty then 0 else 1)<30))=true:=by rfl)(h:(apos.endLine==cpos.line)=true:=by rfl):
  zC X xr (.Call (.Attribute a "pop" apos) [b] [] cpos) (yx ZQ ma mb):=by
 try simp only[qe]at*
 exact Xj PySem.F.slot_list_pop PySem.F.type_list_pop Cp C3 (λφ A H x y u v Q S t s p=>by
   unfold ZQ at p;cases u with
   |ref n=>cases v with
    |int i=>
     obtain rfl:=s;dsimp only at p;cases E:A[n]? with
     |none=>rw[E]at p;exact p.elim|some o=>cases o with
      |lst ws=>
       rw[E]at p;dsimp only at p
       by_cases d:jP i=true
       ·rw[ah d]at p
        obtain⟨L,J⟩:=QM d;cases g:seqIndex? i ws.length with
        |none=>rw[g]at p;exact p.elim|some k=>
         rw[g]at p;dsimp only at p;cases f:ws[k]? with
         |none=>rw[f]at p;exact p.elim|some w=>
          rw[f]at p;obtain⟨l,vs,rfl,f1,g1,r⟩:=S.lst t E;obtain⟨y,I,D⟩:=r.get f;have ln:Le X.K φ H φ (upd H l (.lst (vs.eraseIdx k))):=Le.upd f1 (λxs z=>by rw[g1]at z;cases z) (λ_ _ z=>by rw[g1]at z;cases z)
          obtain⟨j,q⟩:=S.write (o:=.lst ws) (o':=.lst (ws.eraseIdx k)) E rfl rfl f1 ⟨_,jN,(r.erase k).mono ln⟩;exact⟨l,vs,i,k,y,rfl,rfl,g1,by omega,by omega,by rw[<- r.length];exact g,I,p _ _ _ j q (D.mono j)⟩
       ·rw[ar d]at p;exact p.elim
      |_=>rw[E]at p;exact p.elim
    |_=>exact p.elim
   |_=>cases v<;>exact p.elim) C he B e c h
def Ul (H:zC X xr a ma)(h:zC X xr b mb):zC X xr (.BinOp a .Pow b pos) (zi JV ma mb):=by
 try simp only[qe]at*
 exact JJ dD Tn (UZ By λ_ _ _ _=>rfl) H h
def JD {x j}:zC X xr (.Constant (.str x) j pos) (zW (.str x)):=by
 try simp only[qe]at*
 exact PE.imp cJ λσ H Q ⟨φ,A,ρ,S,r,h⟩=>h φ H _ .refl S rfl
def GU (H:zC X xr a ma)(h:zC X xr b mb):zC X xr (.BinOp a .BitXor b pos) (zi gk ma mb):=by
 try simp only[qe]at*
 exact JJ dE Ja (Q7 λ_ _ _ _=>rfl) H h
def Gs {q:j4}(hm:X.mg "list"=none)(d:wX X xr e q)(g:Gl X "list":=by rfl)(he:starEach [e] X.env=(false,eval e X.env)::starEach [] X.env:=by rfl):
  zC X xr (.Call (.Name "list" p) [e] [] pos) (qL q):=by
 try simp only[qe]at*
 exact PE.imp (Jx Ht g hm (by rfl) (jo d j5 he) (by decide) (by decide) he (by rfl)) λσ H Q ⟨φ,A,ρ,S,re,h⟩=>by
   refine⟨φ,A,ρ,S,re,qK (qf.mp h) (λws A1 f b H1 a ys L s z r=>?_) λ_ _ z=>z⟩;refine⟨a,ys,rfl,z,λl c=>?_⟩;obtain⟨a1,a2,i⟩:=JG s c r;exact f _ _ _ (L.trans a1) a2 i
def OW {o i:Expr}{mo mi:Ev}(he:zC X xr e m)(H:zC X xr o mo)(hi:zC X xr i mi)
  (h:swapsWithSole [.Subscript o i tpos] e pos.line X.env=pure false:=by rfl)(hw:swappedStores [.Subscript o i tpos] e X.env=pure none:=by rfl)
  (b:(assignEach [.Subscript o i tpos] X.env).map (·.2)=[assign (.Subscript o i tpos) X.env]:=by rfl)
  (a:∀v,assign (.Subscript o i tpos) X.env v=(do
   let ov <- holding [v] (eval o X.env)
   let iv <- holding [v,ov] (eval i X.env)
   standAt tpos
   holding [v,ov,iv] (setItem ov iv v)
   release [v,ov,iv] []):=by intro _;rfl):kH X xr (.Assign [.Subscript o i tpos] e pos) (YH gF m mo mi):=by
 try simp only[qe]at*
 exact DV set_list Nk Na he H hi h hw b a
def Ec (f:Nat)(C:PassesOwn (model X.prog X.w) X.A X.env X.xe)(E:yL X xr c mc)(I:we X xr body m1):kH X xr (.While c body [] pos) (U2 f mc m1):=by
 try simp only[qe]at*
 exact PS.imp (DA C E I) λD σ H ⟨φ,A,ρ,S,re,h⟩=>by
   refine⟨λf g e=>∃a A2 d,Le X.K φ H a e/\zT X.K a A2 e/\RE X.K a e d g/\(Qw mc m1 f d A2).post (FB X.K a e D) (EB X.K a e xr),⟨f,φ,A,ρ,.refl,S,re,h⟩,?_⟩
   rintro f u U ⟨a,A2,d,x,M,o,v⟩
   cases f with
   |zero=>exact v.elim|succ f=>
    unfold Qw at v;refine tT.go M o (qf.mp v) λw P j=>?_;cases w with
    |bl k=>
     refine⟨k,rfl,λp N l y=>?_⟩;cases k with
     |true=>
      rw[ah rfl];refine⟨λg e=>∃a A2 d,Le X.K φ H a e/\zT X.K a A2 e/\RE X.K a e d g/\(Qw mc m1 f d A2).post (FB X.K a e D) (EB X.K a e xr),λg e z=>⟨f,bj _,z⟩,?_⟩;refine⟨p,P,d,y,o.mono l,qK (qf.mp j) (λJ B t=>?_) λ_ _ z=>z.mono l⟩;cases J with
      |nx i=>exactλb q n L s r=>⟨b,B,i,(x.trans l).trans L,s,r,qK t (λ_ _ z=>z.mono (l.trans L)) λ_ _ z=>z.mono (l.trans L)⟩|ct i=>exactλb q n L s r=>⟨b,B,i,(x.trans l).trans L,s,r,qK t (λ_ _ z=>z.mono (l.trans L)) λ_ _ z=>z.mono (l.trans L)⟩|bk i=>exactλb q n L s r=>t b q n (l.trans L) s r|rt T=>exactλb q v4 L s Q=>t b q v4 (l.trans L) s Q
     |false=>
      rw[ar aA];exact j p N u l y (o.mono l)
    |non=>cases j|int _=>cases j|str _=>cases j|tup _=>cases j|ref _=>cases j|clo _ _ _=>cases j|xc _=>cases j
end
end Mi
variable {mr:Mi.Ea}{mi:Mi.Ei}{em:Mi.Em}{ρ:Mi.En}{me:Mi.Ev}{A A1 B:Mi.Hx}{ws:List Mi.W}{I:Nat->Mi.En->List Mi.W->Mi.Hx->Prop}{o:Mi.O}{tw:Mi.Tg}{g:Mi.W->Mi.W->Mi.Hx->Mi.R Mi.W}{xr:Mi.XR}{q:Mi.j4}
set_option maxHeartbeats 400000
namespace Mi
open PySem L2
section
variable {ρ1:En}{A2:Hx}{w x y:W}{m ma mb mc:Ev}{m1 m2:Ex}{f:Fn}
def zq (h:ρ[i]? =some (some w)):qd i ρ A=.ok w A:=by unfold qd;rw[h]
def qE:zW w ρ A=.ok w A:=rfl
def zO (H:ma ρ A=.ok x A1)(h:mb ρ A1=.ok y A2):zi g ma mb ρ A=g x y A2:=by unfold zi;rw[H,zV,h,zV]
def fD {g:W->Hx->R W}(h:ma ρ A=.ok x A1):jf g ma ρ A=g x A1:=by unfold jf;rw[h,zV]
def yY {k:Bool}(h:ma ρ A=.ok (.bl k) A1):yf ma ρ A=.ok (.bl (!k)) A1:=by unfold yf;rw[h,zV]
def gB (h:ma ρ A=.ok (.bl true) A1):ym ma mb ρ A=mb ρ A1:=by unfold ym;rw[h,zV]
def Q8 (h:ma ρ A=.ok (.bl false) A1):ym ma mb ρ A=.ok (.bl false) A1:=by unfold ym;rw[h,zV]
def Tf (h:ma ρ A=.ok (.bl true) A1):kE ma mb ρ A=.ok (.bl true) A1:=by unfold kE;rw[h,zV]
def YQ (h:ma ρ A=.ok (.bl false) A1):kE ma mb ρ A=mb ρ A1:=by unfold kE;rw[h,zV]
def qg {a:Ea}(h:a ρ A=.ok ws A1):zJ f a ρ A=f ws A1:=by unfold zJ;rw[h,zV]
def qc:zl ρ A=.ok [] A:=rfl
def zQ {r:Ea}(H:ma ρ A=.ok x A1)(h:r ρ A1=.ok ws A2):zc ma r ρ A=.ok (x::ws) A2:=by unfold zc;rw[H,zV,h,zV]
def Zk {a:Ea}(h:a ρ A=.ok ws A1):zB a ρ A=.ok (.tup ws) A1:=by unfold zB;rw[h,zV]
def j9 {a:Ea}(h:a ρ A=.ok ws A1):zZ a ρ A=.ok (.ref A1.length) (A1++[.lst ws]):=by unfold zZ;rw[h,zV]
def zE (h:m1 ρ A=.ok (.nx ρ1) A1):zp m1 m2 ρ A=m2 ρ1 A1:=by unfold zp;rw[h,zV]
def qx (h:m1 ρ A=.ok (.rt w) A1):zp m1 m2 ρ A=.ok (.rt w) A1:=by unfold zp;rw[h,zV]
def qD:zA ρ A=.ok (.nx ρ) A:=rfl
def qz (h:m ρ A=.ok w A1):zS i m ρ A=.ok (.nx (ρ.set i (some w))) A1:=by unfold zS;rw[h,zV]
def w9 (h:m ρ A=.ok w A1):yK m ρ A=.ok (.nx ρ) A1:=by unfold yK;rw[h,zV]
def qW (h:m ρ A=.ok w A1):qF m ρ A=.ok (.rt w) A1:=by unfold qF;rw[h,zV]
def yo (h:mc ρ A=.ok (.bl true) A1):qy mc m1 m2 ρ A=m1 ρ A1:=by unfold qy;rw[h,zV]
def jA (h:mc ρ A=.ok (.bl false) A1):qy mc m1 m2 ρ A=m2 ρ A1:=by unfold qy;rw[h,zV]
def wt {j:jV}(h:mi ρ A=.ok j A1):jL mi tw m1 ρ A=yI j (turn tw m1) j.len 0 ρ A1:=by unfold jL;rw[h,zV]
def kq (h:tw w ρ=some ρ1):turn tw m1 w ρ A=m1 ρ1 A:=by unfold turn;rw[h]
def Px {j:jV}{st:W->Ex}(h:j.at_ A i=some none):yI j st n i ρ A=.ok (.nx ρ) A:=by
 cases n with
 |zero=>unfold yI;rw[h]|succ n=>unfold yI;rw[h]
def Ou {j:jV}{st:W->Ex}(h:j.at_ A i=some (some w))(H:st w ρ A=.ok (.nx ρ1) A1):yI j st (n+1) i ρ A=yI j st n (i+1) ρ1 A1:=by
 rw[yI,h];dsimp only;rw[H,zV]
def gy {k:Int}(h:m ρ A=.ok (.int k) A1)(H:jP k=true):qR m ρ A=.ok (yd 0 k.toNat) A1:=by unfold qR;rw[h,zV];dsimp only;rw[ah H]
def yQ {lo:Int}{k:Nat}(h:i<k):(yd lo k).at_ A i=some (some (.int (lo+i))):=by unfold yd;dsimp only;rw[ah h]
def yP {lo:Int}{k:Nat}(h:¬i<k):(yd lo k).at_ A i=some none:=by unfold yd;dsimp only;rw[ar h]
def qO (h:m1 (ws.map some++List.replicate (n-ws.length) none) A=.ok (.rt w) A1):qU n m1 ws A=.ok w A1:=by unfold qU;rw[h];rfl
def gR {w:W}(hn:ji ws=true)(hw:w.nr=true)(h:f ws []=.ok w A1):iso f ws A=.ok w A:=by
 unfold iso;rw[ah hn,h];cases w with
 |ref k=>cases hw|_=>dsimp only;rw[ah hw]
end
end Mi
set_option maxHeartbeats 400000
namespace Mi
open PySem L2
def C6 {j:jV}{ifs:Ev}{c:En}{N:Nat}{item g:Nat->W}{keep:Nat->Bool}(t:∀i,i<N->j.at_ A i=some (some (item i)))(d:j.at_ A N=some none)
  (hi:∀i,i<N->ifs (some (item i)::c) A=.ok (.bl (keep i)) A)(he:∀i,i<N->keep i=true->me (some (item i)::c) A=.ok (g i) A):
  ∀(n i:Nat)(x:Option W)(acc:List W),i+n=N->acc.length+n<=zY->∃y,jB j (zG 0) ifs (zN me) n i (x::c) acc A=.ok (y::c,acc++((List.range' i n).filter keep).map g) A:=by
 intro n
 induction n with
 |zero=>
  intro i x acc h _
  have:i=N:=by omega
  subst this;refine⟨x,?_⟩;unfold jB;rw[d];simp
 |succ n I=>
  intro i x acc h l;have H:i<N:=by omega
  rw[jB,t i H];dsimp only[zG,List.set];rw[hi i H,zV];rw[range'_succ];cases a:keep i with
  |true=>
   dsimp only;obtain⟨y,e⟩:=I (i+1) (some (item i)) (acc++[g i]) (by omega) (by rw[aq,aV];omega)
   refine⟨y,?_⟩;have E:zN me (some (item i)::c) acc A=.ok (some (item i)::c,acc++[g i]) A:=by
    unfold zN;rw[he i H a,zV,ah (by omega)]
   rw[E,zV];dsimp only;rw[e,List.filter_cons_of_pos a,aX,aQ]
   rfl
  |false=>
   dsimp only;obtain⟨y,e⟩:=I (i+1) (some (item i)) acc (by omega) (by omega)
   exact⟨y,by rw[e,List.filter_cons_of_neg (by rw[a];exact aA)]⟩
def Pg {j:jV}{ifs:Ev}{N:Nat}{item g:Nat->W}{keep:Nat->Bool}(hm:mi ρ A=.ok j A)(a:j.len=N)(b:N<=zY)
  (H:∀i,i<N->j.at_ A i=some (some (item i)))(h:j.at_ A N=some none)(hi:∀i,i<N->ifs (some (item i)::cap.map λi=>(ρ[i]?).join) A=.ok (.bl (keep i)) A)
  (he:∀i,i<N->keep i=true->me (some (item i)::cap.map λi=>(ρ[i]?).join) A=.ok (g i) A):
  zR 1 cap mi (zG 0) ifs (zN me) ρ A=.ok (((List.range N).filter keep).map g) A:=by
 obtain⟨y,e⟩:=C6 H h hi he N 0 none [] (Nat.zero_add N) (by simpa using b)
 unfold zR;rw[hm,zV,a];have c:JL 1 cap ρ=none::cap.map λi=>(ρ[i]?).join:=rfl;rw[c,e,nil_append,<- range_eq_range']
 rfl
def w5 {j:jV}{N:Nat}{item g:Nat->W}(hm:mi ρ A=.ok j A)(a:j.len=N)(b:N<=zY)
  (t:∀i,i<N->j.at_ A i=some (some (item i)))(H:j.at_ A N=some none)(he:∀i,i<N->me (some (item i)::cap.map λi=>(ρ[i]?).join) A=.ok (g i) A):
  zR 1 cap mi (zG 0) (zW (.bl true)) (zN me) ρ A=.ok ((List.range N).map g) A:=by
 have h:=Pg (ifs:=zW (.bl true)) (keep:=λ_=>true) hm a b t H (λ_ _=>rfl) λi hi _=>he i hi;have f:(List.range N).filter (λ_=>true)=List.range N:=List.filter_eq_self.mpr λ_ _=>rfl;rw[f]at h;exact h
def j6 {g:List W->Hx->R W}(h:q ρ A=.ok ws A1):mQ g q ρ A=g ws A1:=by unfold mQ;rw[h,zV]
def kJ (h:q ρ A=.ok ws A1):qL q ρ A=.ok (.ref A1.length) (A1++[.lst ws]):=by unfold qL;rw[h,zV]
def kY {m:Ev}{w:W}(h:m ρ A=.ok w A1)(H:qb w A1=some ws):qw m ρ A=.ok ws A1:=by unfold qw;rw[h,zV,H]
open PySem PySem.Spec PyProof.Rows L2
inductive zdT (H:Hp)(h g:Heap)(e:Addr)(vs:Array Value):Prop
 |mk (T:Addr) (oT:Obj) (ts:Array Value) (h1:vs[1]? =some (.ref T)) (ne:T≠e) (ng:g.get? T=none) (nH:H T=none) (hT:h.get? T=some oT) (hd:oT.data=.fields ts) (h3:ts[3]? =some .none)
inductive gC (H:Hp)(h g:Heap)(e:Addr)(C:Value):Prop
 |mk (ng:g.get? e=none) (nH:H e=none) (oe:Obj) (vs:Array Value) (a0:Value) (he:h.get? e=some oe) (hc:oe.cls=C) (hd:oe.data=.fields vs) (h0:vs[0]? =some a0) (h1:vs[1]? =some .none∨zdT H h g e vs)
inductive Tr (h:Heap)(e:Addr):Prop
 |mk (oe:Obj) (vs:Array Value) (T:Addr) (he:h.get? e=some oe) (hd:oe.data=.fields vs) (h1:vs[1]? =some (.ref T))
section
variable {A:Around}{outer:b9}{L e:Addr}{C:Value}{g:Heap}
theorem frames_at {B:Heap}:∀{l:b9},s.heap.FunFrames base l->(∀b∈qV l,B.get? b=none)->s.heap.FunFrames B l
 |[],_,_=>trivial|e::r,⟨c,⟨L,o,hf,hn,a,hd⟩,H⟩,h=>⟨c,⟨L,o,hf,h L (by unfold qV;rw[bh,hf];exact ax ..),a,hd⟩,frames_at H λb d=>h b (by
   unfold qV;rw[bh,hf];exact ao _ d)⟩
def NJ {Q:Unit->Shared->Prop}(w:A.frames=some (env::outer))(hf:env.frame=some L)(I:s.heap.FunFrames base (env::outer))(x:gC H s.heap g e C)
  (tr:∀b u,H b=some u->∃o,s.heap.get? b=some o)(th:∀b o,g.get? b=some o->∃o',s.heap.get? b=some o')
  (hQ:∀h',(∀b o,s.heap.get? b=some o->b∉qV (env::outer)->((∃o',g.get? b=some o')∨∃u,H b=some u)->h'.get? b=some o)->(∀b o,s.heap.get? b=some o->b∈qV (env::outer)->∃sl,h'.get? b=some { o with slots:=sl })->
   gC H h' g e C->Tr h' e->Q () { s with heap:=h' }):wpAny M A (leaving env (.ref e)) Q E s:=by
 obtain⟨N,U,oe,vs,a0,he,hc,hd,h0,B⟩:=x;have fin:∀(d:bS),(∀b∈qV (env::outer),b∈d)->(∀b∈d,b∉qV (env::outer)->g.get? b=none/\H b=none)->∀h',Heap.LeftW (hideAll s.heap d) (env::outer) e C a0 s.heap h'->Q () { s with heap:=h' }:=by
  intro d hi1 r h' ⟨st,ff,t,us⟩;refine hQ h' (λb o h nb hx=>?_) (λb o h mb=>?_) ?_ (by obtain⟨i,v,T,D,ts,j,_,l,p,_⟩:=t;exact⟨i,v,T,j,l,p⟩)
  ·refine st b o (bK d h λhm=>?_)
   obtain⟨z1,z2⟩:=r b hm nb;rcases hx with ⟨o',q⟩|⟨u,q⟩
   ·rw[z1]at q;cases q
   ·rw[z2]at q;cases q
  ·obtain⟨_,o',a,f⟩:=I.mem mb
   rw[h]at a;cases a;exact us b o h f
  ·obtain⟨i,v,T,D,ts,j,⟨P,Y⟩,l,p,y,n,J,c,X⟩:=t
   have nT:T∉qV (env::outer):=λhm=>by
    obtain⟨_,o',a,f⟩:=I.mem hm;obtain⟨sl,z⟩:=us T o' a f;rw[J]at z;cases z;exact f ts c
   have both:g.get? T=none/\H T=none:=by
    cases q:s.heap.get? T with
    |some o=>
     by_cases hm:T∈d
     ·exact r T hm nT
     ·rw[bK d q hm]at y;cases y
    |none=>
     constructor
     ·cases z:g.get? T with
      |none=>rfl|some o=>obtain⟨o',Z⟩:=th T o z;rw[q]at Z;cases Z
     ·cases z:H T with
      |none=>rfl|some u=>obtain⟨o',Z⟩:=tr T u z;rw[q]at Z;cases Z
   exact⟨N,U,i,v,a0,j,P,l,Y,.inr ⟨T,D,ts,p,n,both.1,both.2,J,c,X⟩⟩
 have stay:∀d:bS,(hideAll s.heap d).StaysIn s.heap:=λd b o q=>of_hideAll d q;rcases B with B|⟨T,D,ts,B,n,K,S,J,c,X⟩
 ·have hn:∀b∈e::qV (env::outer),(hideAll s.heap (e::qV (env::outer))).get? b=none:=λb h=>hideAll_none _ h
  refine wpAny_leaving_firstW (base:=hideAll s.heap (e::qV (env::outer))) w (frames_at I λb h=>hn b (ao _ h)) hf he (stay _) (hn e (ax ..)) hd B h0 ?_;rw[hc];refine fin _ (λb h=>ao _ h) λb h nb=>?_;rcases cn.mp h with rfl|h
  ·exact⟨N,U⟩
  ·exact absurd h nb
 ·have hn:∀b∈e::T::qV (env::outer),(hideAll s.heap (e::T::qV (env::outer))).get? b=none:=λb h=>hideAll_none _ h
  refine wpAny_leaving_nextW (base:=hideAll s.heap (e::T::qV (env::outer))) w (frames_at I λb h=>hn b (ao _ (ao _ h))) hf
   ⟨oe,vs,T,D,ts,he,⟨hc,h0⟩,hd,B,hn T (ao _ (ax ..)),n,J,c,X⟩ (stay _) (hn e (ax ..)) ?_
  refine fin _ (λb h=>ao _ (ao _ h)) λb h nb=>?_;rcases cn.mp h with rfl|h
  ·exact⟨N,U⟩
  ·rcases cn.mp h with rfl|h
   ·exact⟨K,S⟩
   ·exact absurd h nb
end
inductive MX (P:Program)(w:World)(outer:b9)(H:Hp)(s:Shared)(E:XK)(e:Value)(s':Shared):Prop
 |mk (ea C:Addr) (H':Hp) (he:e=.ref ea) (os:s'.os=s.os) (b:AllBare s'.gens) (un:Un (qV outer) [] H H' s.heap s'.heap) (hk:jZ P w H' s'.heap) (ly:gC H' s'.heap s.heap ea (.ref C)) (tr:Tr s'.heap ea) (q:E (.ref C) none H')
noncomputable def gY (P:Program)(w:World):Zc:=λouter H s E e s'=>MX P w outer H s E e s'
def _root_.L2.jk.obj {o:HO}(x:jk P w H h a o):∃ob,h.get? a=some ob:=by
 cases o with
 |lst xs=>obtain⟨_,_,_,_,e⟩:=x;exact⟨_,e⟩|tup xs=>obtain⟨_,_,_,o,e,_⟩:=x;exact⟨o,e⟩|dK kvs=>obtain⟨_,_,_,_,o,_,_,e,_⟩:=x;exact⟨o,e⟩|dT kvs=>obtain⟨_,_,_,_,o,_,_,e,_⟩:=x;exact⟨o,e⟩|set S n=>obtain⟨o,_,_,_,e,_⟩:=x;exact⟨o,e⟩|ins C d fs=>obtain⟨_,_,_,e,_⟩:=x;exact⟨_,e⟩|own y=>exact x|xd fs=>obtain⟨_,⟨o,_,_,e,_⟩,_⟩:=x;exact⟨o,e⟩|rng lo hi=>obtain⟨_,_,_,e⟩:=x;exact⟨_,e⟩|frz ob u=>exact⟨ob,x.1⟩|tbl ps=>exact⟨_,(show h.get? a=some _ from x)⟩|met f y=>exact⟨_,(show h.get? a=some _ from x)⟩|ext φ=>exact x.2.1
def EW {K:Frag}{cd:Value}{A:Around}{outer:b9}{E:XK}
  {h:Hp}{a C:Addr}(I:Inv (gE (gY P w) P w K mg base N qual scope f cd A outer s H E) pins σ h s')(x:gC h s'.heap s.heap a (.ref C))(y:E (.ref C) none h):
  (gE (gY P w) P w K mg base N qual scope f cd A outer s H E).xe (.ref a) s':=by
 have bs:Un (qV outer) [] H h s.heap s'.heap:=I.base;have stk:∀b∈qV (envOfC qual scope s.heap.objs.size f cd::outer),h b=none:=I.stkFree;have p:s.heap.get? s.heap.objs.size=none:=Heap.get?_none_of_le (av _);have g:(envOfC qual scope s.heap.objs.size f cd).frame=some s.heap.objs.size:=rfl;have mem:∀b,b∈qV (envOfC qual scope s.heap.objs.size f cd::outer)↔b=s.heap.objs.size∨b∈qV outer:=λb=>by
  unfold qV;rw[bh,g];exact mem_cons
 show wpAny (model P w) (A.deeper (envOfC qual scope s.heap.objs.size f cd)) (leaving (envOfC qual scope s.heap.objs.size f cd) (.ref a)) _ _ s';refine NJ (base:=base) (L:=s.heap.objs.size) I.ok.frames rfl I.stack x (λb u e=>(I.hok b u e).obj) (λb o e=>bs.there b o e (by simp)) λh' k1 k2 X t=>?_
 have r:∀b u,h b=some u->b∉qV (envOfC qual scope s.heap.objs.size f cd::outer):=λb u e hm=>by rw[stk b hm]at e;cases e
 refine⟨a,C,h,rfl,I.os,I.bare,⟨λb o e n nb _=>?_,λb o e n mb _=>?_,λb o e n d=>bs.free b o e n d,λb o e d=>?_,bs.tups,bs.frzs,bs.tbls⟩,λb u e=>?_,X,t,y⟩
 ·have i:b≠s.heap.objs.size:=λz=>by rw[z,p]at e;cases e
  exact k1 b o (bs.keep b o e n nb (by simp)) (λhm=>(mem b).mp hm |>.elim i nb) (.inl ⟨o,e⟩)
 ·obtain⟨l,q⟩:=bs.slot b o e n mb (by simp)
  obtain⟨S,Q⟩:=k2 b _ q ((mem b).mpr (.inr mb));exact⟨S,Q⟩
 ·obtain⟨o',q⟩:=bs.there b o e d
  by_cases hm:b∈qV (envOfC qual scope s.heap.objs.size f cd::outer)
  ·obtain⟨l,z⟩:=k2 b o' q hm;exact⟨_,z⟩
  ·exact⟨o',k1 b o' q hm (.inl ⟨o,e⟩)⟩
 ·refine(I.hok b u e).stay (λc v j q=>?_) (λ_ q=>q) λ_ _ q=>q
  rcases j with z|z
  ·rw[z]at q ⊢;exact k1 b v q (r b u e) (.inr ⟨u,e⟩)
  ·exact k1 c v q (r c _ z) (.inr ⟨_,z⟩)
def P7 {E:XK}{e:Value}(I:Inv X pins σ H s)(h:gY X.prog X.w X.stack H s E e s')(g:Heap)(p:∀b o,g.get? b=some o->∃o',s.heap.get? b=some o'):
  ∃a C c,e=.ref a/\Inv X pins σ c s'/\gC c s'.heap g a (.ref C)/\Tr s'.heap a/\E (.ref C) none c:=by
 obtain⟨a,C,c,rfl,os,bare,un,hok,x,r,u⟩:=h;obtain⟨l,v,d,t,f⟩:=s';obtain rfl:f=s.os:=os;refine⟨a,C,c,rfl,I.call (h':=l) (g':=v) (d':=d) (t':=t) (ch:=[]) un hok bare (λb z=>absurd z (by simp)),?_,r,u⟩
 have up:∀b,s.heap.get? b=none->g.get? b=none:=λb n=>by
  cases z:g.get? b with
  |none=>rfl|some o=>obtain⟨o',q⟩:=p b o z;rw[n]at q;cases q
 obtain⟨a1,a2,i,vs,U,S,Q,P,N,B⟩:=x;refine⟨up a a1,a2,i,vs,U,S,Q,P,N,?_⟩;rcases B with B|⟨T,j,ts,M,L,K,J,D,A,y⟩
 ·exact .inl B
 ·exact .inr ⟨T,j,ts,M,L,up T K,J,D,A,y⟩
noncomputable def ZD (K:Frag)(E:XK):XR:=λx H=>∀C:Addr,ku K x (.ref C)->E (.ref C) none H
inductive XJ (K:Frag)(n:Nat)(f:Fn)(vs:List V)(H:Hp)(Q:VK)(E:XK):Prop
 |mk (len:vs.length=n) (φ:bS) (A:Hx) (ws:List W) (S:zT K φ A H) (r:zK K φ H ws vs) (q:(f ws A).post (PB K φ H Q) (EB K φ H (ZD K E)))
def XJ.len {K:Frag}{f:Fn}{vs:List V}{Q:VK}{E:XK}(h:XJ K n f vs H Q E):vs.length=n:=by cases h;assumption
inductive yC (P:Program)(w:World)(K:Frag)(mg:b8)(base:Heap)(k:Nat)(x:Str)(n:Nat)(f:Fn):Prop
 |mk (fa:Addr) (fd:FuncData) (ps:bV) (F:kh P w K mg base (gY P w) k fa fd ps (XJ K n f)) (at_:mg x=some (.ref fa)) (kp:keepIn K (.ref fa)=true) (bi:Binds K fd ps [])
structure Zo (X:Cx)(g:Heap)(xr:XR):Prop where
 th:∀pins σ H s,Inv X pins σ H s->∀b o,g.get? b=some o->∃o',s.heap.get? b=some o'
 out:∀pins σ H s ea C x,Inv X pins σ H s->gC H s.heap g ea (.ref C)->ku X.K x (.ref C)->xr x H->X.xe (.ref ea) s
def fE {K:Frag}{cd:Value}{A:Around}{outer:b9}{E:XK}:
  Zo (gE (gY P w) P w K mg base N qual scope f cd A outer s H E) s.heap (ZD K E) where
 th:=λpins σ h s' I b o e=>(show Un (qV outer) [] H h s.heap s'.heap from I.base).there b o e (by simp)
 out:=λpins σ h s' d C x I l c a=>EW I l (a C c)
section
variable {g:Heap}{c:Expr}
noncomputable def fF (K:Frag)(X:XR):XK:=λc _ H=>∃x C,c=.ref C/\ku K x (.ref C)/\X x H
def Zo.passes (x:Zo X g xr):Passes (gY X.prog X.w) X (fF X.K xr):=λpins σ H s e s' I h=>by
 obtain⟨b,C,d,rfl,i,l,_,nm,f,E,c,a⟩:=P7 I h g (x.th pins σ H s I);cases E;exact x.out pins σ d s' b C nm i l c a
end
noncomputable def Zv (n:Nat)(m:Ex):Fn:=λws A=>(m (ws.map some++List.replicate (n-ws.length) none) A).bind λf A1=>match f with
 |.rt w=>.ok w A1|.nx _=>.ok .non A1|_=>.bad
inductive Th (C:Addr)(bmB:bR)(newId:String)(h:Heap):Prop
 |mk (tl N nm q bs hdct sn sub ab col dd k0 k1 k2 k3 k5 mN:_) (obj:h.get? C=some (excClassObj nm q C N bs tl hdct sn sub ab col dd k0 k1 k2 k3 k5 newId)) (ns:h.Ns N mN) (init:mN "__init__"=none) (tail:OwnTail h bmB tl)
noncomputable def fG (d:Data):Option { c:ClassData // d=.cls c }:=match d with
 |.cls c=>some ⟨c,rfl⟩|_=>none
def Zs (K:Frag)(C:Addr)(b:bR)(newId:String):Bool:=(K.lookup C).any λo=>(fG o.data).any λc=>
 o.cls==.type "type" && c.1.mro==.ref C::c.1.mro.tail&&o.slots.toList==[o.slots.toList.getD 0 none,o.slots.toList.getD 1 none,o.slots.toList.getD 2 none,o.slots.toList.getD 3 none,some (.builtin newId),o.slots.toList.getD 5 none]
  && c.1.hasDel==false&&PySem.W.tailIn K b c.1.mro.tail&&PySem.W.nsOkIn K c.1.ns&&nsIn K c.1.ns "__init__" == some none
def Tb {K:Frag}{C:Addr}{b:bR}{newId:String}(X:K.In h)(q:Zs K C b newId=true):Th C b newId h:=by
 obtain⟨⟨o,dd,dat,⟨s⟩⟩,H,q⟩:=(any_eq_true _ _).mp q;obtain⟨⟨⟨nm,bs,mro,ns,Q,hd,sn,sub,ab,col,del⟩,g⟩,-,q⟩:=(any_eq_true _ _).mp q;simp only[ak,aM]at q;obtain⟨⟨⟨⟨⟨⟨f,d⟩,c⟩,a⟩,E⟩,e⟩,e7⟩:=q;cases g;cases f;cases a;exact⟨mro.tail,ns,nm,Q,bs,hd,sn,sub,ab,col,dd,_,_,_,_,_,_,X _ _ (by rw[H,d,c];rfl),.of_isNs (PySem.W.isNs_of_in X e),PySem.W.nsMap_none_of_in X e e7,PySem.W.tail_of_in X E⟩
noncomputable def JI (x:Str)(M:Ea):Ex:=λρ A=>(M ρ A).bind λ_ A1=>.exc x A1
section
variable {g:Heap}{es:bY}{np:Pos}{C:Addr}{B newId initId:String}{bmB:bR}
def AV {h':Heap}{e:Addr}{vs:bR}(x:Zo X g xr)(I:Inv X pins σ H s)(m:Heap.MadeExcOf s.heap h' e (.ref C) vs):
  Inv X pins σ H { s with heap:=h' }/\gC H h' g e (.ref C):=by
 have N:∀b,s.heap.get? b=none->H b=none:=λb z=>by
  cases q:H b with
  |none=>rfl|some u=>obtain⟨o,k⟩:=(I.hok b u q).obj;rw[z]at k;cases k
 have n:∀b,s.heap.get? b=none->g.get? b=none:=λb z=>by
  cases q:g.get? b with
  |none=>rfl|some o=>obtain⟨o',k⟩:=x.th pins σ H s I b o q;rw[z]at k;cases k
 obtain⟨t,he,a,h⟩:=m.there;refine⟨I.call' (s':={ s with heap:=h' }) (ch:=[]) rfl ⟨λb o q _ _ _=>m.keeps b o q,λb o q _ _ _=>⟨o.slots,m.keeps b o q⟩,λb o q z _=>z,λb o q _=>⟨o,m.keeps b o q⟩,λ_ _ q=>q,λ_ _ _ q=>q,λb ps q=>⟨#[],by rw[Array.append_empty];exact q⟩⟩
  (λb u q=>(I.hok b u q).stay (λc v _ z=>m.keeps c v z) (λ_ z=>z) λ_ _ z=>z) I.bare (λb z=>absurd z (by simp)),?_⟩
 exact⟨n e m.new,N e m.new,_,_,_,he,rfl,rfl,rfl,.inl rfl⟩
def Ck (o:Zo X g xr)(f:ku X.K x (.ref C))(ex:Zs X.K C bmB newId=true)(FB:ExcBaseFacts B newId initId bmB)(z:SA X xr (e::es) mr)(v:Z3 mr n)(hn:n<=sizeLine:=by decide)(w:Gl X x:=by rfl)(a:X.calm=true:=by rfl)
  (d:(x==("__debug__":Str))=false:=by decide)(he:starEach (e::es) X.env=(false,eval e X.env)::starEach es X.env:=by rfl)(l:(backTo cpos (starEach es X.env)).any (·.1)=false:=by rfl):
  SS X xr (.Raise (some (.Call (.Name x np) (e::es) [] cpos)) none pos) (JI x mr):=by
 intro pins s σ H D I ⟨φ,A,ρ,S,re,h⟩;have hm:X.mg x=some (.ref C):=aW I.mod.kin I.mod.glob f;obtain⟨t,N,nm,q,bs,hdct,sn,sub,ab,col,dd,k0,k1,k2,k3,k5,mN,M,J,c,T⟩:=Tb I.mod.kin ex;refine wpAny_Raise_call_subT (C:=C) (nm:=nm) (q:=q) (N:=N) (bs:=bs) (bm:=t) (hdct:=hdct) (sn:=sn) (sub:=sub) (ab:=ab) (col:=col) (dd:=dd) (k0:=k0) (k1:=k1) (k2:=k2) (k3:=k3) (k5:=k5)
  FB (mN:=mN) (T.hasType FB.hasBase) (I.ok.hd a) (by rw[he];show(false || (backTo cpos (starEach es X.env)).any (·.1))=false;rw[l];rfl) c (KN I w hm ⟨rfl,?_⟩ d)
 have h':=qf.mp h;have j:=z cpos pins s σ H (λvs H1=>vs.length<=sizeLine/\xr x H1) I ⟨φ,A,ρ,S,re,?_⟩
 ·rw[he]at j ⊢
  refine Calls.evalArgs_plain (wpAny_mono j (λus s2 P=>?_) λ_ _ y=>y);obtain⟨vs,H2,i,r,hlen,u⟩:=P;refine⟨rfl,?_,i.bk _ _ M,J.keeps i.bk,T.keeps i.bk,λh3 U m=>?_⟩
  ·rw[<- r.length];exact hlen
  ·obtain⟨Z,L⟩:=AV o i m
   exact o.out pins σ H2 _ U C x Z L f u
 ·cases E:mr ρ A with
  |ok ws A1=>
   rw[E]at h';intro b H1 vs p Y Q;refine⟨?_,h' b H1 p Y⟩;rw[<- Q.length,v ρ A ws A1 E];exact hn
  |exc y A1=>rw[E]at h';exact h'|bad=>rw[E]at h';exact h'
end
noncomputable def mJ:List Ev->Str->Ev
 |[],acc=>λ_ A=>.ok (.str acc) A|m::ms,acc=>λρ A=>(m ρ A).bind λw A1=>match w with
  |.str y=>if (acc++y).length<=sizeLine then mJ ms (acc++y) ρ A1 else .bad|_=>.bad
section
variable {es:bY}{m:Ev}{ms:List Ev}
inductive SJ (X:Cx)(xr:XR):List Expr->List Ev->Prop where
 |nil:SJ X xr [] []
 |cons {e:Expr} {es:bY} {m:Ev} {ms:List Ev} (h:SE X xr e m) (r:SJ X xr es ms):SJ X xr (e::es) (m::ms)
end
section
variable {A:Around}{e C:Addr}{oe:Obj}{bmB bmD:bR}{newId newD:String}{Q:Bool->Shared->Prop}
def Nz (h:Heap)(C D:Addr):Prop:=∃o cd,h.get? C=some o/\o.data=.cls cd/\cd.mro.contains (.ref D)=true
def FT (lc:Th C bmB newId s.heap)(ld:Th D bmD newD s.heap)(j:bmD.contains (.type "BaseException")=true)(he:s.heap.get? e=some oe)(a:oe.cls=.ref C)(up:Nz s.heap C D)(w:Q true s):
  wpAny M A (excMatches (.ref e) (.ref D)) Q E s:=by
 obtain⟨h,g,d,t,os⟩:=s;obtain⟨n,N,nm,q,bs,hdct,sn,sub,ab,col,dd,k0,k1,k2,k3,k5,mN,l,_,_,_⟩:=lc;obtain⟨T,Z,u,J,y,c,r,S,z,p,x,Y,X,U,P,L,v,o,_,_,I⟩:=ld;obtain⟨K,cd,b,hd,hm⟩:=up;rw[l]at b;cases b;have H:(excClassObj nm q C N bs n hdct sn sub ab col dd k0 k1 k2 k3 k5 newId).data=.cls cd:=hd;unfold excClassObj at H;cases H;have B:(Value.ref D::T).contains (.type "BaseException")=true:=by rw[List.contains_cons,I.hasType j,Bool.or_true]
 have i:(Value.ref C::n).contains (.ref D)=true:=hm;have f:=tc_notTuple;unfold excMatches
 repeat (first|(with_reducible refine wpAny_loadPart_at he ?_;rw[a])|with_reducible refine wpAny_loadPart_at o ?_|with_reducible refine wpAny_loadPart_at l ?_|(with_reducible refine wpAny_isSubtype_exc o ?_;rw[B])|(with_reducible refine wpAny_isSubtype_exc l ?_;rw[i])|wp_step)
 exact w
end
section
variable {H0:Hp}{s0:Shared}{ea C:Addr}
def landed {h':Heap}{T:Addr}{a0:Value}(g:Inv X pins σ H0 s0)(I:Inv X pins σ H s)(x:gC H s.heap s0.heap ea (.ref C))(nT:s0.heap.get? T=none)(hT:H T=none)
  (th:∀b o,s0.heap.get? b=some o->∃o',s.heap.get? b=some o')
  (fl:Heap.FlyingW (hideAll s.heap (ea::T::qV X.stack)) X.stack ea (.ref C) a0 h')(us:s.heap.UpToSlots h'):
  Inv X pins σ H { s with heap:=h' }/\gC H h' s0.heap ea (.ref C)/\Tr h' ea/\∀b o,s0.heap.get? b=some o->∃o',h'.get? b=some o':=by
 obtain⟨st,_,ff,Z,vs,t,oT,ts,he,⟨A,h0⟩,hd,h1,l,B,D,w,h3⟩:=fl;have ng:s0.heap.get? ea=none:=by cases x;assumption
 have nH:H ea=none:=by cases x;assumption
 have kept:∀b o,s.heap.get? b=some o->b∉qV X.stack->b≠ea->b≠T->h'.get? b=some o:=λb o q n1 j N=>st b o (bK _ q λhm=>by
  rcases cn.mp hm with z|hm
  ·exact j z
  rcases cn.mp hm with z|hm
  ·exact N z
  ·exact n1 hm)
 have slot:∀b o,s.heap.get? b=some o->b∈qV X.stack->∃S,h'.get? b=some { o with slots:=S }:=λb o q hm=>by
  obtain⟨_,o',h,f⟩:=I.stack.mem hm;rw[q]at h;cases h;exact us b o q f
 have off:∀b u,H b=some u->b∉qV X.stack/\b≠ea/\b≠T:=λb u q=>⟨λhm=>(by rw[I.stkFree b hm]at q;cases q),λz=>(by rw[z,nH]at q;cases q),λz=>(by rw[z,hT]at q;cases q)⟩
 have ne:∀b o,s0.heap.get? b=some o->b≠ea/\b≠T:=λb o q=>⟨λz=>(by rw[z,ng]at q;cases q),λz=>(by rw[z,nT]at q;cases q)⟩
 have any:∀b o o',s0.heap.get? b=some o'->s.heap.get? b=some o->∃S,h'.get? b=some { o with slots:=S }:=λb o o' Q q=>by
  by_cases hm:b∈qV X.stack
  ·exact slot b o q hm
  ·exact⟨o.slots,kept b o q hm (ne b o' Q).1 (ne b o' Q).2⟩
 have cell:∀y c,X.env.cells.lookup y=some c->∀v,s.heap.IsCell c v->h'.IsCell c v:=λy c e v ⟨o,L,hd⟩=>by
  obtain⟨_,o0,d,_⟩:=g.cell y c e;obtain⟨S,z⟩:=any c o o0 d L;exact⟨_,z,hd⟩
 have inv:Inv X pins σ H { s with heap:=h' }:=by
  refine⟨I.ok,I.os,I.bare,⟨λb o q n K nx=>?_,λb o q n hf nx=>?_,I.base.free,λb o q nx=>?_,I.base.tups,I.base.frzs,I.base.tbls⟩,?_,λy c e=>?_,I.free,I.freeC,λp hp=>?_,λb u q=>?_,I.len⟩
  ·have a:=I.base.keep b o q n K nx
   have Q:=g.base.keep b o q n K nx;refine kept b o a (λhm=>?_) (ne b o Q).1 (ne b o Q).2;rcases cn.mp (I.stkSub b hm) with z|z
   ·exact absurd (aE (aH q) I.ok.above) (by rw[z];exact aT _)
   ·exact K z
  ·obtain⟨S,a⟩:=I.base.slot b o q n hf nx
   obtain⟨sl0,Q⟩:=g.base.slot b o q n hf nx;obtain⟨E,z⟩:=any b _ _ Q a;exact⟨E,z⟩
  ·obtain⟨J,a⟩:=I.base.there b o q nx
   obtain⟨o0,Q⟩:=g.base.there b o q nx;obtain⟨S,z⟩:=any b J o0 Q a;exact⟨_,z⟩
  ·obtain⟨m,⟨o,es,ep,L,r⟩,k⟩:=I.loc
   obtain⟨_,⟨o0,_,_,d,_⟩,_⟩:=g.loc;obtain⟨S,z⟩:=any _ o o0 d L;refine⟨m,⟨_,es,ep,z,r⟩,λi y v e1 e2 e3=>?_⟩;obtain⟨u,ru,lk⟩:=k i y v e1 e2 e3;refine⟨u,ru,?_⟩;rcases lk with lk|⟨lk,c,ec,M⟩
   ·exact .inl lk
   ·exact .inr ⟨lk,c,ec,cell y c ec _ M⟩
  ·obtain⟨v,hv⟩:=I.cell y c e
   exact⟨v,cell y c e v hv⟩
  ·obtain⟨p1,p2,U,P,p5⟩:=I.pin p hp
   have Y:=(g.pin p hp).1;refine⟨kept _ _ p1 (λhm=>?_) (ne _ _ Y).1 (ne _ _ Y).2,p2,U,P,p5⟩;rcases cn.mp (I.stkSub _ hm) with z|z
   ·exact U z
   ·exact P z
  ·refine(I.hok b u q).stay (λc v M z=>?_) (λ_ z=>z) λ_ _ z=>z
   rcases M with e|e
   ·obtain⟨n1,j,N⟩:=off b u q
    rw[e]at z ⊢;exact kept b v z n1 j N
   ·obtain⟨n1,j,N⟩:=off c _ e
    exact kept c v z n1 j N
 have both:s0.heap.get? t=none/\H t=none:=by
  cases q:s.heap.get? t with
  |some o=>
   by_cases hm:t∈ea::T::qV X.stack
   ·rcases cn.mp hm with z|hm
    ·exact absurd z B
    rcases cn.mp hm with z|hm
    ·rw[z];exact⟨nT,hT⟩
    ·obtain⟨S,z⟩:=slot t o q hm
     obtain⟨_,o',h,f⟩:=I.stack.mem hm;rw[q]at h;cases h;rw[D]at z;cases z;exact absurd w (f ts)
   ·rw[bK _ q hm]at l;cases l
  |none=>
   constructor
   ·cases z:s0.heap.get? t with
    |none=>rfl|some o=>obtain⟨o',k⟩:=th t o z;rw[q]at k;cases k
   ·cases z:H t with
    |none=>rfl|some u=>obtain⟨o',k⟩:=(I.hok t u z).obj;rw[q]at k;cases k
 exact⟨inv,⟨ng,nH,Z,vs,a0,he,A,hd,h0,.inr ⟨t,oT,ts,h1,B,both.1,both.2,D,w,h3⟩⟩,⟨Z,vs,t,he,hd,h1⟩,λb o q=>by
  obtain⟨J,a⟩:=th b o q;obtain⟨S,z⟩:=any b J o q a;exact⟨_,z⟩⟩
def flying (I:Inv X pins σ H s)(x:gC H s.heap s0.heap ea (.ref C))(t:Tr s.heap ea):
  ∃T A,s0.heap.get? T=none/\H T=none/\Heap.FlyingW (hideAll s.heap (ea::T::qV X.stack)) X.stack ea (.ref C) A s.heap:=by
 obtain⟨y,z,n,vs,A,he,r,hd,h0,d⟩:=x;obtain⟨l,v,B,h,a,c⟩:=t;rw[he]at h;cases h;rw[hd]at a;cases a;rcases d with d|⟨T,p,ts,d,i,e,j,u,f,w⟩
 ·rw[d]at c;cases c
 ·have hn:∀b∈ea::T::qV X.stack,(hideAll s.heap (ea::T::qV X.stack)).get? b=none:=λb g=>hideAll_none _ g
  exact⟨T,A,e,j,λb o q=>of_hideAll _ q,hn ea (ax ..),frames_at I.stack λb g=>hn b (ao _ (ao _ g)),
   n,vs,T,p,ts,he,⟨r,h0⟩,hd,d,hn T (ao _ (ax ..)),i,u,f,w⟩
end
noncomputable def We (o:Obj):HO:=.frz o (.own 0)
noncomputable def J4 (K:Frag)(C D:Addr):Bool:=match K.lookup C with
 |some ⟨_,_,.cls cd,_⟩=>cd.mro.contains (.ref D)|_=>false
def fH {K:Frag}{C:Addr}(X:K.In h)(e:J4 K C D=true):Nz h C D:=by
 unfold J4 at e
 split at e
 ·rename_i H
  exact⟨_,_,X _ _ H,rfl,e⟩
 ·cases e
section
variable {H0:Hp}{s0:Shared}{ea C L:Addr}
def YS (i:Inv X pins σ H0 s0)(I:Inv X pins σ H s)(x:gC H s.heap s0.heap ea (.ref C)):∃a,a.cls=.ref C/\H ea=none/\Inv X pins σ (upd H ea (We a)) s:=by
 obtain⟨l,d,a,vs,A,he,r,_⟩:=x;refine⟨a,r,d,?_⟩;have ne:∀b o,s0.heap.get? b=some o->b≠ea:=λb o q z=>by rw[z,l]at q;cases q
 have at_:∀b,b≠ea->upd H ea (We a) b=H b:=λb n=>by unfold upd;exact ar n
 have N:∀b u,H b=some u->upd H ea (We a) b=some u:=λb u q=>by
  rw[at_ b λz=>by rw[z,d]at q;cases q];exact q
 refine⟨I.ok,I.os,I.bare,⟨I.base.keep,I.base.slot,λb o q n nx=>?_,I.base.there,λb xs q=>N _ _ (I.base.tups b xs q),λb o u q=>N _ _ (I.base.frzs b o u q),λb ps q=>?_⟩,I.loc,I.cell,?_,λy c e=>?_,λp f=>?_,λb u q=>?_,I.len⟩
 ·obtain⟨o0,Q⟩:=i.base.there b o q nx
  rw[at_ b (ne b o0 Q)];exact I.base.free b o q n nx
 ·obtain⟨more,z⟩:=I.base.tbls b ps q
  exact⟨more,N _ _ z⟩
 ·obtain⟨m,⟨o0,_,_,h,_⟩,_⟩:=i.loc
  rw[at_ _ (ne _ o0 h)];exact I.free
 ·obtain⟨v,o0,h,_⟩:=i.cell y c e
  rw[at_ _ (ne _ o0 h)];exact I.freeC y c e
 ·obtain⟨j,g,P⟩:=I.pin p f
  refine⟨j,?_,P⟩;rw[at_ _ (ne _ _ (i.pin p f).1)];exact g
 ·by_cases z:b=ea
  ·subst z
   have:u=We a:=by
    unfold upd at q;rw[ah rfl]at q;exact(aD q).symm
   subst this;exact⟨he,⟨a,he⟩⟩
  ·rw[at_ b z]at q
   exact(I.hok b u q).stay (λ_ _ _ z=>z) (λc z=>N c _ z) λc xs z=>N c _ z
def fI (X:Cx)(pins:bT)(σ:St)(s0:Shared)(D:Addr)(k:Addr->Addr->Hp->Prop)(e:Value)(s:Shared):Prop:=
 ∃E C H B n,e=.ref E/\Inv X pins σ H s/\gC H s.heap s0.heap E (.ref C)/\Tr s.heap E/\(∀b o,s0.heap.get? b=some o->∃o',s.heap.get? b=some o')/\Mi.Zs X.K C B n=true/\J4 X.K C D=true/\∀a,a.cls=.ref C->H E=none->k E C (upd H E (We a))
def fJ {l n:Str}{p:bR}{newD:String}{S:cg}{B:Stmt}{np hp:Pos}{Q:Flow->Shared->Prop}{k:Addr->Addr->Hp->Prop}
  (I0:Inv X pins σ H0 s0)(t:X.stack=X.env::X.outer)(hL:X.env.frame=some L)(hD:ku X.K l (.ref D))(exD:Mi.Zs X.K D p newD=true)(hbD:p.contains (.type "BaseException")=true)
  (hN:X.N.Nodup)(hi:X.N[i]? =some n)(hx:Loc X.env.scope n)
  (y:wpAny (model X.prog X.w) X.A (execs body X.env) (λf s1=>f=.next/\Q .next s1) (fI X pins σ s0 D k) s0)
  (b:∀E C H s2,Inv X pins (σ.set i (some (.ref E))) H s2->k E C H->∀E',wpAny (model X.prog X.w) (X.A.mark (some (.ref E))) (execs (B::S) X.env)
   (λf s4=>wpAny (model X.prog X.w) X.A (do bindName X.env n .none;unbindBehindTheSuite X.env n hp) (λ_ s5=>Q f s5) X.xe s4) E' s2)
  (hg:Gl X l)(Z:(l==("__debug__":Str))=false:=by decide)(hf:X.fn n=true∨X.env.scope.names.lookup n=some .local:=by first|exact .inl rfl|exact .inr rfl|assumption):
  wpAny (model X.prog X.w) X.A (exec (.Try body [.ExceptHandler (some (.Name l np)) (some n) (B::S) hp] [] [] pos) X.env) Q X.xe s0:=by
 refine wpAny_Try_except (wpAny_mono y (λf s1 ⟨ef,q⟩=>?_) λe s1 h=>?_)
 ·subst ef
  exact wpAny_execs_nil q
 obtain⟨E,C,H,bmC,newC,rfl,I,x,tr,th,exC,up,hk⟩:=h;have hm:X.mg l=some (.ref D):=aW I.mod.kin I.mod.glob hD;obtain⟨T,a0,nT,hT,fl⟩:=flying I x tr;have Y:X.A.frames=some (X.env::X.outer):=by rw[<- t];exact I.ok.frames
 refine wpAny_looks_onW Y hL (by rw[<- t];exact fl) λh₄ g d=>?_
 refine wpAny_landsW g λo a U=>?_;obtain⟨c,x5,r,z⟩:=landed I0 I x nT hT th (by rw[<- t]at a;exact a) (d.trans U)
 obtain⟨_,_,oe,_,_,he,hc,_⟩:=id x5;refine wpAny_handleBy_cons (codeAny_handlers_test (Calls.Name_function_global c.ok.kind hg (Calls.loadGlobal_global (by rw[c.ok.glob];exact c.mod.glob.keeps c.bk) hm ?_) Z)) (by intro q;cases q)
 refine FT (s:={ s1 with heap:=o }) (Tb c.kIn exC) (Tb c.kIn exD) hbD he hc (fH c.kIn up) ?_
 refine codeAny_handlers_suite_as ?_;obtain⟨T',a0',M,hT',fl'⟩:=flying c x5 r;refine lands_againW fl' λh₆ j u=>?_;obtain⟨I6,x6,_,_⟩:=landed I0 c x5 M hT' z j u;obtain⟨of,P,J,I7⟩:=YS I0 I6 x6;exact Yq (v:=.ref E) I7 hN hi hx rfl (λs7 I7=>b E C _ s7 I7 (hk of P J) _) hf
end
section
variable {A:Around}
def name_goes {n:Str}{Q:Unit->Shared->Prop}(I:Inv X pins σ H s)(hN:X.N.Nodup)(hi:X.N[i]? =some n)(Y:X.env.scope.names.lookup n=some .local)
  (h:∀s',Inv X pins (σ.set i none) H s'->Q () s'):wpAny M A (do bindName X.env n .none;unbindBehindTheSuite X.env n pos) Q E s:=by
 obtain⟨m,hn,T⟩:=id I.loc;have f:i < σ.length:=by rw[I.len];exact(cq.mp hi).1
 refine wpAny_nameGoes_keeps Y hn (by rw[I.ok.kind];rfl) λh' v w t=>h _ ?_
 have old:∀b o,b≠X.env.locals->s.heap.get? b=some o->h'.get? b=some o:=λb o n q=>(t.2 b n).trans q;have nl:∀{b:Addr}{u:HO},H b=some u->b≠X.env.locals:=λq z=>by rw[z,I.free]at q;cases q
 have ab:∀{b:Addr}{k:Nat},b<k->k<=X.env.locals->b≠X.env.locals:=λl g=>aK (aE l g);refine⟨I.ok,I.os,I.bare,⟨λb o e z C x=>?_,λb o e z C x=>?_,I.base.free,λb o e x=>?_,I.base.tups,I.base.frzs,I.base.tbls⟩,⟨_,w,λj y J a r e3=>?_⟩,λy c e=>?_,I.free,I.freeC,λp P=>?_,λb u q=>?_,by simpa using I.len⟩
 ·exact old b o (ab (aH e) I.ok.above) (I.base.keep b o e z C x)
 ·obtain⟨S,a⟩:=I.base.slot b o e z C x
  exact⟨S,old b _ (ab (aH e) I.ok.above) a⟩
 ·obtain⟨o',a⟩:=I.base.there b o e x
  exact⟨o',old b _ (ab (aH e) I.ok.above) a⟩
 ·by_cases B:j=i
  ·subst B
   rw[aL f]at r;cases r
  ·rw[aI (Ne.symm B)]at r
   obtain⟨U,K,q⟩:=T j y J a r e3;refine⟨U,K,?_⟩;rcases q with ⟨k,e⟩|⟨k,c,e,z⟩
   ·have:y≠n:=λe=>B (V3 hN a (e ▸ hi))
    exact .inl ⟨k,by simp[this,e]⟩
   ·exact .inr ⟨k,c,e,z.sameBut t (I.cne y c e)⟩
 ·obtain⟨D,z⟩:=I.cell y c e
  exact⟨D,z.sameBut t (I.cne y c e)⟩
 ·obtain⟨e,z,ne,L,d⟩:=I.pin p P
  exact⟨old _ _ ne e,z,ne,L,d⟩
 ·refine(I.hok b u q).stay (λc v Z z=>old c v ?_ z) (λ_ z=>z) λ_ _ z=>z
  rcases Z with e|e
  ·rw[e];exact nl q
  ·exact nl e
def FU {n y:Str}{E:Addr}{np Y ap p:Pos}{Q:Flow->Shared->Prop}{z:bX}(I:Inv X pins (σ.set i (some (.ref E))) H s)(c:X.N.Nodup)(hi:X.N[i]? =some n)(t:X.N[j]? =some y)
  (h:X.env.scope.names.lookup n=some .local)(d:Loc X.env.scope y)(q:∀s',Inv X pins (((σ.set i (some (.ref E))).set j (some (.ref E))).set i none) H s'->Q .next s')
  (g:swapsWith (.Name n np) (some (.Name y Y)) ap.line X.env=pure false)(hf:X.fn y=true∨X.env.scope.names.lookup y=some .local)
  (b:(n==("__debug__":Str))=false:=by decide):
  wpAny (model X.prog X.w) A (execs [.Assign [.Name y Y] (.Name n np) ap] X.env) (λf s4=>wpAny (model X.prog X.w) X.A (do bindName X.env n .none;unbindBehindTheSuite X.env n p) (λ_ s5=>Q f s5) X.xe s4) z s:=by
 obtain⟨m,hn,o⟩:=I.loc;have a:i < σ.length:=by have:=I.len;rw[length_set]at this;rw[this];exact(cq.mp hi).1
 obtain⟨u,r,l⟩:=o i n (.ref E) hi (aL a) (.inl h);obtain rfl:u=Value.ref E:=r;have hm:m n=some (.ref E):=by
  rcases l with ⟨_,e⟩|⟨k|k,_⟩
  ·exact e
  ·rw[show X.env.kindOf n=some .local from h]at k;cases k
  ·rw[show X.env.kindOf n=some .local from h]at k;cases k
 refine wpAny_execs_cons (wpAny_Assign_Name (wpAny_Name (wpAny_loadName_local I.ok.kind h hn hm ?_) b) g);exact Yq (v:=.ref E) I c t d rfl (λs5 x=>wpAny_execs_nil (name_goes x c hi h q)) hf
end
open PySem PySem.W PySem.Spec PySem.Calls PyProof.Rows Builtin Builtin.ObjectAttr Builtin.Getset_descriptor
section
variable {prog:Program}{A:Around}{K:Frag}{x:Addr}{name:Str}
def fK {a g:Value}(X:K.In h)(b:findIn K (.ref D) name=some (some a))(hn:specialIn K a "__get__"=some (some g))(H:takesIn K a=some true):Looks M h (find (.ref x) (.ref D) name) (.bind g a):=
 (looks_findIn (M:=M) X b).andThen ((show Looks M h (getOf (some a)) (some g) from looks_specialIn X hn).andThen
  ((show Looks M h (dataDescriptor? (some a) (some g)) (some (g,a)) from (looks_takesIn (M:=M) X H).andThen .now).andThen (Looks.tag .now)))
def BZ {tp:Value}{R:Result->Shared->Prop}(X:K.In s.heap)(l:Looks (model prog w) s.heap (typeOf (.ref x)) (.ref D))(hm:mroIn K D (.type "object")=some true)(h:R (.ok (.ret (.ref D))) s):
  codeAny (model prog w) A (.call (.builtin "getset_descriptor.__get__") ⟨[.builtin "object.__class__",.ref x,tp],[]⟩) R s:=by
 obtain⟨h0,g,d,t0,o0⟩:=s;have L:=looks_mroIn (M:=model prog w) X hm;have S:=KF.slot_gs;refine codeAny_call_builtin S.plain KF.entry_gs (S.check _ _ _ _ _ _ _ _ KF.type_class (KF.args_gs _ _ _) ?_);unfold «getset_descriptor.__get__» descrGet;rw[dga_obj];refine ck (cm ?_);unfold descrGetter descrCheckInstance isInstance descrNameAndClass;simp only[KF.owner_class]
 repeat lk
 refine And.intro (Code.quiet_builtin _ (by decide +kernel)) (codeAny_builtin KF.entry_class ?_)
 unfold «object.__class__» shownTypeOf
 repeat lk
 exact h
def FG {rest:bR}{kw:List (Str×Value)}{Q:Unit->Shared->Prop}(X:K.In s.heap)(l:Looks M s.heap (typeOf (.ref x)) (.ref D))(hm:mroIn K D (.type "BaseException")=some true)
  (ok:argsOk "BaseException.__getattribute__" ⟨.ref x::rest,kw⟩)(h:Q () s):wpAny M A (checkBuiltinCall "BaseException.__getattribute__" ⟨.ref x::rest,kw⟩) Q E s:=by
 have cut:splitId "BaseException.__getattribute__"=some ("BaseException","__getattribute__"):=by first|rfl|decide +kernel
 have kinds:builtinKind "BaseException.__getattribute__"=some .slot∨builtinKind "BaseException.__getattribute__"=some .method:=by
  simp only[builtinKind,cut]
  first|exact .inl (by decide +kernel)|exact .inr (by decide +kernel)
 have L:=looks_mroIn (M:=M) X hm;have r:wpAny M A (match Manifest.signature? "BaseException.__getattribute__" with|some sig=>Bind.checkArgs "BaseException.__getattribute__" sig ⟨.ref x::rest,kw⟩|none=>pure ()) Q E s:=wpAny_of_eq ok h
 rcases kinds with d|d
 all_goals
  unfold checkBuiltinCall;rw[d,cut];dsimp only;unfold isInstance;refine ck (ck (l.at (L.at ?_)));exact r
def Hr {Q:Option Value->Shared->Prop}(b:findIn K (.ref D) "__getattribute__"=some (some (.builtin "BaseException.__getattribute__")))(n:findIn K (.ref D) "__getattr__"=some none)
  (e:findIn K (.ref D) "__class__"=some (some (.builtin "object.__class__")))
  (hn:specialIn K (.builtin "object.__class__") "__get__"=some (some (.builtin "getset_descriptor.__get__")))(H:takesIn K (.builtin "object.__class__")=some true)(hm:mroIn K D (.type "object")=some true)(a:mroIn K D (.type "BaseException")=some true)
  (X:K.In s.heap)(L:Looks (model prog w) s.heap (typeOf (.ref x)) (.ref D))(h:Q (some (.ref D)) { s with toks:=s.toks+1 }):wpAny (model prog w) A (getAttr? (.ref x) "__class__") Q E s:=by
 obtain⟨c,g,d,t,os⟩:=s;have l:=looks_findIn (M:=model prog w) X b;have L2:=fK (M:=model prog w) (x:=x) X e hn H;have f:=looks_findIn (M:=model prog w) X n;unfold getAttr?;unfold getAttrBy?;unfold getAttrBy;refine ck (wpAny_mkText (ck (wpAny_attempt (wpAny_holding (ck (L.at (ck (l.at ?_))))))));show wpAny _ _ (getAttrByItsOwn (.ref x) (.str "__class__" t) (.ref D) (.builtin "BaseException.__getattribute__") false false) _ _ _;unfold getAttrByItsOwn;refine ck ?_;show wpAny _ _ (typeLookup (.ref D) "__getattr__") _ _ _;refine f.at (ck (wpAny_attempt (wpAny_holding ?_)));show wpAny _ _ (bindSpecial (.builtin "BaseException.__getattribute__") (.ref x) >>= _) _ _ _;refine ck (wpAny_of_eq (F.excAttr_ValueError.ga.bind _) ?_);refine wpAny_call (codeAny_call_builtin F.excAttr_ValueError.ga.plain F.entry_bexc_ga (FG X L a (F.args_bexc_ga _ _) ?_));unfold «object.__getattribute__»;refine ck (wpAny_of_eq (show slotArgs "__getattribute__" 1 ⟨[.ref x]++[.str "__class__" t],[]⟩=pure (.ref x,[.str "__class__" t]) from rfl) ?_)
 refine ck (wpAny_of_eq (show attrName (.str "__class__" t)=pure ("__class__":Str) from rfl) (ck (L.at (ck (L2.at ?_)))))
 show wpAny _ _ (holding [Value.builtin "object.__class__"] (call (.builtin "getset_descriptor.__get__") [.builtin "object.__class__",.ref x,.ref D]) >>= ret) _ _ _;refine ck (wpAny_holding (wpAny_call (BZ (s:=⟨c,g,d,t+1,os⟩) X L hm ?_)));refine cm ?_;exact handed_on rfl (cm h)
end
def G6 (x D:Addr)(h:Heap):Prop:=∃o,h.get? x=some o/\o.cls=.ref D
def G6.ty {x:Addr}(p:G6 x D h):Looks M h (typeOf (.ref x)) (.ref D):=by
 obtain⟨o,H,c⟩:=p;rw[<- c];exact(Looks.ld H).andThen .now
def DN {K:Frag}{x:Addr}(d:(clsIn K D).isSome=true)(c:findIn K (.ref D) "__getattribute__"=some (some (.builtin "BaseException.__getattribute__")))(b:findIn K (.ref D) "__getattr__"=some none)(e:findIn K (.ref D) "__class__"=some (some (.builtin "object.__class__")))
  (hn:specialIn K (.builtin "object.__class__") "__get__"=some (some (.builtin "getset_descriptor.__get__")))(H:takesIn K (.builtin "object.__class__")=some true)(hm:mroIn K D (.type "object")=some true)(a:mroIn K D (.type "BaseException")=some true):
  KitX K (.ref x) (.ref D) (G6 x D) where
 ty:=λ_ _ _ p=>p.ty
 it:=λ_ _ X _=>by
  obtain⟨C,h⟩:=Option.isSome_iff_exists.mp d;unfold clsIn at h
  split at h
  ·rename_i g d' f s o
   intro A Q' E s' k q;unfold isType loadHead;exact ck (wpAny_loadPart (k _ _ (X D _ o)) (cm q))
  ·cases h
 ne:=λ_ tp dd i n S X t=>by
  obtain⟨C,h⟩:=Option.isSome_iff_exists.mp d;rw[Bool.eq_false_iff];intro q;cases Value.ref.inj (aM.mp q);unfold clsIn at h
  split at h
  ·rename_i o
   cases (X _ _ o).symm.trans t
  ·cases h
 ca:=λX p k=>Hr c b e hn H hm a X p.ty k
noncomputable def K0 (K:Frag)(C:Addr):Bool:=(PySem.W.clsIn K C).isSome&&(PySem.W.findIn K (.ref C) "__getattribute__" == some (some (.builtin "BaseException.__getattribute__")))&&(PySem.W.findIn K (.ref C) "__getattr__" == some none)&&(PySem.W.findIn K (.ref C) "__class__" == some (some (.builtin "object.__class__")))&&
 (PySem.W.specialIn K (.builtin "object.__class__") "__get__" == some (some (.builtin "getset_descriptor.__get__")))&&(PySem.W.takesIn K (.builtin "object.__class__")==some true)&&(PySem.W.mroIn K C (.type "object")==some true)&&(PySem.W.mroIn K C (.type "BaseException")==some true)
section
variable {A:Around}{c:Value}{b:Bool}{ea C:Addr}
def fL {o:Obj}{u:HO}(I:Inv X pins σ H s)(e:H ea=some (.frz o u))(d:o.cls=.ref C)(k:K0 X.K C=true)(q:kitOne X.K (.ref C) c=some b)(h:∀tk,Q (.bool b) { s with toks:=tk }):
  wpAny (model X.prog X.w) A (call (.builtin "isinstance") [.ref ea,c]) Q E s:=by
 have p:G6 ea C s.heap:=⟨o,(show jk X.prog X.w H s.heap ea (.frz o u) from I.hok ea _ e).1,d⟩
 unfold K0 at k;simp only[ak,aM]at k;obtain⟨⟨⟨⟨⟨⟨⟨k1,k2⟩,a⟩,k3⟩,i⟩,k5⟩,g⟩,f⟩:=k;exact bF (DN k1 k2 a k3 i k5 g f) I.kIn p q (λz=>nomatch z) h
def fM (I:Inv X pins σ H s)(q:kitOne X.K (.type "NoneType") c=some b)(h:∀tk,Q (.bool b) { s with toks:=tk }):wpAny (model X.prog X.w) A (call (.builtin "isinstance") [.none,c]) Q E s:=
 PM I (x:=.non) rfl .non q h
end
def Z6 (P:Program)(w:World)(K:Frag)(mg:b8)(base:Heap)(N:bV)(qual:Str)(scope:Scope)(f:Addr)(cd:Value)(cl:cb)(A:Around)(outer:b9)(s:Shared)(H:Hp)(E:XK):Cx where
 prog:=P
 w:=w
 K:=K
 mg:=mg
 base:=base
 A:=A.deeper (envX qual scope s.heap.objs.size f cd cl)
 N:=N
 s0:=s
 H0:=H
 env:=envX qual scope s.heap.objs.size f cd cl
 outer:=outer
 stack:=envX qual scope s.heap.objs.size f cd cl::outer
 ex:=[]
 calm:=true
 fn:=λ_=>false
 pn:=[]
 xe:=λe s'=>wpAny (model P w) (A.deeper (envX qual scope s.heap.objs.size f cd cl)) (leaving (envX qual scope s.heap.objs.size f cd cl) e) (λ_ S=>gY P w outer H s E e S) (λa S=>gY P w outer H s E a S) s'
section
variable {K:Frag}{cd:Value}{cl:cb}{A:Around}{outer:b9}{E:XK}
def Ed {h:Hp}{a C:Addr}(I:Inv (Z6 P w K mg base N qual scope f cd cl A outer s H E) pins σ h s')(x:gC h s'.heap s.heap a (.ref C))(y:E (.ref C) none h):
  (Z6 P w K mg base N qual scope f cd cl A outer s H E).xe (.ref a) s':=by
 have bs:Un (qV outer) [] H h s.heap s'.heap:=I.base;have stk:∀b∈qV (envX qual scope s.heap.objs.size f cd cl::outer),h b=none:=I.stkFree;have p:s.heap.get? s.heap.objs.size=none:=Heap.get?_none_of_le (av _);have g:(envX qual scope s.heap.objs.size f cd cl).frame=some s.heap.objs.size:=rfl;have mem:∀b,b∈qV (envX qual scope s.heap.objs.size f cd cl::outer)↔b=s.heap.objs.size∨b∈qV outer:=λb=>by
  unfold qV;rw[bh,g];exact mem_cons
 show wpAny (model P w) (A.deeper (envX qual scope s.heap.objs.size f cd cl)) (leaving (envX qual scope s.heap.objs.size f cd cl) (.ref a)) _ _ s';refine NJ (base:=base) (L:=s.heap.objs.size) I.ok.frames rfl I.stack x (λb u e=>(I.hok b u e).obj) (λb o e=>bs.there b o e (by simp)) λh' k1 k2 X t=>?_
 have r:∀b u,h b=some u->b∉qV (envX qual scope s.heap.objs.size f cd cl::outer):=λb u e hm=>by rw[stk b hm]at e;cases e
 refine⟨a,C,h,rfl,I.os,I.bare,⟨λb o e n nb _=>?_,λb o e n mb _=>?_,λb o e n d=>bs.free b o e n d,λb o e d=>?_,bs.tups,bs.frzs,bs.tbls⟩,λb u e=>?_,X,t,y⟩
 ·have i:b≠s.heap.objs.size:=λz=>by rw[z,p]at e;cases e
  exact k1 b o (bs.keep b o e n nb (by simp)) (λhm=>(mem b).mp hm |>.elim i nb) (.inl ⟨o,e⟩)
 ·obtain⟨l,q⟩:=bs.slot b o e n mb (by simp)
  obtain⟨S,Q⟩:=k2 b _ q ((mem b).mpr (.inr mb));exact⟨S,Q⟩
 ·obtain⟨o',q⟩:=bs.there b o e d
  by_cases hm:b∈qV (envX qual scope s.heap.objs.size f cd cl::outer)
  ·obtain⟨l,z⟩:=k2 b o' q hm;exact⟨_,z⟩
  ·exact⟨o',k1 b o' q hm (.inl ⟨o,e⟩)⟩
 ·refine(I.hok b u e).stay (λc v j q=>?_) (λ_ q=>q) λ_ _ q=>q
  rcases j with z|z
  ·rw[z]at q ⊢;exact k1 b v q (r b u e) (.inr ⟨u,e⟩)
  ·exact k1 c v q (r c _ z) (.inr ⟨_,z⟩)
def fN:Zo (Z6 P w K mg base N qual scope f cd cl A outer s H E) s.heap (ZD K E) where
 th:=λpins σ h s' I b o e=>(show Un (qV outer) [] H h s.heap s'.heap from I.base).there b o e (by simp)
 out:=λpins σ h s' d C x I l c a=>Ed I l (a C c)
structure Uc (N:bV)(sc:Scope):Prop where
 kind:sc.kind=.function
 co:sc.isCoroutine=false
 gen:sc.isGenerator=false
 nocell:∀y∈sc.names,y.2≠.cell
structure GB (base:Heap)(N:bV)(scope:Scope)(cl:cb)(vs:List V):Prop where
 len:vs.length=N.length
 inj:∀x y c,cl.lookup x=some c->cl.lookup y=some c->x=y
 has:∀x,scope.names.lookup x=some .free->∃c,cl.lookup x=some c
 cell:∀x c,cl.lookup x=some c->∃v,base.IsCell c v
 val:∀(i:Nat)(x:Str)(v:V),N[i]? =some x->vs[i]? =some v->∃c u,scope.names.lookup x=some .free/\cl.lookup x=some c/\base.IsCell c (some u)/\RelV v u
def Bq {vs:List V}{l:Heap}{tk:Tok}(S:Uc N scope)(hd:A.handled=none)(g:YY P w K mg base A outer s H)(C:GB base N scope cl vs)(q:∃m,l.Ns s.heap.objs.size m)(t:∀b o,s.heap.get? b=some o->l.get? b=some o):
  Inv (Z6 P w K mg base N qual scope f cd cl A outer s H E) [] (L2.start N vs) H { s with heap:=l,toks:=tk }:=by
 have n:∀b:Addr,b∉(Z6 P w K mg base N qual scope f cd cl A outer s H E).ex:=λb z=>absurd (show b∈([]:bS) from z) (by simp)
 have bk:∀c v,base.IsCell c v->l.IsCell c v/\H c=none:=λc v ⟨o,x,hd⟩=>⟨⟨o,t _ _ (g.bs _ _ x).1,hd⟩,(g.bs _ _ x).2⟩;obtain⟨m,hm⟩:=q;refine⟨⟨g.mod,S.kind,rfl,rfl,av _,C.inj,λy j=>?_,λy c z _=>(nomatch z),λ_=>hd,Around.frames_deeper g.frames,.inr ⟨rfl,rfl⟩,λb z=>absurd z (n b),g.bs,g.bsz,λb _ _=>n b,λb z=>absurd z (n b),g.funs,g.frf⟩,
  rfl,g.bare,Un.kept t,⟨m,hm,λi y v l d I=>?_⟩,λy c h=>?_,g.hok.fresh (av _),λy c h=>?_,λp B=>absurd (show p∈([]:bT) from B) (by simp),g.hok.kept t,?_⟩
 ·have j:scope.names.lookup y=some .cell∨scope.names.lookup y=some .free:=j
  rcases j with j|j
  ·exact absurd rfl (S.nocell _ (PySem.mem_of_lookup j))
  ·exact C.has y j
 ·have hi:i<vs.length:=by
   unfold L2.start at d
   by_cases hi:i<vs.length
   ·exact hi
   ·rw[ay (by simpa using hi)]at d
    rw[bA]at d
    split at d<;>cases d
  have D:vs[i]? =some v:=by
   unfold L2.start at d;rw[ai (by simpa using hi),aw]at d
   cases e:vs[i]? with
   |none=>rw[e]at d;cases d|some a=>rw[e]at d;cases d;rfl
  obtain⟨c,u,k,e,z,r⟩:=C.val i y v l D;exact⟨u,r,.inr ⟨.inr k,c,e,(bk _ _ z).1⟩⟩
 ·obtain⟨v,z⟩:=C.cell y c h
  exact⟨v,(bk _ _ z).1⟩
 ·obtain⟨v,z⟩:=C.cell y c h
  exact(bk _ _ z).2
 ·unfold L2.start
  show _=N.length;rw[aq,ag,bG,C.len];omega
def Nv (o:Obj)(q:Str):Prop:=∃vs t,o.data=.fields vs/\vs[1]? =some (.str q t)
def fO {k:Nat}{name:Str}{params:Arguments}{body:Expr}{pm ctv:Value}{i:Obj}{u uc:HO}{vs:List V}{m:Ev}(S:Uc N scope)(C:GB base N scope cl vs)(p:Nv i qual)
  (g:∀(A:Around)(outer:b9)(s:Shared)(H:Hp)(E:XK),jQ k (A.deeper (envX qual scope s.heap.objs.size a (.ref c) cl))->Zo (Z6 P w K mg base N qual scope a (.ref c) cl A outer s H E) s.heap (ZD K E)->
   SE (Z6 P w K mg base N qual scope a (.ref c) cl A outer s H E) (ZD K E) body m):
  kh P w K mg base (gY P w) (k+1) a (kla_fn name qual params body scope cl pm (.ref c) ctv) [] (λus H Q E=>us=[]/\H a=some (.frz (kla_obj name qual params body scope cl pm c ctv) u)/\H c=some (.frz i uc)/\
   ∃φ A ws,zT K φ A H/\zK K φ H ws vs/\(m (ws.map some) A).post (PB K φ H Q) (EB K φ H (ZD K E))):=by
 refine⟨λus H Q E h=>by rw[h.1];rfl,λA outer s H args us D Q E n l hb r h=>?_⟩
 obtain⟨rfl,h1,h2,φ,A1,ws,Sm,B,Y⟩:=h;cases r;have Z:s.heap.get? a=some (kla_obj name qual params body scope cl pm c ctv):=(show jk P w H s.heap a (.frz _ u) from l.hok a _ h1).1
 have hc:s.heap.get? c=some i:=(show jk P w H s.heap c (.frz i uc) from l.hok c _ h2).1
 have lim:s.heap.NoLimit:=l.mod.nolimit.keeps λb o e=>(l.bs b o e).1;obtain⟨L,T,z,hd2⟩:=p;refine PySem.W.kla_callFunE n.depth Z rfl S.co S.gen rfl ⟨c,i,L,T,rfl,hc,z,hd2⟩ (hb _ _ _ _ ?_);refine wpAny_newFunctionEnv S.nocell (λy U=>absurd (show y∈([]:List (Str×Value)) from U) (by simp)) (λd t j=>⟨lim.fresh _ j,?_⟩) S.kind
 show codeAny _ _ (.expr body (envX qual scope s.heap.objs.size a (.ref c) cl)) _ _;have f:∀b o,s.heap.get? b=some o->d.get? b=some o:=λb o e=>j.extBut b o (aK (aH e)) (af _ e);have I:∀tk,Inv (Z6 P w K mg base N qual scope a (.ref c) cl A outer s H E) [] (L2.start N vs) H { s with heap:=d,toks:=tk }:=λtk=>Bq S n.hd l C ⟨_,t⟩ f
 refine PySem.W.kla_codeExpr (wpAny_mono (g A outer s H E (n.deeper _) fN [] _ (L2.start N vs) H Q (I _) ⟨φ,A1,_,Sm,RE.start (N:=N) B,?_⟩) (λv s' X=>?_) λ_ _ y=>y)
 ·have:N.length-ws.length=0:=by rw[B.length,C.len];omega
  rw[this,List.replicate_zero,bH];exact Y
 ·obtain⟨x,H',J,M,q⟩:=X
  exact⟨x,H',J.os,J.bare,J.base,J.hok,M,q⟩
end
inductive zcK (K:Frag)(a:Addr)(ob:Obj)(u:HO)(c:Addr)(oc:Obj)(uc:HO)(vs:List V)(g:Fn)(us:List V)(H:Hp)(Q:VK)(E:XK):Prop
 |mk (e:us=[]) (h1:H a=some (.frz ob u)) (h2:H c=some (.frz oc uc)) (φ:bS) (A:Hx) (ws:List W) (S:zT K φ A H) (r:zK K φ H ws vs) (q:(g ws A).post (PB K φ H Q) (EB K φ H (ZD K E)))
def JM (P:Program)(w:World)(K:Frag)(mg:b8)(base:Heap)(j:Nat)(p:Obj->Addr->Obj->List V->Prop)(g:Fn):Prop:=
 ∀a ob u c o uc vs,p ob c o vs->(∃fd,ob.data=.func fd)/\∃fd,kh P w K mg base (gY P w) j a fd [] (zcK K a ob u c o uc vs g)/\∀s,BindsTo s fd ⟨[],[]⟩ []
open Classical in
noncomputable def Xo (i:Nat)(PG:Nat->Obj->Addr->Obj->List V->Prop)(lam:Nat->Fn):Ev:=λρ A=>match ρ[i]? with
 |some (some (.clo k ws P))=>if P=PG k then lam k ws A else .bad|_=>.bad
def Wo (i j l:Nat)(cs:bV)(PG:Nat->Obj->Addr->Obj->List V->Prop)(lam:Nat->Fn):Ex:=λρ A=>match Xo i PG lam ρ A with
 |.ok _ A1=>.ok (.nx ρ) A1|.exc x A1=>if cs.contains x then .ok (.nx (((ρ.set l (some (.xc x))).set j (some (.xc x))).set l none)) A1 else .bad|.bad=>.bad
section
variable {K:Frag}
def RE.unset (r:RE K φ H ρ σ):RE K φ H (ρ.set i none) (σ.set i none):=
 ⟨by simp[r.len],λj u e=>by
  by_cases h:i=j
  ·subst h
   have hi:i < ρ.length:=by
    have:=(cq.mp e).1
    simpa using this
   rw[aL hi]at e;cases e
  ·rw[aI h]at e
   obtain⟨x,b,a⟩:=r.get j u e;exact⟨x,by rw[aI h];exact b,a⟩⟩
end
def Mk (K:Frag)(φ:bS)(H:Hp)(ρ:En)(j l:Nat)(D:Ends)(x:Str)(A:Hx):Prop:=∀a h b,Le K φ H a h->zT K a A h->RE K a h (((ρ.set l (some (.xc x))).set j (some (.xc x))).set l none) b->D.nx b h
inductive zec (K:Frag)(φ:bS)(H:Hp)(ρ:En)(j l:Nat)(D0:Ends)(ea C:Addr)(H':Hp):Prop
 |mk (xn:Str) (φ':bS) (A':Hx) (le:Le K φ H φ' H') (S:zT K φ' A' H') (rv:RV K φ' H' (.xc xn) (.ref ea)) (n:Mk K φ H ρ j l D0 xn A')
inductive zdY (K:Frag)(φ:bS)(H:Hp)(ρ:En)(j l:Nat)(D0:Ends)(cs:bV)(Cv:Value)(d:cf)(H1:Hp):Prop
 |mk (xn:Str) (Ca:Addr) (e:Cv=.ref Ca) (hC:ku K xn (.ref Ca)) (hc:cs.contains xn=true) (φ1:bS) (A1:Hx) (le:Le K φ H φ1 H1) (S:zT K φ1 A1 H1) (n:Mk K φ H ρ j l D0 xn A1)
def Mp (K:Frag)(f:Str->Option Bool)(cv:V):List V->Hp->VK->Prop:=λxs H Q=>∃x,xs=[x,cv]/\((x=.non/\Q (.bl false) H)∨∃a o u C nm b,x=.ref a/\H a=some (.frz o u)/\o.cls=.ref C/\ku K nm (.ref C)/\f nm=some b/\Q (.bl b) H)
structure K9 (K:Frag)(f:Str->Option Bool)(c:Value):Prop where
 non:kitOne K (.type "NoneType") c=some false
 exc:∀nm C b,f nm=some b->ku K nm (.ref C)->K0 K C=true/\kitOne K (.ref C) c=some b
def jl (f:Str->Option Bool)(m:Ev):Ev:=λρ A=>(m ρ A).bind λw A1=>match w with
 |.non=>.ok (.bl false) A1|.xc nm=>(match f nm with
  |some b=>.ok (.bl b) A1|none=>.bad)
 |_=>.bad
section
variable {m:Ev}{f:Str->Option Bool}
def OL {cv:V}{c:Value}(g:K9 X.K f c)(rc:∀u,RelV cv u->u=c):yc X (.builtin "isinstance") (Mp X.K f cv):=by
 intro pins s σ H xs us Q I r h;obtain⟨x,rfl,h⟩:=h;obtain⟨u,o,rfl,e,d⟩:=vals2 r;cases rc _ d;rcases h with ⟨rfl,q⟩|⟨a,p,U,C,nm,b,rfl,n,l,j,i,q⟩
 ·cases (show u=Value.none from e)
  exact fM I g.non λtk=>⟨.bl false,H,I.tok tk,rfl,q⟩
 ·cases (show u=Value.ref a from e)
  obtain⟨k1,k2⟩:=g.exc nm C b i j;exact fL I n l k1 k2 λtk=>⟨.bl b,H,I.tok tk,rfl,q⟩
def jl.read {cv:V}{t:TE}(i:∀σ H Q,Q cv H->t σ H Q):∀σ H Q,tM X.K xr (jl f m) σ H Q->WC (Mp X.K f cv) (Xn (tM X.K xr m) (Xn t Tz)) σ H Q:=by
 rintro σ H Q ⟨φ,A,ρ,S,re,h⟩
 refine tM.go S re (qf.mp h) λw A1 d H1 v c l s q=>?_;refine i σ H1 _ ?_;cases w with
 |non=>
  obtain rfl:=q;exact⟨.non,rfl,.inl ⟨rfl,c d H1 _ l s rfl⟩⟩
 |xc nm=>
  dsimp only at c;cases e:f nm with
  |none=>rw[e]at c;exact c.elim|some b=>
   rw[e]at c;obtain⟨a,o,u,C,rfl,g,Z,z⟩:=q;exact⟨.ref a,rfl,.inr ⟨a,o,u,C,nm,b,rfl,g,Z,z,e,c d H1 _ l s rfl⟩⟩
 |bl _=>exact c.elim|int _=>exact c.elim|str _=>exact c.elim|tup _=>exact c.elim|ref _=>exact c.elim|clo _ _ _=>exact c.elim
end
def IC {a b:Int}{c cv:Value}(l:bR)(h:TriplesOk l)(e:codeAmong pos (l++[rawInt a,rawInt b,c])=some cv):codeAmong pos l=some cv∨cv=c:=by
 fun_induction TriplesOk l with
 |case1=>
  right
  simp only[nil_append,codeAmong,rawInt]at e
  split at e
  ·exact(aD e).symm
  ·cases e
 |case2 A t B u x rest i=>
  simp only[List.cons_append,codeAmong]at e ⊢
  split at e
  ·rename_i H;rw[ah H];exact .inl e
  ·rename_i H;rw[ar H];exact i h e
 |case3 l f d=>exact h.elim
def BMain (mg:b8)(base:Heap):Prop:=∃bm o,mg "__builtins__"=some (.ref bm)/\bm≠builtinsNs/\bm≠mainGlobals/\base.get? bm=some o/\o.cls=.type "module" /\ o.dict=some builtinsNs/\o.data=.plain
noncomputable def Xp (q:Str)(params:Arguments)(body:Expr)(scope:Scope)(C:cb):Obj->Addr->Obj->List V->Prop:=λob c o _=>(∃pm ctv,ob=kla_obj "<lambda>" q params body scope C pm c ctv)/\Nv o q
noncomputable def kD (n:Nat)(q:Str)(P:Addr)(k:Nat)(PF:Obj->Addr->Obj->List V->Prop):Ev:=λ_ A=>match A[n]? with
 |some (.tab Q P')=>if Q=q/\P'=P then .ok (.clo k [] PF) A else .bad|_=>.bad
section
variable {k:Nat}{q:Str}{P:Addr}{params:Arguments}{body:Expr}{clos:cb}
def fP (hB:BMain X.mg X.base)(y:X.env.code=.ref c)(C:CodeHd X.base c P)(hcl:closureFor scope X.env=pure clos)(hq:X.env.qual ++ "<lambda>"=q)(hdef:defaultsOf params X.env=([],[]):=by rfl):
  SE X xr (.Lambda params body scope pos) (kD n q P k (Xp q params body scope clos)):=by
 intro pins s σ H Q I ⟨φ,A,ρ,S,re,h⟩;unfold kD at h;cases Z:A[n]? with
 |none=>rw[Z]at h;exact h.elim|some o=>
  rw[Z]at h;cases o with
  |tab L P'=>
   dsimp only at h
   by_cases hc:L=q/\P'=P
   ·rw[ah hc]at h
    obtain⟨rfl,rfl⟩:=hc;obtain⟨a,ha,eaP,ps,t,Y⟩:=S.ob n _ Z;subst eaP;have hP:s.heap.get? a=some (tabObj ps):=(show jk X.prog X.w H s.heap a (.tbl ps) from I.hok a _ t)
    have hg:s.heap.Ns mainGlobals X.mg:=I.mod.glob.keeps I.bk;have hgP:mainGlobals≠a:=λz=>by
     obtain⟨o,es,ep,e,hd,_⟩:=hg;rw[z,hP]at e;cases e;cases hd
    have r:s.heap.BuiltinsAt X.mg a:=by
     obtain⟨bm,o,b1,b2,b3,b4,b5⟩:=hB;refine⟨bm,o,b1,b2,b3,λz=>?_,I.bk _ _ b4,b5⟩
     have:=(I.bs _ _ b4).2
     rw[z,t]at this;cases this
    refine PySem.W.kla_eval hdef ?_;rw[hq];have M:∀b,s.heap.objs.size<=b->H b=none:=λb r=>I.hok.fresh r;cases hf:codeAmong pos ps.toList with
    |none=>
     refine PySem.W.kla_makeFunction (mg:=X.mg) hcl I.ok.glob hg y (C.keeps I.bk) hP Y.1 hf hgP r λf ctv h' tk hx x U hrec htb=>?_;obtain⟨c2,g,vc,tc,ec,hoc,D,hd2⟩:=hrec;cases ec;generalize j:kla_obj "<lambda>" L params body scope clos ((X.mg "__name__").getD .none) f ctv=ob;have hPc:a<s.heap.objs.size:=aH hP;have nPc:a≠f:=aK (aE hPc x);have nPf:a≠h'.objs.size:=aK (lt_trans (aE hPc x) U);have T:f≠h'.objs.size:=aK U;have hsf:s.heap.objs.size<=h'.objs.size:=bq x (bD U);have E:H f=none:=M f x;have l:H h'.objs.size=none:=M _ hsf;have H1f:upd H f (.frz g (.own 0)) h'.objs.size=none:=by rw[qv (Ne.symm T)];exact l
     generalize B:ps++#[rawInt pos.line,rawInt pos.col,.ref f]=p at htb;have S1:=S.lay (u:=.frz g (.own 0)) E;have S2:=S1.lay (u:=.frz ob (.own 0)) H1f;have fz:∀b o u,upd (upd H f (.frz g (.own 0))) h'.objs.size (.frz ob (.own 0)) b=some (.frz o u)->upd (upd (upd H f (.frz g (.own 0))) h'.objs.size (.frz ob (.own 0))) a (.tbl p) b=some (.frz o u):=λb o u e=>by
      rw[qv];exact e;intro z;rw[z,qv nPf,qv nPc,t]at e;cases e
     have fz0:∀b o u,H b=some (.frz o u)->upd (upd H f (.frz g (.own 0))) h'.objs.size (.frz ob (.own 0)) b=some (.frz o u):=λb o u e=>by
      rw[qv (kX e l),qv (kX e E)];exact e
     have tg':Wk (upd (upd (upd H f (.frz g (.own 0))) h'.objs.size (.frz ob (.own 0))) a (.tbl p)) L p:=by
      rw[<- B];refine⟨by rw[Array.toList_append];exact TriplesOk_snoc _ _ _ _ Y.1,λpos' cv e=>?_⟩
      rw[Array.toList_append]at e;rcases IC _ Y.1 e with e|e
      ·obtain⟨c0,oc0,u0,vs0,t0,g1,g2,g3⟩:=Y.2 pos' cv e
       exact⟨c0,oc0,u0,vs0,t0,g1,by rw[B];exact fz _ _ _ (fz0 _ _ _ g2),g3⟩
      ·exact⟨f,g,.own 0,vc,tc,e,by rw[B];exact fz _ _ _ (by rw[qv T,jN]),D,hd2⟩
     obtain⟨l3,S3⟩:=S2.write (o:=.tab L a) (o':=.tab L a) Z rfl rfl ha (u:=.tbl p) ⟨rfl,p,jN,tg'⟩;have l03:Le X.K φ H φ _:=((Le.new E).trans (Le.new H1f)).trans l3;have set3:A.set n (.tab L a)=A:=by
      apply ext_getElem?
      intro i
      by_cases hi:n=i
      ·subst hi
       rw[aL (cq.mp Z).1,Z]
      ·rw[aI hi]
     rw[set3]at S3;have eP:upd (upd (upd H f (.frz g (.own 0))) h'.objs.size (.frz ob (.own 0))) a (.tbl p) a=some (.tbl p):=jN;have ec:upd (upd (upd H f (.frz g (.own 0))) h'.objs.size (.frz ob (.own 0))) a (.tbl p) f=some (.frz g (.own 0)):=by rw[qv (Ne.symm nPc),qv T,jN]
     have ef:upd (upd (upd H f (.frz g (.own 0))) h'.objs.size (.frz ob (.own 0))) a (.tbl p) h'.objs.size=some (.frz ob (.own 0)):=by rw[qv (Ne.symm nPf),jN]
     have J:∀b,b≠a->b≠f->b≠h'.objs.size->upd (upd (upd H f (.frz g (.own 0))) h'.objs.size (.frz ob (.own 0))) a (.tbl p) b=H b:=λb n1 n2 n3=>by rw[qv n1,qv n3,qv n2]
     generalize upd (upd (upd H f (.frz g (.own 0))) h'.objs.size (.frz ob (.own 0))) a (.tbl p)=H3 at S3 l03 eP ec ef J;have kp:∀b o,b≠a->s.heap.get? b=some o->(h'.push ob).get? b=some o:=λb o n e=>af _ (hx b o n e);have old:∀b o,s.heap.get? b=some o->b≠f/\b≠h'.objs.size:=λb o e=>⟨aK (aE (aH e) x),aK (aE (aH e) hsf)⟩;have N:∀b u,H b=some u->b≠f/\b≠h'.objs.size:=λb u e=>⟨kX e E,kX e l⟩;have gP:(h'.push ob).get? a=some (tabObj p):=af _ htb;have I3:Inv X pins σ H3 { s with heap:=h'.push ob,toks:=tk }:=by
      refine I.un ⟨λb o e z r _=>?_,λb o e z r _=>?_,λb o e z _=>?_,λb o e _=>?_,λb xs e=>?_,λb o u e=>?_,λb qs e=>?_⟩ λb u e=>?_
      ·exact kp b o (λw=>by rw[w,t]at z;cases z) e
      ·exact⟨o.slots,kp b o (λw=>by rw[w,t]at z;cases z) e⟩
      ·rw[J b (λw=>by rw[w,t]at z;cases z) (old b o e).1 (old b o e).2];exact z
      ·by_cases r:b=a
       ·rw[r];exact⟨_,gP⟩
       ·exact⟨o,kp b o r e⟩
      ·rw[J b (YT e t (by intro w;cases w)) (N b _ e).1 (N b _ e).2];exact e
      ·rw[J b (YT e t (by intro w;cases w)) (N b _ e).1 (N b _ e).2];exact e
      ·by_cases r:b=a
       ·subst r
        rw[t]at e;cases e;exact⟨_,by rw[eP,<- B]⟩
       ·exact⟨#[],by rw[J b r (N b _ e).1 (N b _ e).2,e];simp⟩
      ·by_cases h1:b=a
       ·subst h1
        rw[eP]at e;cases e;exact gP
       ·by_cases h2:b=f
        ·subst h2
         rw[ec]at e;cases e;exact⟨af _ hoc,⟨_,af _ hoc⟩⟩
        ·by_cases h3:b=h'.objs.size
         ·subst h3
          rw[ef]at e;cases e;exact⟨au _ (by rw[<- j];rfl),⟨_,au _ (by rw[<- j];rfl)⟩⟩
         ·rw[J b h1 h2 h3]at e
          refine(I.hok b u e).stay (λd v hd z=>kp d v ?_ z) (λd z=>?_) λd xs z=>?_
          ·rcases hd with w|w
           ·rw[w];exact h1
           ·exact YT w t (by intro w;cases w)
          ·rw[J d (YT z t (by intro w;cases w)) (N d _ z).1 (N d _ z).2];exact z
          ·rw[J d (YT z t (by intro w;cases w)) (N d _ z).1 (N d _ z).2];exact z
     exact⟨.ref h'.objs.size,H3,I3,rfl,h φ H3 _ l03 S3 ⟨h'.objs.size,ob,.own 0,f,g,.own 0,[],rfl,ef,ec,⟨⟨_,_,j.symm⟩,vc,tc,D,hd2⟩,rfl⟩⟩
    |some cv=>
     obtain⟨f,g,u0,vc,tc,rfl,hHc,D,hd2⟩:=Y.2 pos cv hf;refine PySem.W.kla_makeFunctionHit (mg:=X.mg) hcl I.ok.glob hg y (C.keeps I.bk) hP Y.1 hf r λctv h' tk hx hsz=>?_;generalize j:({ cls:=.type "function",data:=.func (kla_fn "<lambda>" L params body scope clos ((X.mg "__name__").getD .none) (.ref f) ctv) }:Obj)=ob;have l:H h'.objs.size=none:=M _ hsz;have I3:Inv X pins σ (upd H h'.objs.size (.frz ob (.own 0))) { s with heap:=h'.push ob,toks:=tk }:=
      I.laid (λb o e=>af _ (hx b o e)) hsz ⟨au _ (by rw[<- j];rfl),⟨_,au _ (by rw[<- j];rfl)⟩⟩
     refine⟨.ref h'.objs.size,_,I3,rfl,h φ _ _ (Le.new l) (S.lay l) ⟨h'.objs.size,ob,.own 0,f,g,u0,[],rfl,jN,?_,⟨⟨_,_,j.symm⟩,vc,tc,D,hd2⟩,rfl⟩⟩;rw[qv (kX hHc l)];exact hHc
   ·rw[ar hc]at h;exact h.elim
  |_=>exact h.elim
end
structure Lm where
 N:bV
 idx:bU
 params:Arguments
 body:Expr
 scope:Scope
 m:Ev
noncomputable def Zq:List Nat->En->Option (List W)
 |[],_=>some []|j::J,ρ=>match ρ[j]?,Zq J ρ with
  |some (some w),some ws=>some (w::ws)|_,_=>none
noncomputable def Qt:List Nat->St->Option (List V)
 |[],_=>some []|j::J,σ=>match σ[j]?,Qt J σ with
  |some (some w),some ws=>some (w::ws)|_,_=>none
theorem P8 {K:Frag}(r:RE K φ H ρ σ):∀{J:bU}{ws:List W},Zq J ρ=some ws->∃vs,Qt J σ=some vs/\zK K φ H ws vs
 |[],ws,e=>by cases e;exact⟨[],rfl,.nil⟩|j::J,ws,e=>by
  unfold Zq at e;cases E:ρ[j]? with
  |none=>rw[E]at e;cases e|some o=>cases o with
   |none=>rw[E]at e;cases e|some w=>
    rw[E]at e;cases a:Zq J ρ with
    |none=>rw[a]at e;cases e|some b=>
     rw[a]at e;cases e;obtain⟨v,f,d⟩:=r.get j w E;obtain⟨vs,c,h⟩:=P8 r a;exact⟨v::vs,by unfold Qt;rw[f,c],.cons d h⟩
theorem OG:∀{J:bU}{vs:List V},Qt J σ=some vs->vs.length=J.length/\∀(i:Nat)(v:V),vs[i]? =some v->∃j,J[i]? =some j/\σ[j]? =some (some v)
 |[],vs,e=>by cases e;exact⟨rfl,λi v h=>by simp at h⟩|j::J,vs,e=>by
  unfold Qt at e;cases E:σ[j]? with
  |none=>rw[E]at e;cases e|some o=>cases o with
   |none=>rw[E]at e;cases e|some w=>
    rw[E]at e;cases r:Qt J σ with
    |none=>rw[r]at e;cases e|some c=>
     rw[r]at e;cases e;obtain⟨f,H⟩:=OG r;refine⟨by simp[f],λi v h=>?_⟩
     cases i with
     |zero=>simp at h;subst h;exact⟨j,by simp,E⟩|succ i=>simp at h;obtain⟨d,a,b⟩:=H i v h;exact⟨d,by simpa using a,b⟩
noncomputable def yS (ls:List Lm)(k:Nat):Fn:=λws A=>match ls[k]? with
 |some t=>t.m (ws.map some) A|none=>.bad
def gI (env:Env)(q:Str)(ls:List Lm)(k:Nat):Obj->Addr->Obj->List V->Prop:=λob c o vs=>∃t,ls[k]? =some t/\Xp q t.params t.body t.scope (wb env t.scope.names []) ob c o vs
def Y2 (env:Env)(q:Str)(ls:List Lm)(σ:St)(k:Nat):Obj->Addr->Obj->List V->Prop:=λob c o vs=>∃t,ls[k]? =some t/\Xp q t.params t.body t.scope (wb env t.scope.names []) ob c o vs/\Qt t.idx σ=some vs
structure ZX (P:Program)(w:World)(K:Frag)(mg:b8)(j:Nat)(q:Str)(t:Lm):Prop where
 sc:Uc t.N t.scope
 bind:∀(cl:cb)(pm cdv ctv:Value),bindArgs (kla_fn "<lambda>" q t.params t.body t.scope cl pm cdv ctv) ⟨[],[]⟩=pure []
 body:∀(base:Heap)(cl:cb)(a c:Addr)(A:Around)(outer:b9)(s:Shared)(H:Hp)(E:XK),jQ j (A.deeper (envX q t.scope s.heap.objs.size a (.ref c) cl))->Zo (Z6 P w K mg base t.N q t.scope a (.ref c) cl A outer s H E) s.heap (ZD K E)->
  SE (Z6 P w K mg base t.N q t.scope a (.ref c) cl A outer s H E) (ZD K E) t.body t.m
section
variable {K:Frag}{q:Str}{ls:List Lm}
def fQ (l:∀t∈ls,ZX P w K mg j q t)(f:∀t∈ls,∀vs,Qt t.idx σ=some vs->GB base t.N t.scope (wb env t.scope.names []) vs)(k:Nat):JM P w K mg base (j+1) (Y2 env q ls σ k) (yS ls k):=by
 rintro a ob u c o uc vs ⟨t,d,⟨⟨pm,ctv,rfl⟩,b⟩,v⟩
 have mt:t∈ls:=mem_of_getElem? d;have L:=l t mt;refine⟨⟨_,rfl⟩,_,((fO (name := "<lambda>") (params:=t.params) (body:=t.body) (pm:=pm) (ctv:=ctv) (a:=a) (c:=c) (u:=u) (uc:=uc) (m:=t.m) L.sc (f t mt vs v) b λA outer s H E e x=>L.body base _ a c A outer s H E e x)).imp λus H Q E h=>?_,λs=>.of_eq (L.bind _ _ _ _)⟩;obtain⟨n,i,g,φ,A,ws,S,r,h⟩:=h;refine⟨n,i,g,φ,A,ws,S,r,?_⟩;unfold yS at h;rw[d]at h;exact h
end
noncomputable abbrev j3:=Nat->Obj->Addr->Obj->List V->Prop
open Classical in
noncomputable def Jh (PG:j3)(RF:Nat->List W->Hx->R W):Fn:=λus A=>match us with
 |[.clo k ws P]=>if P=PG k then RF k ws A else .bad|_=>.bad
open Classical in
structure YW (X:Cx)(t:Lm):Prop where
 len:t.idx.length=t.N.length
 nm:∀(i:Nat)(x:Str)(j:Nat),t.N[i]? =some x->t.idx[i]? =some j->X.N[j]? =some x/\t.scope.names.lookup x=some .free
 free:∀y∈t.scope.names,y.2=.free->X.env.kindOf y.1=some .cell∨X.env.kindOf y.1=some .free
section
def Gr (I:Inv X pins σ H s){t:Lm}(L:YW X t)(h:(wb X.env t.scope.names []).lookup x=some c):X.env.cells.lookup x=some c:=by
 rcases Jt _ _ (PySem.mem_of_lookup h) with z|⟨z,e⟩
 ·cases z
 ·obtain⟨C,a⟩:=I.ok.has x (L.free _ z rfl)
  rw[a]at e ⊢;exact congrArg some e.symm
def DG (I:Inv X pins σ H s)(g:∀x c v,X.env.cells.lookup x=some c->s.heap.IsCell c v->base.IsCell c v){t:Lm}(L:YW X t){vs:List V}(n:Qt t.idx σ=some vs):GB base t.N t.scope (wb X.env t.scope.names []) vs:=by
 obtain⟨v1,v2⟩:=OG n;refine⟨v1.trans L.len,λx y c d b=>I.ok.inj x y c (Gr I L d) (Gr I L b),λx h=>?_,λx c h=>?_,λi x v d b=>?_⟩
 ·exact Option.isSome_iff_exists.mp (Gf _ _ (.inl (PySem.mem_of_lookup h)))
 ·have e:=Gr I L h
  obtain⟨v,z⟩:=I.cell x c e;exact⟨v,g x c v e z⟩
 ·obtain⟨j,w,q⟩:=v2 i v b
  obtain⟨p,E⟩:=L.nm i x j d w;have fr:=L.free _ (PySem.mem_of_lookup E) rfl;obtain⟨m,hn,o⟩:=I.loc;obtain⟨u,r,lk⟩:=o j x v p q (.inr fr);obtain⟨c,f⟩:=Option.isSome_iff_exists.mp (Gf (env:=X.env) t.scope.names [] (.inl (PySem.mem_of_lookup E)));have l:=Gr I L f;rcases lk with ⟨z,_⟩|⟨_,C,a,cell⟩
  ·exfalso
   rcases fr with k|k<;>(rw[k]at z;cases z)
  ·rw[l]at a
   cases a;exact⟨c,u,E,f,g x c _ l cell,r⟩
def fR (I:Inv X pins σ H s)(h:∀x,X.fn x=true)(e:X.env.cells.lookup x=some c):c∉qV X.stack:=λhm=>by
 rcases cn.mp (I.stkSub c hm) with z|z
 ·exact I.cne x c e z
 ·obtain⟨_,o,a,_⟩:=I.ok.funs.mem z
  exact absurd (aE (aH a) (I.ok.cab x c (h x) e)) (aT _)
noncomputable def ZV (base h:Heap)(cells:cb):Heap:=hideAll h ((List.range h.objs.size).filter λb=>(base.get? b).isNone&&!(cells.any λp=>cells.lookup p.1==some b))
def OD {o:Obj}(e:(ZV base h cells).get? b=some o):h.get? b=some o/\((∃o',base.get? b=some o')∨∃x,cells.lookup x=some b):=by
 have E:=of_hideAll _ e;refine⟨E,?_⟩
 by_cases hm:b∈(List.range h.objs.size).filter λb=>(base.get? b).isNone&&!(cells.any λp=>cells.lookup p.1==some b)
 ·unfold ZV at e
  rw[hideAll_none _ hm]at e;cases e
 ·rw[mem_filter]at hm
  have c:b∈List.range h.objs.size:=cu.mpr (aH E);cases g:base.get? b with
  |some o'=>exact .inl ⟨o',rfl⟩|none=>
   right
   by_cases H:(cells.any λp=>cells.lookup p.1==some b)=true
   ·obtain⟨p,_,a⟩:=List.any_eq_true.mp H
    exact⟨p.1,aM.mp a⟩
   ·exact absurd ⟨c,by rw[g];simpa using H⟩ hm
def FX (k:∀b o,base.get? b=some o->h.get? b=some o){o:Obj}(e:base.get? b=some o):(ZV base h cells).get? b=some o:=
 bK _ (k b o e) λhm=>by
  rw[mem_filter,e]at hm;simp at hm
def F0 {o:Obj}(l:cells.lookup x=some c)(e:h.get? c=some o):(ZV base h cells).get? c=some o:=
 bK _ e λhm=>by
  rw[mem_filter,ak,Bool.not_eq_true']at hm
  have:=hm.2.2
  rw[List.any_eq_false]at this;exact this _ (PySem.mem_of_lookup l) (by simpa using l)
end
def Dv {K:Frag}{mb:b8}{k:Nat}{Y:Addr}{sp:Sp}{S:Shared}{vs:bR}
  (KX:K.In S.heap)(y:S.heap.Ns mainGlobals mg)(c:S.heap.Ns builtinsNs mb)(T:∀x:Str,x ≠ "__name__" -> mb x=bootBuiltins x)(A:S.heap.NoLimit)(hg:S.gens=#[])
  (p:S.heap.get? a=some { cls:=.type "list",data:=.seq vs.toArray })(hi:IntsAre vs ns)(hl:ns.length<=sizeLine)(hr:jQ k callerA)
  (t:S.heap.get? Pt=some (tabObj #[]))(U:K.lookup Pt=none)(M:isCodeTable S.heap Pt)(Q:BMain mg S.heap)
  (F:∀base:Heap,K.In base->base.Ns mainGlobals mg->BMain mg base->kh P w K mg base g8 k Y fd [x] sp)(l:∀(s:Shared)(u:Value),BindsTo s fd ⟨[u],[]⟩ [(x,u)])
  (I:∀H:Hp,H Pt=some (.tbl #[])->Y8 K H a (ns.map V.int)->sp [.ref a] H (λv _=>v=.bl true) λ_ _ _=>False):
  codeAny (model P w) callerA (.call (.ref Y) ⟨[.ref a],[]⟩) (λr s'=>r=.ok (.ret (.bool true))/\OldK S.heap s'.heap/\s'.os=S.os/\AllBare s'.gens) S:=by
 have rv:=KC hi;have L:=hi.length;have j:a≠Pt:=λz=>by rw[z,t]at p;cases p
 have core:∀H:Hp,H Pt=some (.tbl #[])->Y8 K H a (ns.map V.int)->jZ P w H S.heap->(∀b,H b≠none->b=a∨b=Pt)->(∀u,H a=some u->K.lookup a=none/\∃o xs,u=.frz o (.lst xs))->
   codeAny (model P w) callerA (.call (.ref Y) ⟨[.ref a],[]⟩) (λr s'=>r=.ok (.ret (.bool true))/\OldK S.heap s'.heap/\s'.os=S.os/\AllBare s'.gens) S:=by
  intro H hO hS hok D hK;have base_of:∀{b:Addr}{o:Obj},S.heap.get? b=some o->H b=none->(Z1 S.heap H).get? b=some o:=λe n=>CT e n;have E:∀{b:Addr}{o:Obj}{es:Array DictEntry}{ep:Nat},S.heap.get? b=some o->o.data=.dict es ep->H b=none:=λ {b o es ep} e d=>by
   cases q:H b with
   |none=>rfl|some u=>
    rcases D b (by rw[q];simp) with z|z
    ·subst z
     rw[p]at e;cases e;have d':Data.seq vs.toArray _=Data.dict es ep:=d;cases d'
    ·subst z
     rw[t]at e;cases e;cases d
  have N:∀{b:Addr}{m:b8},S.heap.Ns b m->(Z1 S.heap H).Ns b m:=λ {b m} ⟨o,es,ep,e,d,r⟩=>⟨o,es,ep,base_of e (E e d),d,r⟩;have B:K.In (Z1 S.heap H):=λb o e=>base_of (KX b o e) (by
   cases q:H b with
   |none=>rfl|some u=>
    rcases D b (by rw[q];simp) with z|z
    ·subst z
     rw[(hK u q).1]at e;cases e
    ·subst z
     rw[U]at e;cases e)
  have X:BMain mg (Z1 S.heap H):=by
   obtain⟨bm,o,b1,b2,b3,C,b5,b6,b7⟩:=Q;refine⟨bm,o,b1,b2,b3,base_of C ?_,b5,b6,b7⟩;cases q:H bm with
   |none=>rfl|some u=>
    rcases D bm (by rw[q];simp) with z|z
    ·subst z
     rw[p]at C;cases C;exact absurd b5 (by intro q;injection q with q;exact absurd q (by decide))
    ·subst z
     rw[t]at C;cases C;cases b5
  have hM:Mod K mg (Z1 S.heap H):=⟨B,N y,⟨mb,N c,T⟩,let ⟨mc,h1,h2⟩:=A;⟨mc,N h1,h2⟩⟩
  have e0:YY P w K mg (Z1 S.heap H) callerA [] S H:=⟨rfl,hM,λb o e=>BB e,Nat.le_of_eq (Dx _ _),trivial,λb c=>absurd (show b∈([]:bS) from c) (by simp),hok,.of_eq hg⟩
  refine codeAny_mono ((F _ B (N y) X).run callerA [] S H ⟨[.ref a],[]⟩ [.ref a] [.ref a] _ _ hr e0 (l S (.ref a)) (.cons rfl .nil) (I H hO hS)) λr s' h=>?_;cases r with
  |error e=>exact False.elim h|ok fl=>
   cases fl with
   |next=>exact False.elim h|brk=>exact False.elim h|cont=>exact False.elim h|ret u=>
    obtain⟨v,H',os,bare,un,g,r',q⟩:=h;have q':v=.bl true:=q;subst q';obtain rfl:u=Value.bool true:=r';refine⟨rfl,⟨λb o e=>?_,λb o e=>un.there b o e (by simp)⟩,os,bare⟩
    cases q:H b with
    |none=>exact .inl (un.keep b o e q (by intro z;exact absurd (show b∈([]:bS) from z) (by simp)) (by simp))|some u=>
     rcases D b (by rw[q];simp) with z|z
     ·subst z
      obtain⟨ob,xs,rfl⟩:=(hK u q).2;have i:=un.frzs _ ob _ q;obtain⟨e1,_⟩:=hok _ _ q;obtain⟨e2,_⟩:=g _ _ i;rw[e]at e1;cases e1;exact .inl e2
     ·subst z
      rw[t]at e;cases e;obtain⟨more,i⟩:=un.tbls _ _ hO;exact .inr (.inl ⟨M,rfl,#[],more,rfl,g _ _ i⟩)
 cases J:K.lookup a with
 |some o=>
  have e:=KX a o J;rw[p]at e;cases e;refine core (λb=>if b=Pt then some (.tbl #[]) else none) (ah rfl) (.inr ⟨_,vs.toArray,_,J,rfl,rfl,rfl,by rw[aC,L];exact hl,by simpa using rv⟩) (λb u z=>?_) (λb z=>?_) λu z=>?_
  ·by_cases c:b=Pt
   ·have Z:=(ah c).symm.trans z
    cases Z;rw[c];exact t
   ·have Z:=(ar c).symm.trans z
    cases Z
  ·by_cases c:b=Pt
   ·exact .inr c
   ·exact absurd (ar c) z
  ·have Z:=(ar j).symm.trans z
   cases Z
 |none=>
  refine core (λb=>if b=Pt then some (.tbl #[]) else if b=a then some (.frz { cls:=.type "list",data:=.seq vs.toArray } (.lst (ns.map V.int))) else none) (ah rfl)
   (.inl ⟨{ cls:=.type "list",data:=.seq vs.toArray },(ar j).trans (ah rfl)⟩) (λb u z=>?_) (λb z=>?_) λu z=>?_
  ·by_cases c:b=Pt
   ·have Z:=(ah c).symm.trans z
    cases Z;rw[c];exact t
   ·have Z:=(ar c).symm.trans z
    by_cases f:b=a
    ·have i:=(ah f).symm.trans Z
     cases i;subst f;exact⟨p,by rw[ag];exact hl,vs,_,rv,p⟩
    ·have i:=(ar f).symm.trans Z
     cases i
  ·by_cases c:b=Pt
   ·exact .inr c
   ·by_cases f:b=a
    ·exact .inl f
    ·exact absurd ((ar c).trans (ar f)) z
  ·have Z:=((ar j).trans (ah rfl)).symm.trans z
   cases Z;exact⟨J,_,_,rfl⟩
inductive spT (K:Frag)(n:Nat)(fs:j3->Fn)(vs:List V)(H:Hp)(Q:VK)(E:XK):Prop
 |mk (len:vs.length=n) (φ:bS) (A:Hx) (ws:List W) (S:zT K φ A H) (r:zK K φ H ws vs) (q:∀PF,(fs PF ws A).post (PB K φ H Q) (EB K φ H (XE K E)))
def spT.len {K:Frag}{fs:j3->Fn}{vs:List V}{Q:VK}{E:XK}(h:spT K n fs vs H Q E):vs.length=n:=by cases h;assumption
def Nl (q:Str)(fs:Addr->j3->Fn):Prop:=∀ns:bQ,ns.length<=63->∀P PF,∃A,fs P PF [.ref 0] [.ro (ns.map W.int),.tab q P]=.ok (.bl true) A
def F2 {K:Frag}{q:Str}(P:H Pt=some (.tbl #[]))(S:Y8 K H a (ns.map V.int)):zT K [a,Pt] [.ro (ns.map W.int),.tab q Pt] H:=by
 refine⟨rfl,λi j b o o' g f d c m1 m2=>?_,λn o h=>?_⟩
 ·match i,j,d,c with
  |0,_,d,_=>simp at d;subst d;cases m1|_,0,_,c=>simp at c;subst c;cases m2|1,1,_,_=>rfl|i+2,_,d,_=>simp at d|_,j+2,_,c=>simp at c
 ·match n,h with
  |0,h=>simp at h;subst h;exact⟨a,rfl,ns.map V.int,S,zK.ints.mpr rfl⟩|1,h=>simp at h;subst h;exact⟨Pt,rfl,rfl,#[],P,trivial,λpos cv e=>nomatch e⟩
  |n+2,h=>simp at h
section
variable {K:Frag}
def CQ {a:Value}{o:cf}(hn:nsIn K mainGlobals x=some (some (.ref f)))(lk:K.lookup f=some ⟨a,o,.func fd,osl⟩)(h:tabIn K x=some (c,Pt)):fd.code=.ref c:=by
 unfold tabIn at h;rw[hn]at h;dsimp only at h;rw[lk]at h;dsimp only at h
 split at h
 ·rename_i C H
  split at h
  ·split at h
   ·cases h;exact H
   ·cases h
  ·cases h
 ·cases h
end
noncomputable def UN (K:Frag)(x:Str)(p:Addr):Bool:=match tabIn K x with
 |some (c,P)=>P==p&&codeHdIn K c p|none=>false
def PN {K:Frag}(h:UN K x Pt=true):∃c,tabIn K x=some (c,Pt)/\codeHdIn K c Pt=true:=by
 unfold UN at h
 split at h
 ·rename_i c P e
  rw[ak,aM]at h;obtain⟨rfl,H⟩:=h;exact⟨c,e,H⟩
 ·cases h
def zc0 {l:PySem.W.OpenLaw}{k:Nat}{q:Program}{loose:bV}{I:World->Heap->Prop}{d:DefRec}{Kp:Params->Frag}{Q:Str}{fs:Addr->j3->Fn}(ok:Nl Q fs)
  (hn:l.most=some 63)(y:d.params.defaults=[])(X:jQ k callerA)(hY:∀(w:World)(h:Heap),I w h->(Kp w.params).In h)(hT:∀(w:World)(h:Heap),I w h->h.get? Pt=some (tabObj #[]))(L:∀p,UN (Kp p) d.name Pt=true)(P:∀p,(Kp p).lookup Pt=none)
  (F:∀(w:World)(mg:b8)(i:Addr)(h:Heap),(Kp w.params).In h->h.Ns mainGlobals mg->mg d.name=some (.ref i)->(∃c,tabIn (Kp w.params) d.name=some (c,Pt)/\codeHdIn (Kp w.params) c Pt=true)->
   ∃fd:FuncData,(∀(s:Shared)(u:Value),BindsTo s fd ⟨[u],[]⟩ [(x,u)])/\∀base:Heap,(Kp w.params).In base->base.Ns mainGlobals mg->BMain mg base->kh l.prog w (Kp w.params) mg base g8 k i fd [x] (spT (Kp w.params) 1 (fs Pt))):
  PySem.W.WalkO q loose XP I l.row.toRowW d [] (λf vs=>PySem.call f vs):=by
 refine Att.HF (n:=63) hn y λw J S mg mb i o pm cd doc a vs ns G Y ho hd M t j hints hlen Z=>?_;have K:=hY w _ Y;obtain⟨fd,hb,hF⟩:=F w mg i _ K G.T.g t (PN (L w.params));obtain⟨c,_,B⟩:=PN (L w.params);have N:=hT w _ Y;have hc:isCodeTable S.heap Pt:=((codeHd_of_K K B).tab N).isCodeTable;have C:BMain mg S.heap:=by
  obtain⟨bm,ob,b1,b2,E,b4,b5,D⟩:=G.T.bmain;refine⟨bm,ob,b1,b2,λz=>?_,E,b4,b5,D⟩;obtain⟨o,es,ep,e,hd,_⟩:=G.T.g;rw[z,e]at E;cases E;rw[hd]at D;cases D
 refine Dv K G.T.g G.T.b G.T.builtins G.T.nolimit Z j hints (bq hlen (by decide)) X N (P w.params) hc C hF hb λH h1 h2=>?_
 refine⟨rfl,[a,Pt],[.ro (ns.map W.int),.tab Q Pt],[.ref 0],F2 h1 h2,.one ⟨a,rfl,rfl⟩,λPF=>?_⟩;obtain⟨A,e⟩:=ok ns hlen Pt PF;rw[e];exactλU H' v _ _ r=>r
def yC.m {K:Frag}{k:Nat}{f:Fn}(F:yC P w K mg base k x n f):zP P w K mg base k x n λws A=>(f ws A).nox:=by
 obtain⟨i,fd,ps,F,hm,c,d⟩:=F;have up:∀vs H Q E,Wu K n (λws A=>(f ws A).nox) vs H Q E->XJ K n f vs H Q (λ_ _ _=>False):=λvs H Q E ⟨l,φ,A,ws,S,r,h⟩=>⟨l,φ,A,ws,S,r,by
  cases a:f ws A with
  |ok u A1=>(try dsimp only at h);rw[a]at h;exact h|exc y A1=>(try dsimp only at h);rw[a]at h;exact h.elim|bad=>(try dsimp only at h);rw[a]at h;exact h.elim⟩
 refine⟨i,fd,ps,⟨λvs H Q E h=>F.len vs H Q _ (up vs H Q E h),λA outer s H args us vs Q E b he t v h=>?_⟩,hm,c,d⟩;refine codeAny_mono (F.run A outer s H args us vs Q _ b he t v (up vs H Q E h)) λr s' h'=>?_;cases r with
 |error e=>
  unfold CR at h';obtain⟨_,_,_,_,_,_,_,_,_,_,z⟩:=h';exact z.elim
 |ok g=>cases g<;>exact h'
theorem yC.mono {K:Frag}{k:Nat}{f:Fn}(F:yC P w K mg base j x n f)(h:j<=k):yC P w K mg base k x n f:=by cases F with|mk d fd ps F a b c=>exact⟨d,fd,ps,F.mono h,a,b,c⟩
noncomputable abbrev X5:bR:=[.type "ValueError",.type "Exception",.type "BaseException",.type "object"]
noncomputable abbrev Xs:String := "ValueError.__new__"
section
variable {K:Frag}{cs:bV}{top nm:Str}
noncomputable def clsAt (K:Frag)(x:Str):Addr:=match nsIn K mainGlobals x with
 |some (some (.ref C))=>C|_=>0
def isAt (K:Frag)(x:Str):Bool:=nsIn K mainGlobals x==some (some (.ref (clsAt K x)))
def jF (cs:bV)(x:Str):Str->Option Bool:=λnm=>if cs.contains nm then some (nm==x) else none
def TJ (cs:bV):Str->Option Bool:=λnm=>if cs.contains nm then some true else none
def Q5 (K:Frag)(cs:bV)(x:Str):Bool:=isAt K x&&kitOne K (.type "NoneType") (.ref (clsAt K x))==some false&&cs.all λnm=>kitOne K (.ref (clsAt K nm)) (.ref (clsAt K x))==some (nm==x)
def Xa (K:Frag)(top nm:Str):Bool:=isAt K nm&&K0 K (clsAt K nm)&&Mi.Zs K (clsAt K nm) X5 Xs&&J4 K (clsAt K nm) (clsAt K top)&&kitOne K (.ref (clsAt K nm)) (.type "ValueError")==some true
def UY (K:Frag)(top:Str):Bool:=isAt K top&&Mi.Zs K (clsAt K top) X5 Xs&&kitOne K (.type "NoneType") (.type "ValueError")==some false
def Ut (h:isAt K x=true):ku K x (.ref (clsAt K x)):=aM.mp h
def V9 {C:Addr}(h:ku K x (.ref C)):C=clsAt K x:=by
 unfold clsAt;unfold ku at h;rw[h]
structure V8 (K:Frag)(top nm:Str):Prop where
 at_:ku K nm (.ref (clsAt K nm))
 kit:K0 K (clsAt K nm)=true
 exc:Mi.Zs K (clsAt K nm) X5 Xs=true
 up:J4 K (clsAt K nm) (clsAt K top)=true
 val:kitOne K (.ref (clsAt K nm)) (.type "ValueError")=some true
def fS (h:Xa K top nm=true):V8 K top nm:=by
 unfold Xa at h;simp only[ak,aM]at h;obtain⟨⟨⟨⟨d,c⟩,b⟩,a⟩,H⟩:=h;exact⟨Ut d,c,b,a,H⟩
structure gq (K:Frag)(cs:bV)(top:Str):Prop where
 exc:∀nm,cs.contains nm=true->V8 K top nm
 top_at:ku K top (.ref (clsAt K top))
 top_exc:Mi.Zs K (clsAt K top) X5 Xs=true
 non:kitOne K (.type "NoneType") (.type "ValueError")=some false
def fT (h:cs.all (Xa K top ·)=true)(t:UY K top=true):gq K cs top:=by
 unfold UY at t;simp only[ak,aM]at t;obtain⟨⟨t1,T⟩,t3⟩:=t;exact⟨λnm e=>fS (cx.mp h nm (List.contains_iff_mem.mp e)),Ut t1,T,t3⟩
def gq.isx (c:gq K cs top)(h:Q5 K cs x=true):K9 K (jF cs x) (.ref (clsAt K x)):=by
 unfold Q5 at h;simp only[ak,aM]at h;obtain⟨⟨f,d⟩,a⟩:=h;refine⟨d,λnm C b e H=>?_⟩;unfold jF at e
 by_cases hm:cs.contains nm=true
 ·rw[ah hm]at e
  cases e;cases V9 H;exact⟨(c.exc nm hm).kit,aM.mp (cx.mp a nm (List.contains_iff_mem.mp hm))⟩
 ·rw[ar hm]at e;cases e
def wO (h:Q5 K cs x=true):ku K x (.ref (clsAt K x)):=by
 unfold Q5 at h;simp only[ak,aM]at h;exact Ut h.1.1
def gq.isv (c:gq K cs top):K9 K (TJ cs) (.type "ValueError"):=by
 refine⟨c.non,λnm C b e h=>?_⟩;unfold TJ at e
 by_cases hm:cs.contains nm=true
 ·rw[ah hm]at e
  cases e;cases V9 h;exact⟨(c.exc nm hm).kit,(c.exc nm hm).val⟩
 ·rw[ar hm]at e;cases e
def gq.under (c:gq K cs top):∀nm,cs.contains nm=true->∀C,ku K nm (.ref C)->∃b n,Mi.Zs K C b n=true/\J4 K C (clsAt K top)=true:=λnm hm C h=>by
 cases V9 h;exact⟨_,_,(c.exc nm hm).exc,(c.exc nm hm).up⟩
end
noncomputable def Xe (M:bV)(sc:Scope)(t:Lm):Bool:=t.idx.length==t.N.length&&((List.range t.N.length).all λi=>match t.N[i]?,t.idx[i]? with
 |some x,some j=>M[j]?==some x&&t.scope.names.lookup x==some .free|_,_=>false)&&t.scope.names.all λy=>!(y.2==.free) || (sc.names.lookup y.1==some .cell || sc.names.lookup y.1==some .free)
def O6 {t:Lm}(h:Xe X.N X.env.scope t=true):YW X t:=by
 unfold Xe at h;rw[ak,ak]at h;obtain⟨⟨c,b⟩,a⟩:=h;refine⟨aM.mp c,λi x j E d=>?_,λy H e=>?_⟩
 ·have hi:i<t.N.length:=(cq.mp E).1
  have q:=cx.mp b i (cu.mpr hi);rw[E,d]at q;dsimp only at q;rw[ak]at q;exact⟨aM.mp q.1,aM.mp q.2⟩
 ·have q:=cx.mp a y H
  rw[e]at q;rw[bx,bx]at q;rcases q with q|q|q
  ·cases q
  ·exact .inl (aM.mp q)
  ·exact .inr (aM.mp q)
def all_nil {p:α->Prop}:∀t∈([]:List α),p t:=λ_ h=>nomatch h
def all_cons {p:α->Prop}{a:α}{l:List α}(h:p a)(r:∀t∈l,p t):∀t∈a::l,p t:=λt H=>by
 rcases cn.mp H with e|e
 ·rw[e];exact h
 ·exact r t e
def fU {q:Str}{ls:List Lm}{k:Nat}{t:Lm}(H:ls[k]? =some t):gI env q ls k=Xp q t.params t.body t.scope (wb env t.scope.names []):=by
 funext ob c o vs
 refine propext ⟨λ⟨t',e,h⟩=>?_,λh=>⟨t,H,h⟩⟩;rw[H]at e;cases e;exact h
noncomputable def Qm:Stmt:=.Pass ⟨0,0,0,0⟩
noncomputable def Qq:Expr:=.Constant .none 0 ⟨0,0,0,0⟩
def YV (s:Stmt)(i:Nat):Stmt:=match s with
 |.For _ _ b _ _=>b.getD i Qm|.If _ b _ _=>b.getD i Qm|.While _ b _ _=>b.getD i Qm|_=>Qm
def Wt (e:Expr)(i:Nat):Expr:=match e with
 |.Call _ a _ _=>a.getD i Qq|.List E _=>E.getD i Qq|.Tuple E _ _=>E.getD i Qq|.BinOp a _ b _=>if i=0 then a else b|_=>Qq
noncomputable def fV (e:Expr):Arguments:=match e with
 |.Lambda a _ _ _=>a|_=>{ posonlyargs:=[],args:=[],vararg:=none,kwonlyargs:=[],kw_defaults:=[],kwarg:=none,defaults:=[] }
def fW (e:Expr):Expr:=match e with
 |.Lambda _ b _ _=>b|_=>Qq
noncomputable def fX (e:Expr):Scope:=match e with
 |.Lambda _ _ s _=>s|_=>{ kind:=.function,names:=[],isGenerator:=false,isCoroutine:=false }
def ZY (e:Expr)(N:bV)(idx:bU)(m:Ev):Lm:=⟨N,idx,fV e,fW e,fX e,m⟩
def fY {K:Frag}{st:Stmt}{k:Nat}(F:gv K x x st f fd)(hm:mg x=some (.ref f))
  (b:∀(kV doc pm:Value)(an:cf)(c ct:Value)(us:bR),us.length=ps.length->bindArgs (fnOf x x (QW st) (kZ st) (qp st) .none kV doc pm an c ct) ⟨us,[]⟩=pure (ps.zip us)):zP P w K mg base k x ps.length (λ_ _=>.bad):=
 ⟨f,fd,ps,⟨λvs H Q E h=>h.1,λA outer s H args us vs Q E _ _ _ _ h=>by obtain⟨_,_,_,_,_,_,z⟩:=h;exact z.elim⟩,hm,F.kp,F.binds b⟩
def Ad {K:Frag}(t a b:Ty):kitAny K (.type t.nm) [.type a.nm,.type b.nm]=some (kA t a || kA t b):=by
 unfold kitAny;rw[GW];cases kA t a with
 |true=>rfl|false=>
  dsimp only;unfold kitAny;rw[GW];cases kA t b<;>rfl
section
variable {a b:Expr}{m ma mb:Ev}
def J8.kitx {x:V}{t:Ty}(I:Inv X pins σ H s)(r:RelV x u)(h:J8 X.K H x t):∃d:Heap->Prop,PySem.W.KitX X.K u (.type t.nm) d/\d s.heap/\u≠.builtin "__main__.__loader__#opaque":=by
 rcases h with h|⟨a,xs,rfl,h,rfl⟩
 ·generalize f:Value.type t.nm=T at h
  cases h with
  |non=>cases (show u=Value.none from r);exact⟨_,kitx_none,True.intro,λz=>nomatch z⟩
  |bl y=>cases (show u=Value.bool y from r);exact⟨_,kitx_bool,True.intro,λz=>nomatch z⟩
  |int i=>obtain⟨t,q⟩:=(show ∃t,u=Value.int i t from r);cases q;exact⟨_,kitx_int,True.intro,λz=>nomatch z⟩
  |str y=>obtain⟨t,q⟩:=(show ∃t,u=Value.str y t from r);cases q;exact⟨_,kitx_str,True.intro,λz=>nomatch z⟩
  |flt y=>obtain⟨t,q⟩:=(show ∃t,u=Value.float y t from r);cases q;exact⟨_,kitx_float,True.intro,λz=>nomatch z⟩
  |@lst a xs ea=>
   cases (show u=Value.ref a from r)
   obtain⟨_,_,n,_,b⟩:=(show jk X.prog X.w H s.heap a (.lst xs) from I.hok a _ ea)
   exact⟨_,kitx_list,⟨_,b,rfl⟩,λz=>nomatch z⟩
  |@frz a ob xs ea=>
   cases (show u=Value.ref a from r)
   obtain⟨_,_,_,n,_,b⟩:=(show jk X.prog X.w H s.heap a (.frz ob (.lst xs)) from I.hok a _ ea)
   exact⟨_,kitx_list,⟨_,b,rfl⟩,λz=>nomatch z⟩
  |@tup a xs ea=>
   cases (show u=Value.ref a from r)
   obtain⟨_,_,_,p⟩:=(show jk X.prog X.w H s.heap a (.tup xs) from I.hok a _ ea)
   obtain⟨o,b,c,_⟩:=p;exact⟨_,kitx_tuple,⟨o,b,c.1⟩,λz=>nomatch z⟩
  |@dK a kvs ea=>
   cases (show u=Value.ref a from r)
   obtain⟨_,_,_,_,o,_,_,b,c,_⟩:=(show jk X.prog X.w H s.heap a (.dK kvs) from I.hok a _ ea)
   exact⟨_,kitx_dict,⟨o,b,c.1⟩,λz=>nomatch z⟩
  |@dT a kvs ea=>
   cases (show u=Value.ref a from r)
   obtain⟨_,_,_,_,o,_,_,b,c,_⟩:=(show jk X.prog X.w H s.heap a (.dT kvs) from I.hok a _ ea)
   exact⟨_,kitx_dict,⟨o,b,c.1⟩,λz=>nomatch z⟩
  |ins=>cases f
 ·cases (show u=Value.ref a from r)
  obtain⟨e,_,⟨o,b,c,_⟩,_⟩:=I.tuple h;exact⟨_,kitx_tuple,⟨o,b,c⟩,λz=>nomatch z⟩
def fZ (K:Frag)(a b:Ty):List V->Hp->VK->Prop:=λxs H Q=>∃x t l,xs=[x,.ref l]/\qS K H l [.ty (Ty.nm a),.ty (Ty.nm b)]/\J8 K H x t/\Q (.bl (kA t a || kA t b)) H
def D1 {a b:Ty}:yc X (.builtin "isinstance") (fZ X.K a b):=by
 intro pins s σ H xs us Q I r h;obtain⟨x,t,l,rfl,y,w,q⟩:=h;obtain⟨u,e,rfl,f,c⟩:=vals2 r;cases (show e=Value.ref l from c)
 obtain⟨p,v,⟨o,C,B,k,A⟩,_⟩:=I.tuple y;obtain⟨d,U,rfl,i,g⟩:=vals2 v;cases (show d=Value.type a.nm from i)
 cases (show U=Value.type b.nm from g)
 obtain⟨J,Z,z,ne⟩:=w.kitx I f;obtain⟨n,E,j,D⟩:=o;cases (show n=_ from B)
 cases (show j=_ from A)
 exact PySem.W.kia_tup Z I.kIn z C (Ad t a b) ne λtk=>⟨.bl (kA t a || kA t b),H,I.tok tk,rfl,q⟩
def XB (t T:Ty)(m:Ev):Ev:=λρ A=>(m ρ A).bind λw A1=>match jY w A1 with
 |some t'=>.ok (.bl (kA t' t || kA t' T)) A1
 |none=>.bad
noncomputable def Qx (m:Ev)(tw:Tg):Ex:=λρ A=>(m ρ A).bind λw A1=>match tw w ρ with
 |some a=>.ok (.nx a) A1|none=>.bad
noncomputable def Wl (i j:Nat)(ma mb:Ev):Ex:=λρ A=>(ma ρ A).bind λx A1=>(mb ρ A1).bind λy A2=>.ok (.nx ((ρ.set i (some x)).set j (some y))) A2
end
noncomputable def Xb (PG:j3):W->W
 |.clo k ws _=>.clo k ws (PG k)|w=>w
open Classical in
def Ws (ls:List Lm)(PF:j3)(ρ:En):W->Option W
 |.clo k [] P=>if P=PF k then(match ls[k]? with
  |some t=>(Zq t.idx ρ).map λws=>.clo k ws P|none=>none) else none
 |.clo _ _ _=>none|w=>some w
def ZT (ls:List Lm)(PF:j3)(ρ:En):List W->Option (List W)
 |[]=>some []|w::r=>match Ws ls PF ρ w,ZT ls PF ρ r with
  |some u,some us=>some (u::us)|_,_=>none
def wy (ls:List Lm)(PF:j3)(f:Fn)(a:Ea):Ev:=λρ A=>(a ρ A).bind λws A1=>match ZT ls PF ρ ws with
 |some us=>f us A1|none=>.bad
section
variable {ls:List Lm}{q:Str}
def OE (I:Inv X pins σ H s)(n:∀x,X.fn x=true)(l:∀t∈ls,ZX X.prog X.w X.K X.mg j q t)(c:∀t∈ls,YW X t):
  YY X.prog X.w X.K X.mg (ZV X.base s.heap X.env.cells) X.A X.stack s H/\∀k,JM X.prog X.w X.K X.mg (ZV X.base s.heap X.env.cells) (j+1) (Y2 X.env q ls σ k) (yS ls k):=by
 have a:∀b o,X.base.get? b=some o->(ZV X.base s.heap X.env.cells).get? b=some o:=λb o e=>FX I.bk e;have M:Mod X.K X.mg (ZV X.base s.heap X.env.cells):=by
  obtain⟨mb,p,B⟩:=I.mod.blt;exact⟨I.mod.kin.keeps a,I.mod.glob.keeps a,⟨mb,p.keeps a,B⟩,I.mod.nolimit.keeps a⟩
 have bs:∀b o,(ZV X.base s.heap X.env.cells).get? b=some o->s.heap.get? b=some o/\H b=none:=λb o e=>by
  obtain⟨i,E⟩:=OD e;refine⟨i,?_⟩;rcases E with ⟨o',E⟩|⟨y,E⟩
  ·exact(I.bs b o' E).2
  ·exact I.freeC y b E
 refine⟨⟨I.ok.frames,M,bs,Nat.le_of_eq (hideAll_size _ _),frames_at I.stack λb d=>?_,I.stkFree,I.hok,I.bare⟩,
  λk=>fQ l (λt f vs h=>DG I (λy C v e ⟨o,g,hd⟩=>⟨o,F0 e g,hd⟩) (c t f) h) k⟩
 cases e:(ZV X.base s.heap X.env.cells).get? b with
 |none=>rfl|some o=>
  exfalso;rcases(OD e).2 with ⟨o',E⟩|⟨y,E⟩
  ·have:=(I.stack.mem d).1
   rw[E]at this;cases this
  ·exact fR I n E d
theorem PD {K:Frag}(re:RE K φ H ρ σ):∀{ws us:List W}{vs:List V},ZT ls (gI env q ls) ρ ws=some us->zK K φ H ws vs->zK K φ H (us.map (Xb (Y2 env q ls σ))) vs
 |[],us,vs,e,r=>by cases e;exact r|w::r,us,vs,e,⟨v,A,ev,j,y⟩=>by
  subst ev;unfold ZT at e;cases E:Ws ls (gI env q ls) ρ w with
  |none=>rw[E]at e;cases e|some u=>
   cases i:ZT ls (gI env q ls) ρ r with
   |none=>rw[E,i]at e;cases e|some U=>
    rw[E,i]at e;cases e;rw[aX];refine .cons ?_ (PD re i y);cases w with
    |clo k xs P=>
     cases xs with
     |cons x xs=>unfold Ws at E;cases E|nil=>
      unfold Ws at E;dsimp only at E
      by_cases h:P=gI env q ls k
      ·rw[ah h]at E
       subst h;cases d:ls[k]? with
       |none=>rw[d]at E;cases E|some t=>
        rw[d]at E;dsimp only at E;cases g:Zq t.idx ρ with
        |none=>rw[g]at E;cases E|some l=>
         rw[g]at E;cases E;obtain⟨a,ob,o,c,s,uc,n,rfl,g1,g2,⟨t',b,z⟩,_⟩:=j;rw[d]at b;cases b;obtain⟨f,cv,p⟩:=P8 re g;exact⟨a,ob,o,c,s,uc,f,rfl,g1,g2,⟨t,d,z,cv⟩,p⟩
      ·rw[ar h]at E;cases E
    |_=>cases E;exact j
end
def JF:W->W->Hx->R W:=λx y A=>match x,y with
 |.ref n,.ref k=>match A[n]?,A[k]? with
  |some (.lst ws),some (.lst us)=>if ws.length+us.length<=zY then .ok .non (A.set n (.lst (ws++us))) else .bad|_,_=>.bad
 |_,_=>.bad
def E4:∀x y A,q9 (JF x y A):=λx y A=>by
 unfold JF
 split
 ·split
  ·exact ZR jW jd
  ·exact jd
 ·exact jd
section
noncomputable abbrev yy (led:Bool):Obj:={ cls:=.type "set",dict:=none,data:=.set #[] 0 (.fresh 0 0 led) }
end
def intsAre_of:∀{ns:bQ}{i:bR},Vals (ns.map V.int) i->IntsAre i ns:=by
 intro ns
 induction ns with
 |nil=>intro i h;cases h;exact .nil|cons n ns I=>
  intro i h;cases h with
  |cons r t=>obtain⟨tk,rfl⟩:=r;exact .cons n tk (I t)
def Wc (s:Stmt):Expr:=match s with
 |.If t _ _ _=>t|_=>Qq
section
open PySem.SeqAt
open PySem.AutoSeq1 (wpAny_loadPart')
open PySem.MeetsSeq PySem.MeetsSeq2 PySem.MeetsSeq3
end
section
variable {prog:Program}{A:Around}{S:Addr}{wr:bS}{P:Nat->Value->Prop}
structure N6 (prog:Program)(w:World)(A:Around)(S:Addr)(wr:bS)(P:Nat->Value->Prop)(bt:Nat->Nat->Bool)(HI:Heap->Prop):Prop where
 keep:∀h h',HI h->(∀b o,b∉wr->b≠S->h.get? b=some o->h'.get? b=some o)->HI h'
 less:∀i j vi vj (s:Shared) (Q:bX) (E:bX),HI s.heap->P i vi->P j vj->Q (.bool (bt i j)) s->wpAny (model prog w) A.in1 (richCompare .Lt vi vj) Q E s
def GA:(toString "min" ++ toString ".loop" : String) = "min.loop":=by decide
end
section
variable {K:Frag}
def Ov {w:W}{ds:List PyData}(h:qk A 8 w=some (.list ds)):PyData.canLayAll0 ds=true/\PyData.depthAll ds<=8:=by
 obtain⟨H,a⟩:=Kx 8 w _ h;simp only[PyData.canLay0,PyData.depth]at H a;exact⟨H,by omega⟩
def zeh:W->W->Hx->R W:=λx y A=>match qk A 8 x,qk A 8 y with
 |some d,some (.list ds)=>.ok (.bl (ds.any λz=>PyData.eqv z d)) A|_,_=>.bad
noncomputable def ZU (p:PyData->Bool):List PyData->Option Nat
 |[]=>none|d::ds=>if p d then some 0 else(ZU p ds).map (· + 1)
theorem Ox {p:PyData->Bool}:∀{ds:List PyData}{j:Nat},ZU p ds=some j->∃h:j<ds.length,p ds[j]=true/\∀m (hm:m<ds.length),m<j->p ds[m]=false
 |[],_,e=>by cases e|d::ds,j,e=>by
  unfold ZU at e
  by_cases hd:p d=true
  ·rw[ah hd]at e
   cases e;exact⟨Nat.zero_lt_succ _,hd,λm _ z=>absurd z (bN _)⟩
  ·rw[ar hd]at e
   cases E:ZU p ds with
   |none=>rw[E]at e;cases e|some J=>
    rw[E]at e;cases e;obtain⟨b,a,H⟩:=Ox E;refine⟨Nat.succ_lt_succ b,a,λm hm z=>?_⟩;cases m with
    |zero=>exact Bool.eq_false_iff.mpr hd|succ m=>exact H m (Nat.lt_of_succ_lt_succ hm) (Nat.lt_of_succ_lt_succ z)
def Aa (K:Frag):V->List V->Hp->VK->Prop:=λx vs H Q=>∃φ A u v y d ds j,vs=[y]/\zT K φ A H/\RV K φ H u x/\RV K φ H v y/\qk A 8 u=some (.list ds)/\qk A 8 v=some d/\ZU (λz=>PyData.eqv z d) ds=some j/\j<1000000/\Q (.int j) H
def Dz (N:X.A.units+64<cLine):X2 X "list.index" (Aa X.K):=by
 intro pins s σ H x vs v us Q I r i h;obtain⟨φ,A,f,w,y,d,ds,j,rfl,S,B,t,a,E,L,P,q⟩:=h;obtain⟨u,rfl,p⟩:=i.one;obtain⟨as,D⟩:=QP I S 8 f x v _ B r a;obtain⟨bs,C⟩:=QP I S 8 w y u d t p E;obtain⟨g1,g2⟩:=Kx 8 w d E;obtain⟨g3,T⟩:=Ov a;obtain⟨f1,f2,J⟩:=Ox L;cases D with
 |list a1 a2 c b=>
  rename_i l o items n M
  obtain⟨cls,dd,data,g⟩:=o;simp only at a2 c;subst a2 c;have hm:=SeqAt.readsAll_map _ _ _ g3 b;have hlen:items.size=ds.length:=by rw[<- hm];simp
  have at_:∀m (h:m<items.size) (h':m<ds.length),SeqAt.readOf s.heap items[m]=ds[m]:=λm h h'=>by
   have e:(items.toList.map (SeqAt.readOf s.heap))[m]? =ds[m]?:=by rw[hm]
   rw[aw,aa h',bz,Array.getElem?_eq_getElem h]at e;exact aD e
  refine call_meets F.slot_list_index ⟨_,a1,rfl⟩ F.entry_list_index (F.args_list_index_2 _ _)
   (SeqAt.list_indexAt l items n dd g u (λz=>PyData.eqv (SeqAt.readOf s.heap z) d) j (by omega) (by omega) (by rw[at_ j (by omega) f1];exact f2) (λm h z=>by rw[at_ m h (by omega)];exact J m (by omega) z)) ⟨a1,SeqAt.items_eqAt b C g3 g1 (by omega),?_⟩
  exact⟨.int j,H,I.tok _,⟨_,rfl⟩,q⟩
def ZN:W->W->Hx->R W:=λx y A=>match qk A 8 x,qk A 8 y with
 |some (.list ds),some d=>(match ZU (λz=>PyData.eqv z d) ds with
  |some j=>if j<1000000 then .ok (.int j) A else .bad|none=>.bad)
 |_,_=>.bad
def C8:∀x y A,q9 (ZN x y A):=λx y A=>by
 unfold ZN
 split
 ·split
  ·exact ZR jW jd
  ·exact jd
 ·exact jd
end
end Mi
variable {ls:List Mi.Lm}
namespace Mi
open PySem
noncomputable def qi (n:Nat):bU:=(List.range 8).filter λi=>n.testBit i
def jm (led:Bool)(n:Nat):SetTable:=if (qi n).length<5 then⟨7,(qi n).toArray,#[],0,led,0,true⟩ else⟨31,(qi n).toArray,#[],0,led,1,true⟩
noncomputable def jJ (n v:Nat):Nat:=n ||| (1 <<< v)
def Zt (n v:Nat):Nat:=((qi n).filter λi=>decide (i<v)).length
def wC (led:Bool)(n v:Nat):SetTable:={ jm led n with place:=(qi (jJ n v)).toArray }
def Xh (led:Bool)(n v:Nat):Bool:=n.testBit v || (((jm led n).freeSlot (v:Int)==some (v,false))&&((jm led n).put v==(wC led n v,Zt n v))&&(qi (jJ n v)==(qi n).take (Zt n v)++v::(qi n).drop (Zt n v))&&
 (wC led n v).fits (qi (jJ n v)).length&&((wC led n v).tooFull==((qi (jJ n v)).length==5))&&
 (if (qi (jJ n v)).length==5 then(wC led n v).relaid ((qi (jJ n v)).map λ(i:Nat)=>(i:Int)).toArray 20==some (jm led (jJ n v),#[0,1,2,3,4]) else jm led (jJ n v)==wC led n v)&&
 (jm led (jJ n v)).fits (qi (jJ n v)).length&&decide (jJ n v<256))
def AQ:((List.range 256).all λn=>(List.range 8).all λv=>Xh true n v&&Xh false n v)=true:=by decide +kernel
open PySem PySem.Spec PyProof.Rows
inductive jE:List (Int×Value)->List Nat->Prop
 |nil:jE [] []
 |cons {es:List (Int×Value)} {vs:bU} (v:Nat) (tk:Tok) (h:jE es vs):jE (((v:Int),.int (v:Int) tk)::es) (v::vs)
theorem jE.length (h:jE es vs):es.length=vs.length:=by
 induction h with
 |nil=>rfl|cons v tk h i=>simp[i]
def jE.map1 (h:jE es vs):es.map (·.1)=vs.map λ(i:Nat)=>(i:Int):=by
 induction h with
 |nil=>rfl|cons v tk h I=>simp[I]
theorem jE.take (h:jE es vs):∀k,jE (es.take k) (vs.take k):=by
 induction h with
 |nil=>intro k;simp;exact .nil|cons v tk h i=>
  intro k;cases k with
  |zero=>exact .nil|succ k=>exact .cons v tk (i k)
theorem jE.drop (h:jE es vs):∀k,jE (es.drop k) (vs.drop k):=by
 induction h with
 |nil=>intro k;simp;exact .nil|cons v tk h i=>
  intro k;cases k with
  |zero=>exact .cons v tk h|succ k=>exact i k
def jE.app {es':List (Int×Value)}{a:bU}(h:jE es vs)(h':jE es' a):jE (es++es') (vs++a):=by
 induction h with
 |nil=>exact h'|cons v tk h i=>exact .cons v tk i
def Pm:∀v,v<8->hashInt ((v:Nat):Int)=(v:Int):=by decide
section
variable {prog:Program}
def jE.elems (h:jE es vs)(H:∀v∈vs,v<8):ElemsOf (intKind prog w) es:=by
 induction h with
 |nil=>intro e he;cases he|cons v tk h i=>
  intro e he;rcases cn.mp he with rfl|he
  ·exact⟨⟨(v:Int),intKind_is _ _ _ _,(Pm v (H v (ax ..))).symm⟩,rfl⟩
  ·exact i (λu a=>H u (ao _ a)) e he
def jE.find (h:jE es vs)(v:Nat):(es.findIdx? λe=>(intKind prog w).is (v:Int) e.2)=vs.findIdx? λu=>decide (u=v):=by
 induction h with
 |nil=>rfl|cons u tk h i=>
  rw[List.findIdx?_cons,List.findIdx?_cons,i]
  have:(intKind prog w).is (v:Int) (Value.int (u:Int) tk)=decide (u=v):=by
   show Value.isInt (v:Int) (Value.int (u:Int) tk)=_;unfold Value.isInt;rw[Bool.eq_iff_iff];simp;omega
  rw[this]
end
def UX {v:Nat}:v∈qi n↔v<8/\n.testBit v=true:=by
 unfold qi;rw[mem_filter,mem_range]
def j7 (h:Heap)(a:Addr)(led:Bool)(n:Nat):Prop:=∃o e E,h.get? a=some o/\o.ExactSet/\o.data=.set e E (jm led n)/\jE e.toList (qi n)/\n<256
def j7.keep {h':Heap}(x:j7 h a led n)(k:∀o,h.get? a=some o->h'.get? a=some o):j7 h' a led n:=
 let ⟨o,es,ep,H,r⟩:=x;⟨o,es,ep,k o H,r⟩
def DP {v:Nat}(hn:n<256)(H:v<8)(led:Bool):Xh led n v=true:=by
 have h:=cx.mp (cx.mp AQ n (cu.mpr hn)) v (cu.mpr H);rw[ak]at h;cases led
 ·exact h.2
 ·exact h.1
def CF:((List.range 256).all λn=>(jm true n).fits (qi n).length&&(jm false n).fits (qi n).length)=true:=by decide +kernel
def VT (led:Bool)(n:Nat):(jm led n).plain=true:=by unfold jm;split<;>rfl
def Ak (led:Bool)(n:Nat):(jm led n).led=led:=by unfold jm;split<;>rfl
def P5 (led:Bool)(n:Nat):(jm led n).place=(qi n).toArray:=by unfold jm;split<;>rfl
def fits_of (hn:n<256)(led:Bool):(jm led n).fits (qi n).length=true:=by
 have h:=cx.mp CF n (cu.mpr hn);rw[ak]at h;cases led
 ·exact h.2
 ·exact h.1
def YD (n:Nat):(qi n).length<=8:=by
 unfold qi;exact bq (List.length_filter_le _ _) (by simp)
structure Xt (led:Bool)(n v:Nat):Prop where
 free:(jm led n).freeSlot (v:Int)=some (v,false)
 put:(jm led n).put v=(wC led n v,Zt n v)
 vs:qi (jJ n v)=(qi n).take (Zt n v)++v::(qi n).drop (Zt n v)
 fits:(wC led n v).fits (qi (jJ n v)).length=true
 full:(wC led n v).tooFull=((qi (jJ n v)).length==5)
 Tq:(qi (jJ n v)).length=5->(wC led n v).relaid ((qi (jJ n v)).map λ(i:Nat)=>(i:Int)).toArray 20=some (jm led (jJ n v),#[0,1,2,3,4])
 less:(qi (jJ n v)).length≠5->jm led (jJ n v)=wC led n v
 lt:jJ n v<256
def Eo {v:Nat}(hn:n<256)(a:v<8)(led:Bool)(b:n.testBit v=false):Xt led n v:=by
 have h:=DP hn a led;unfold Xh at h;rw[b,Bool.false_or]at h;simp only[ak,aM,aj]at h;obtain⟨⟨⟨⟨⟨⟨⟨j,i⟩,g⟩,f⟩,d⟩,H⟩,l⟩,c⟩:=h;refine⟨j,i,g,f,d,λe=>?_,λe=>?_,c⟩
 ·rw[ah e]at H;exact of_decide_eq_true (by simpa using H)
 ·rw[ar e]at H;simpa using H
def jR (n v:Nat):Nat:=if n.testBit v then n else jJ n v
section
variable {prog:Program}{A:Around}
def Bh {e:Array (Int×Value)}{v:Nat}{x:Value}(f:Xt led n v)(he:jE e.toList (qi n)):layNew (jm led n) e (v:Int) x=(SetTable.insertAt e (Zt n v) ((v:Int),x),wC led n v,false,false):=by
 have h:(SetTable.insertAt e (Zt n v) ((v:Int),x)).size=(qi (jJ n v)).length:=by
  rw[<- aS,SetTable.toList_insertAt,f.vs,aq,aq,a9,a9,ba,ba,bJ,bJ,he.length]
 unfold layNew;rw[f.free];dsimp only;rw[f.put];dsimp only;rw[h];unfold SetTable.orStandIn;rw[ah f.fits,f.fits]
 rfl
def f5 {E:Array (Int×Value)}{v:Nat}(f:Xt led n v)(g:(qi (jJ n v)).length=5)(he:jE E.toList (qi (jJ n v))):relayAll (wC led n v) E 20=(E,jm led (jJ n v),false):=by
 have hm:E.map (·.1)=((qi (jJ n v)).map λ(i:Nat)=>(i:Int)).toArray:=by
  apply Array.toList_inj.mp
  rw[Array.toList_map,he.map1]
 have h:E.size=5:=by rw[<- aS,he.length,g]
 have H:(#[0,1,2,3,4]:Array Nat).filterMap (E[·]?)=E:=by
  apply Array.toList_inj.mp
  rw[Array.toList_filterMap];have h0:E.toList.length=5:=by rw[aS];exact h
  have j:∀i,E[i]? =E.toList[i]?:=λi=>by rw[bz]
  simp only[j];generalize E.toList=l at h0;obtain⟨a,b,c,d,e,rfl⟩:∃a b c d e,l=[a,b,c,d,e]:=by
   match l,h0 with
   |[a,b,c,d,e],_=>exact⟨a,b,c,d,e,rfl⟩
  rfl
 unfold relayAll;rw[hm,f.Tq g];dsimp only;rw[H];have o:coversAll #[0,1,2,3,4] E.size=true:=by rw[h];decide +kernel
 have hf:(jm led (jJ n v)).fits E.size=true:=by rw[h,<- g];exact fits_of f.lt led
 rw[o,hf]
 rfl
def jE.insert {e:Array (Int×Value)}{v:Nat}{tk:Tok}(f:Xt led n v)(he:jE e.toList (qi n)):jE (SetTable.insertAt e (Zt n v) ((v:Int),.int (v:Int) tk)).toList (qi (jJ n v)):=by
 rw[SetTable.toList_insertAt,f.vs];exact(he.take _).app (.cons v tk (he.drop _))
def Pn {o:Obj}{E es':Array (Int×Value)}{e:Nat}{t:SetTable}{t':SetTable}(H:h.get? a=some o)(hd:o.data=.set E e t):(h.update a (Obj.putSet es' t')).get? a=some { o with data:=.set es' (e+1) t' }:=by
 have:=aZ (Obj.putSet es' t') H (by rw[putSet_of es' t' hd];rfl)
 rw[putSet_of es' t' hd]at this;exact this
def FN {v:Nat}{tk:Tok}{Q:Bool->Shared->Prop}(U:j7 s.heap a led n)(z:v<8)
  (h:∀h' b,Heap.SameBut a s.heap h'->j7 h' a led (jR n v)->Q b { s with heap:=h' }):
  wpAny (model prog w) A (setAddHashed a (.int (v:Int) tk) ((intKind prog w).hash (v:Int))) Q E s:=by
 obtain⟨o,p,I,r,hex,hd,he,hn⟩:=U;have hlen:p.size=(qi n).length:=by rw[<- aS,he.length]
 have hf:(jm led n).fits p.size=true:=by rw[hlen];exact fits_of hn led
 have t:ElemsOf (intKind prog w) p.toList:=he.elems λu K=>(UX.mp K).1;have l:p.size<scanBound:=by rw[hlen];have:=YD n;unfold scanBound;omega
 unfold setAddHashed setAddHashedIn;refine wpAny_holding (ck (wpAny_setState_of r hd hf ?_));dsimp only;rw[byScan_of (x:=.int (v:Int) tk) rfl l t];simp only[↓reduceIte];unfold setAddByScan;refine ck ?_;refine ck (wpAny_rule ?_);refine ck (wpAny_setScan_of (knd:=intKind prog w) (intKind_is _ _ _ _) r hd hf t ?_);rw[he.find];cases J:(qi n).findIdx? λu=>decide (u=v) with
 |some j=>
  dsimp only;have l:n.testBit v=true:=by
   obtain⟨P,C,_⟩:=List.findIdx?_eq_some_iff_getElem.mp J
   have:=of_decide_eq_true C
   exact(UX.mp (this ▸ aN P)).2
  refine cm (cm ?_);have e:s={ s with heap:=s.heap }:=by cases s;rfl
  rw[e];refine h s.heap false (Heap.SameBut.refl a s.heap) ?_;unfold jR;rw[ah l];exact⟨o,p,I,r,hex,hd,he,hn⟩
 |none=>
  dsimp only;have l:n.testBit v=false:=by
   cases N:n.testBit v with
   |false=>rfl|true=>
    have:=List.findIdx?_eq_none_iff.mp J v (UX.mpr ⟨z,N⟩)
    simp at this
  have f:=Eo hn z led l;have S:(intKind prog w).hash (v:Int)=(v:Int):=Pm v z;rw[S];rw[Bh f he];have H:=he.insert (tk:=tk) f;have i:(SetTable.insertAt p (Zt n v) ((v:Int),Value.int (v:Int) tk)).size=(qi (jJ n v)).length:=by rw[<- aS,H.length]
  generalize SetTable.insertAt p (Zt n v) ((v:Int),Value.int (v:Int) tk)=c at H i;dsimp only;refine ck (cm ?_);have M:(wC led n v).plain=true:=by unfold wC;exact VT led n
  rw[M];simp only[↓reduceIte];refine ck ?_;rw[hashByValue_scannable 8 (x:=.int (v:Int) tk) rfl];refine cm ?_;have B:plainKind (.int (v:Int) tk)=true:=rfl;rw[B];simp only[↓reduceIte];have q:c.size<=sizeLine:=by rw[i,sizeLine_eq];have:=YD (jJ n v);omega
  refine ck (wpAny_storeSet_of r hd ?_ q);have g:=Pn (es':=c) (t':=wC led n v) r hd;have d:=Heap.SameBut.update s.heap a (Obj.putSet c (wC led n v));rw[f.full]
  by_cases y:(qi (jJ n v)).length=5
  ·have T:SetTable.grown c.size=20:=by rw[i,y];rfl
   rw[T,f5 f y H,y];simp only[Bool.not_false,Bool.true_and,bE,↓reduceIte];refine ck (cm ?_);refine ck (wpAny_storeSet_of g rfl ?_ q);refine cm ?_;dsimp only;refine cm ?_;have D:=Pn (es':=c) (t':=jm led (jJ n v)) g rfl;refine h _ true (d.trans (Heap.SameBut.update _ a _)) ?_;unfold jR;rw[l];exact⟨_,c,I+1+1,D,hex,rfl,H,f.lt⟩
  ·have L:((qi (jJ n v)).length==5)=false:=by simpa using y
   rw[L];simp only[Bool.not_false,Bool.and_false,bb,↓reduceIte];refine cm ?_;dsimp only;refine cm ?_;refine h _ true d ?_;unfold jR;rw[l,ar aA,];refine⟨_,c,I+1,g,hex,?_,H,f.lt⟩;rw[f.less y]
end
noncomputable abbrev jz (w:World):Bool:=!w.params.followText "set-order"
def Zu (val:Nat->Nat)(i:Nat):Nat:=((List.range i).map val).foldl jR 0
def Du (val:Nat->Nat)(i:Nat):Zu val (i+1)=jR (Zu val i) (val i):=by
 unfold Zu;rw[bc,aO,List.foldl_append]
 rfl
section
variable {prog:Program}{A:Around}
def Rk (a:Value){Q1:bX}(h:Q1 (.ref s.heap.objs.size) { s with heap:=s.heap.push (yy (jz w)) }):
  codeAny (model prog w) A (.call (.builtin "set.__new__") ⟨[.type "set",a],[]⟩) (wants Q1 E) s:=by
 refine codeAny_of_tree ?_;show wpAny _ A.in1 (do checkBuiltinCall "set.__new__" ⟨[.type "set",a],[]⟩;again (.builtin "set.__new__" ⟨[.type "set",a],[]⟩)) _ _ s
 refine ck (wpAny_of_eq (F.newCall_set_1 a) (cm ⟨plainId_quiet F.plain_set_new _,codeAny_builtin F.entry_set_new ?_⟩));rw[Around.under_plainId F.plain_set_new _];unfold Builtin.«set.__new__» Builtin.Frozenset.newClass;have H:=sub_set_self;obtain⟨p,g,d,tk,os⟩:=s;dsimp only
 wp_walk
 refine wpAny_askSetting (cm ?_);dsimp only;simp only[newObj];refine ck (wpAny_alloc (cm ?_));exact cm h
end
section
variable {prog:Program}{A:Around}{R:Result->Shared->Prop}{I:Addr}{wr:bS}{G:Array GenState->Array GenState->Prop}{P:Nat->Value->Prop}{St:Nat->Shared->Prop}
def PJ (W:WalksS prog w A.in1 I fp wr G n P St)(S:Addr)(q:S∉fp)(led:Bool)(val:Nat->Nat)(l:∀i v,P i v->∃t,v=.int ((val i:Nat):Int) t)(M:∀i,i<n->val i<8):
  ∀(k i:Nat)(s:Shared),n-i=k->i<=n->St i s->j7 s.heap S led (Zu val i)->
   (∀s',Moved (S::wr) G s s'->j7 s'.heap S led (Zu val n)->R (.ok (.ret .none)) s')->
   codeAny (model prog w) A (.builtin "set.update.loop" ⟨[.ref S,.ref I],[]⟩) R s:=by
 have p:S∉wr:=λh=>q (W.sub _ h);have H:∀b∈wr,b∈S::wr:=λb j=>ao _ j;intro k
 induction k with
 |zero=>
  intro i s K hi a D E;have y:i=n:=by omega
  subst y;refine codeAny_builtin F.entry_set_update_loop ?_;rw[Around.under_plainId F.plain_set_update_loop _];show wpAny _ A.in1 (pyNext (.ref I) >>= _) _ _ s;refine ck (W.done s _ _ a λs' hm=>?_);show wpAny _ A.in1 (ret Value.none) _ _ s';exact cm (E s' (hm.mono H) (D.keep λo x=>hm.heap S _ p x))
 |succ k J=>
  intro i s K hi a D E;have c:i<n:=by omega
  refine codeAny_builtin F.entry_set_update_loop ?_;rw[Around.under_plainId F.plain_set_update_loop _];show wpAny _ A.in1 (pyNext (.ref I) >>= _) _ _ s;refine ck (W.item i s _ _ c a λv s' L d hm=>?_);obtain⟨t,rfl⟩:=l i v L;have C:j7 s'.heap S led (Zu val i):=D.keep λo x=>hm.heap S _ p x;show wpAny _ A.in1 (holding [Value.int ((val i:Nat):Int) t] (setAdd S (.int ((val i:Nat):Int) t)) >>= _) _ _ s';refine ck (wpAny_holding ?_);unfold setAdd;refine wpAny_holding ?_;refine ck ((intKind prog w).pyHash (k:=((val i:Nat):Int)) (intKind_is _ _ _ _) ?_);refine FN (s:={ s' with toks:=s'.toks+1 }) C (M i c) λh' b f B=>?_
  have z:j7 h' S led (Zu val (i+1)):=by rw[Du];exact B
  refine cm ⟨plainId_quiet F.plain_set_update_loop _,J (i+1) _ (by omega) c (W.frame _ s' _ _ d (le_succ _) λb j o e=>?_) z λu g r=>?_⟩
  ·rw[f.2 b (λh:b=S=>q (by rw[<- h];exact j))];exact e
  ·refine E u (Moved.trans W.gtrans ((hm.mono H).then_heap (le_succ _) λb o j e=>?_) g) r
   rw[f.2 b (λh:b=S=>j (by rw[h];exact ax))];exact e
end
section
variable {prog:Program}{A:Around}
def NN (led:Bool)(g:h.get? a=some (yy led)):j7 h a led 0:=
 ⟨_,#[],0,g,⟨rfl,rfl,rfl⟩,(by cases led<;>rfl),.nil,by decide⟩
def Ig {l:Addr}(C:A.handled=none)(y:s.heap.IsList l its.toArray)(j:IntsAre its (vs.map λ(v:Nat)=>(v:Int)))(D:∀v∈vs,v<8)
  (h:∀(h':Heap)(tk:Nat),j7 h' s.heap.objs.size led (vs.foldl jR 0)->
   (∀b o,b<s.heap.objs.size->s.heap.get? b=some o->h'.get? b=some o)->Q .none { s with heap:=h',toks:=tk }):
  codeAny (model prog w) A (.call (.builtin "set.__init__") ⟨[.ref s.heap.objs.size,.ref l],[]⟩) (wants Q E) { s with heap:=s.heap.push (yy led) }:=by
 have hlen:its.length=vs.length:=by
  have:∀{its:bR}{ns:bQ},IntsAre its ns->its.length=ns.length:=λh=>by
   induction h with
   |nil=>rfl|cons _ _ _ I=>simp[I]
  rw[this j,ag]
 have S:(s.heap.push (yy led)).get? s.heap.objs.size=some (yy led):=au _ rfl;refine codeAny_call_builtin F.called_set.init.plain F.entry_set_init (check_set_init_1 ⟨_,S,rfl⟩ ?_);obtain⟨ob,d,a,n,p⟩:=y;obtain⟨P,N,x,u⟩:=ob;dsimp only at a p;cases a;cases p;have g1:=af (yy led) d;have n1:=F.sub_list_set;have X:=F.sub_list_frozenset;have U:(Value.type "list" == Value.type "dict")=false:=by decide
 have q:(s.heap.push (yy led)).IsList l its.toArray:=⟨_,g1,rfl,n,rfl⟩;unfold Builtin.«set.__init__» noKeywords Builtin.Frozenset.updateFrom;generalize B:pyIter=PI
 wp_walk
 subst B;refine wpAny_pyIter_list q (ck (wpAny_runValue ?_));have lt:l<s.heap.objs.size:=aH d;have sz:(s.heap.push (yy led)).objs.size=s.heap.objs.size+1:=bf ..;have ne:l≠(s.heap.push (yy led)).objs.size:=by rw[sz];exact aK (a8 lt)
 have W:=(Walks.list (prog:=prog) (w:=w) (A:=A.in1.in1) (by simp[C]) (s.heap.push (yy led)).objs.size l ne its.toArray).toS
 have f:its.toArray.size=vs.length:=by rw[aC];exact hlen
 rw[f]at W;have off:s.heap.objs.size∉[(s.heap.push (yy led)).objs.size,l]:=by
  rw[sz];intro hm;rcases cn.mp hm with z|hm
  ·exact aK (bj _) z
  ·exact bp lt (cy.mp hm)
 have H:Zu (λi=>vs.getD i 0) vs.length=vs.foldl jR 0:=by
  unfold Zu
  congr 1
  apply bC
  ·simp
  ·intro i d a
   have hi:i<vs.length:=by simpa using a
   simp[ae,aa hi]
 refine PJ W s.heap.objs.size off led (λi=>vs.getD i 0) (λi v e=>?_) (λi hi=>?_) vs.length 0 _ rfl (zero_le _) ⟨⟨_,au _ rfl,rfl,rfl⟩,q.push _⟩ ?_ ?_
 ·obtain⟨t,g⟩:=IntsAre.int_at j i v (by simpa using e)
  refine⟨t,g.trans ?_⟩;have hi:i<vs.length:=by
   have:=(cq.mp (show its[i]? =some v by simpa using e)).1
   omega
  congr 1
  simp[ae,aw,aa hi]
 ·rw[ae,aa hi]
  exact D _ (aN hi)
 ·exact NN led (af _ S)
 ·intro s' M r
  rw[H]at r;obtain⟨h',g',d',T,c⟩:=s';have K:g'=s.gens:=M.gens;have g:d'=s.drawn:=M.drawn;have J:c=s.os:=M.os;subst K g J;refine cm ?_;show wpAny _ _ (ret Value.none) _ _ _;refine cm (h h' T r λb o L e=>M.heap b o (λhm=>?_) (af _ (af _ e)));rcases cn.mp hm with z|hm
  ·exact aK L z
  ·exact aK (a8 L) ((cy.mp hm).trans sz)
def L1 {l:Addr}(j:A.handled=none)(t:s.heap.IsList l its.toArray)(i:IntsAre its (vs.map λ(v:Nat)=>(v:Int)))(n:∀v∈vs,v<8)
  (h:∀(h':Heap)(tk:Nat),j7 h' s.heap.objs.size (jz w) (vs.foldl jR 0)->
   (∀b o,b<s.heap.objs.size->s.heap.get? b=some o->h'.get? b=some o)->Q (.ref s.heap.objs.size) { s with heap:=h',toks:=tk }):
  wpAny (model prog w) A (call (.type "set") [.ref l]) Q E s:=by
 obtain⟨c,q,d⟩:=F.called_set.mro;have a1:=F.called_set.made;have a2:=F.called_set.sub;have C:=F.called_set.notType;have z:=F.called_set.canCreate;have y:=F.typeCall_set_1 (.ref l);refine wpAny_call (codeAny_of_tree ?_);show wpAny _ _ (callAny (.type "set") _) _ _ _;refine cm ⟨Code.quiet_builtin _ (by decide +kernel),codeAny_builtin F.entry_type_call ?_⟩
 rw[Around.under_plain (weight_type_call_type "set" [.ref l] []) rfl]
 repeat (any_goals (first|assumption|wp_step))
 refine codeAny_mono (Rk (.ref l) (E:=E) (Q1:=λu s1=>u=.ref s.heap.objs.size/\s1={ s with heap:=s.heap.push (yy (jz w)) }) ⟨rfl,rfl⟩) λr s1 a=>?_
 cases r with
 |error e=>exact a|ok p=>
  cases p with
  |ret u=>
   obtain⟨rfl,rfl⟩:=a;have T:Shared.TypeIs { s with heap:=s.heap.push (yy (jz w)) } (.ref s.heap.objs.size) "set":=⟨_,au _ rfl,rfl⟩
   have x:=F.called_set.init.lookup;have B:=F.called_set.init.bind (.ref s.heap.objs.size)
   repeat (any_goals (first|assumption|wp_step))
   refine codeAny_mono (Ig (E:=E) (Q:=λv s2=>v=.none/\∃h' tk,s2={ s with heap:=h',toks:=tk }/\j7 h' s.heap.objs.size (jz w) (vs.foldl jR 0)/\
    ∀b o,b<s.heap.objs.size->s.heap.get? b=some o->h'.get? b=some o) (by simp[j]) t i n λh' tk S K=>⟨rfl,h',tk,rfl,S,K⟩) λg s2 H=>?_
   cases g with
   |error e=>exact H|ok f=>
    cases f with
    |ret v=>
     obtain⟨rfl,h',tk,rfl,S,K⟩:=H
     repeat (any_goals (first|assumption|wp_step))
     exact h _ _ S K
    |_=>exact H.elim
  |_=>exact a.elim
end
theorem Pz:∀{l:List α}{k:Nat}{w:α},l[k]? =some w->l.Perm (w::l.eraseIdx k)
 |[],_,_,h=>by simp at h|x::l,0,w,h=>by
  simp at h;subst h;simp
 |x::l,k+1,w,h=>by
  rw[List.getElem?_cons_succ]at h;rw[List.eraseIdx_cons_succ];exact((Pz h).cons x).trans (List.Perm.swap w x _)
def Ab (next:Nat->Nat):∀(f k:Nat)(left:List α)(out:Array α),left.length=f->(pickOrder.go next f k left out).toList.Perm (out.toList++left):=by
 intro f
 induction f with
 |zero=>
  intro k left out h
  have:left=[]:=List.length_eq_zero_iff.mp h
  subst this;unfold pickOrder.go;simp
 |succ f i=>
  intro k left out h;have H:next k%left.length<left.length:=Nat.mod_lt _ (by omega)
  unfold pickOrder.go;rw[aa H];dsimp only;refine(i (k+1) _ _ (by rw[List.length_eraseIdx_of_lt H];omega)).trans ?_
  rw[Array.toList_push,aQ];exact List.Perm.append_left _ (Pz (aa H)).symm
def Dl (next:Nat->Nat)(xs:Array α):(pickOrder next xs).toList.Perm xs.toList:=by
 unfold pickOrder
 have:=Ab next xs.size 0 xs.toList #[] (by simp)
 simpa using this
namespace F
def L8:entryFor table "set.__iter__"=some Builtin.«frozenset.__iter__»:=entryFor_alias (id' := "frozenset.__iter__") (by kernel_rfl) rfl (by decide +kernel) (by kernel_rfl)
def MZ:entryFor table "set_iterator.__iter__"=some Builtin.«dict_keyiterator.__iter__»:=entryFor_alias (id' := "dict_keyiterator.__iter__") (by kernel_rfl) rfl (by decide +kernel) (by kernel_rfl)
def Sb:Manifest.owners.lookup (String.ofList ['r','o','t','a','r','e','t','i','_','t','e','s'].reverse)=some Manifest.sig_set_iterator:=by kernel_rfl
def J9:Slot "set_iterator" "__next__" "set_iterator.__next__":=
 .of (owner := "set_iterator") (n := "__next__") (by rw[typeLookup_type,builtinLookup_eq_fast];kernel_rfl) (by decide +kernel) (by decide +kernel) (by decide +kernel)
  (by first|exact .inl (by decide +kernel)|exact .inr (by decide +kernel)) (by rw[isSubtype_type];kernel_rfl)
def T4:entryFor table "set_iterator.__next__"=some Builtin.«set_iterator.__next__»:=entryFor_of_tree (by kernel_rfl)
def T3 (a:Value):argsOk "set_iterator.__next__" ⟨[a],[]⟩:=by
 unfold argsOk;rw[signature?_of (id := "set_iterator.__next__") (n:=['_','_','t','x','e','n','_','_']) (o:=['r','o','t','a','r','e','t','i','_','t','e','s']) (by kernel_rfl) Sb];kernel_rfl
def MY (a:Value):argsOk "set_iterator.__iter__" ⟨[a],[]⟩:=by
 unfold argsOk;rw[signature?_of (id := "set_iterator.__iter__") (n:=['_','_','r','e','t','i','_','_']) (o:=['r','o','t','a','r','e','t','i','_','t','e','s']) (by kernel_rfl) Sb];kernel_rfl
def T5:Slot "set_iterator" "__iter__" "set_iterator.__iter__":=
 .of (owner := "set_iterator") (n := "__iter__") (by rw[typeLookup_type,builtinLookup_eq_fast];kernel_rfl) (by decide +kernel) (by decide +kernel) (by decide +kernel)
  (by first|exact .inl (by decide +kernel)|exact .inr (by decide +kernel)) (by rw[isSubtype_type];kernel_rfl)
end F
def K7 (n i:Nat):Nat:=match i with
 |0=>0|i+1=>(qi n).getD i 0+1
def Nr (n i:Nat):Bool:=decide ((qi n).length<i) || (SetTable.below (qi n).toArray (K7 n i)==i)
def CA:((List.range 256).all λn=>(List.range 9).all λi=>Nr n i)=true:=by decide +kernel
def Ci (hn:n<256)(hi:i<=(qi n).length):SetTable.below (qi n).toArray (K7 n i)=i:=by
 have H:=YD n;have h:=cx.mp (cx.mp CA n (cu.mpr hn)) i (cu.mpr (by omega))
 unfold Nr at h;rw[az (by omega),Bool.false_or,aM]at h
 exact h
def Jy (h:Heap)(I S:Addr)(slot i n e:Nat):Prop:=∃o,h.get? I=some o/\o.cls=.type "set_iterator" /\ o.data=.fields #[.int slot 0,.int i 0,.ref S,.int n 0,.int e 0]
noncomputable def kC (w:World)(a:Addr)(E:Nat)(e:Array (Int×Value)):Array (Int×Value):=if w.params.followText "set-order" then pickOrder (w.params.setOrder a E) e else e
def Kw (w:World)(a:Addr)(E:Nat)(e:Array (Int×Value)):(kC w a E e).toList.Perm e.toList:=by
 unfold kC
 split
 ·exact Dl _ _
 ·exact List.Perm.refl _
def gi (w:World)(n i:Nat):Nat:=if w.params.followText "set-order" then 0 else K7 n i
section
variable {prog:Program}{A:Around}{o:Obj}{es:Array (Int×Value)}{ep:Nat}
def VB {Q:Bool->Shared->Prop}(h:Q (w.params.followText "set-order") s):wpAny (model prog w) A setsByText Q E s:=by
 unfold setsByText;exact ck (wpAny_askSetting (cm h))
def LF (H:s.heap.get? a=some o)(hex:o.ExactSet)(hd:o.data=.set es ep (jm (jz w) n))(he:jE es.toList (qi n))(hn:n<256)
  (c:Q (.ref s.heap.objs.size) { s with heap:=s.heap.push { cls:=.type "set_iterator",data:=.fields #[.int 0 0,.int 0 0,.ref a,.int es.size 0,.int ep 0] } }):
  wpAny (model prog w) A (pyIter (.ref a)) Q E s:=by
 have T:s.TypeIs (.ref a) "set":=⟨o,H,hex.1⟩;have hlen:es.size=(qi n).length:=by rw[<- aS,he.length]
 have hf:(jm (jz w) n).fits es.size=true:=by rw[hlen];exact fits_of hn _
 refine wpAny_pyIter_slot T slot_set_iter (wpAny_call_entry slot_set_iter T F.L8 ?_ (PySem.F.args_set_iter_1 _));unfold Builtin.«frozenset.__iter__»;show wpAny _ _ (Builtin.Frozenset.sizeOf a >>= _) _ _ s;unfold Builtin.Frozenset.sizeOf;refine ck (ck (wpAny_setEntries_of H hd hf (cm ?_)));unfold setDrawn;refine ck (ck (wpAny_setState_of H hd hf ?_));dsimp only;refine ck (VB (cm ?_));rw[ar (λh=>by
  have b:(!w.params.followText "set-order" && (!(jm (jz w) n).plain&&decide (es.size > 1)))=true:=h;rw[VT]at b;simp at b)]
 refine ck (cm ?_);refine ck (wpAny_setEpoch_of H hd hf ?_);exact ck (wpAny_newObj_type (cm ⟨_,rfl,"set_iterator",_,⟨_,au _ rfl,rfl⟩,F.J9.lookup,c⟩))
def S6 {Q:Option (Value×Nat)->Shared->Prop}(c:s.heap.get? a=some o)(hd:o.data=.set es ep (jm (jz w) n))(he:jE es.toList (qi n))(hn:n<256)(hi:i<=es.size)
  (h:Q (((kC w a ep es)[i]?).map λe=>(e.2,gi w n (i+1))) s):wpAny (model prog w) A (setNext a (gi w n i) i ep) Q E s:=by
 have hlen:es.size=(qi n).length:=by rw[<- aS,he.length]
 have hf:(jm (jz w) n).fits es.size=true:=by rw[hlen];exact fits_of hn _
 unfold setNext;refine ck (wpAny_setState_of c hd hf ?_);dsimp only;refine ck (VB ?_);unfold kC gi at h;cases t:w.params.followText "set-order" with
 |true=>
  rw[t]at h;simp only[↓reduceIte]at h ⊢;have p:¬((ep != ep)=true):=by simp
  rw[ar p];unfold setWalk;refine ck (ck (wpAny_setState_of c hd hf ?_));dsimp only;refine ck (VB ?_);rw[t];simp only[↓reduceIte];refine ck (wpAny_askSetting (cm (cm ?_)));unfold gi;rw[t];exact h
 |false=>
  rw[t]at h;simp only[bb,↓reduceIte]at h ⊢;rw[ar (λh=>by
   have f:(!(jm (jz w) n).plain&&decide (es.size > 1))=true:=h;rw[VT]at f;simp at f)]
  have d:(jm (jz w) n).led=true:=by rw[Ak];unfold jz;rw[t];rfl
  refine ck ?_;show wpAny _ _ (if (!(jm (jz w) n).led&&!es.isEmpty)=true then unsupported "set:maker-not-led" else pure ()) _ _ _;rw[d];simp only[Bool.not_true,Bool.false_and,bb,↓reduceIte];refine cm ?_;have l:SetTable.below (jm (jz w) n).place (gi w n i)=i:=by
   rw[P5];unfold gi;rw[t];exact Ci hn (by omega)
  rw[l,P5];refine cm ?_
  by_cases b:i<es.size
  ·have v:(qi n)[i]? =some ((qi n)[i]'(by omega)):=aa (by omega)
   have j:(qi n).toArray[i]? =some ((qi n)[i]'(by omega)):=by rw[List.getElem?_toArray];exact v
   have H:es[i]? =some es[i]:=Array.getElem?_eq_getElem b;rw[H]at h;rw[H,j];dsimp only;have g:K7 n (i+1)=(qi n)[i]'(by omega)+1:=by
    show(qi n).getD i 0+1=_;rw[ae,v]
    rfl
   rw[g]at h;exact h
  ·have H:es[i]? =none:=Array.getElem?_eq_none (by omega)
   rw[H]at h;rw[H];exact h
def M0 {I:Addr}{e:Int×Value}{Q:Option Value->Shared->Prop}(hit:Jy s.heap I a (gi w n i) i es.size ep)(d:s.heap.get? a=some o)(hex:o.ExactSet)(hd:o.data=.set es ep (jm (jz w) n))(he:jE es.toList (qi n))(hn:n<256)(x:(kC w a ep es)[i]? =some e)
  (g:∀h',Jy h' I a (gi w n (i+1)) (i+1) es.size ep->Heap.SameBut I s.heap h'->Q (some e.2) { s with heap:=h' }):
  wpAny (model prog w) A (pyNext (.ref I)) Q E s:=by
 obtain⟨c,H,f,h⟩:=id hit;have T:s.TypeIs (.ref I) "set_iterator":=⟨c,H,f⟩;have hlen:es.size=(qi n).length:=by rw[<- aS,he.length]
 have hf:(jm (jz w) n).fits es.size=true:=by rw[hlen];exact fits_of hn _
 unfold pyNext;refine ck (wpAny_attempt (wpAny_callSpecial?_slot (name:=Str.ofString "__next__") T F.J9
  (wpAny_call_entry F.J9 T F.T4 ?_ (F.T3 _))))
 unfold Builtin.«set_iterator.__next__»;show wpAny _ _ (fieldsOf (.ref I) >>= _) _ _ s;refine ck (wpAny_fieldsOf H h ?_);dsimp only;refine ck (wpAny_setEntries_of d hd hf ?_);rw[ar (by simp)]
 have hi:i<es.size:=by
  have b:=(Array.getElem?_eq_some_iff.mp x).1;have j:=(Kw w a ep es).length_eq;simp at j;omega
 simp only[aG];refine ck (S6 d hd he hn (bD hi) ?_);rw[x];dsimp only[Option.map_some];refine ck (wpAny_setField H h (by simp) ?_)
 have b:(s.heap.update I (Obj.mapFields (·.setIfInBounds 0 (rawInt (gi w n (i+1)))))).get? I=some (Obj.mapFields (·.setIfInBounds 0 (rawInt (gi w n (i+1)))) c):=aZ _ H (Obj.isFreed_of_fields (Obj.data_mapFields h _));refine ck (wpAny_setField b (Obj.data_mapFields h _) (by simp) ?_)
 refine cm ⟨e.2,rfl,cm (g _ ?_ ((Heap.SameBut.update ..).trans (Heap.SameBut.update ..)))⟩;refine⟨_,aZ _ b (Obj.isFreed_of_fields (Obj.data_mapFields (Obj.data_mapFields h _) _)),(Obj.cls_mapFields ..).trans ((Obj.cls_mapFields ..).trans f),?_⟩;rw[Obj.data_mapFields (Obj.data_mapFields h _)];simp[rawInt]
def M3 {I:Addr}{Q:Option Value->Shared->Prop}(d:A.handled=none)(hit:Jy s.heap I a (gi w n es.size) es.size es.size ep)(c:s.heap.get? a=some o)(hex:o.ExactSet)(hd:o.data=.set es ep (jm (jz w) n))(he:jE es.toList (qi n))(hn:n<256)
  (g:∀h',Heap.ExtBut I s.heap h'->Q none { s with heap:=h' }):wpAny (model prog w) A (pyNext (.ref I)) Q E s:=by
 obtain⟨i,h,f,H⟩:=id hit;have e:s.TypeIs (.ref I) "set_iterator":=⟨i,h,f⟩;have hlen:es.size=(qi n).length:=by rw[<- aS,he.length]
 have hf:(jm (jz w) n).fits es.size=true:=by rw[hlen];exact fits_of hn _
 unfold pyNext;refine ck (wpAny_attempt (wpAny_callSpecial?_slot (name:=Str.ofString "__next__") e F.J9
  (wpAny_call_entry F.J9 e F.T4 ?_ (F.T3 _))))
 unfold Builtin.«set_iterator.__next__»;show wpAny _ _ (fieldsOf (.ref I) >>= _) _ _ s;refine ck (wpAny_fieldsOf h H ?_);dsimp only;refine ck (wpAny_setEntries_of c hd hf ?_);rw[ar (by simp)]
 simp only[aG];refine ck (S6 c hd he hn (av _) ?_);have x:(kC w a ep es)[es.size]? =none:=Array.getElem?_eq_none (by
  have j:=(Kw w a ep es).length_eq;simp at j;omega)
 rw[x];dsimp only[Option.map_none];refine ck (wpAny_setField h H (by simp) ?_)
 show wpAny _ _ (newExc (.type "StopIteration") [] >>= _) _ _ _;refine ck ?_;simp only[newExc,newTuple];refine ck (wpAny_newObj_type ?_ (by size_fits))
 refine ck (m:=firstArgMember _ _) (wpAny_of_eq (a:=Value.none) (by first|rfl|(simp only[firstArgMember];rfl)) ?_)
 refine wpAny_newObj_type ?_ (by size_fits)
 simp only[raiseNew];refine ck (wpAny_handled ?_)
 first|rw[show A.in1.handled=none from d]|rw[d]
 refine ck (cm (wpAny_throw ?_));refine ck (wpAny_isInstance (T := "StopIteration") (b:=true) ⟨_,au _ rfl,rfl⟩ isSubtype_stop ?_);exact cm (g _ (((Heap.SameBut.update ..).extBut.push _).push _))
end
def Jy.typeIs {I S:Addr}{slot e:Nat}(h:Jy s.heap I S slot i n e):s.TypeIs (.ref I) "set_iterator":=let ⟨o,H,c,_⟩:=h;⟨o,H,c⟩
section
variable {prog:Program}{A:Around}{o:Obj}{es:Array (Int×Value)}{ep:Nat}
def M6 {I S:Addr}{slot m e:Nat}(hit:Jy s.heap I S slot i m e)(h:Q (.ref I) s):wpAny (model prog w) A (pyIter (.ref I)) Q E s:=by
 refine wpAny_pyIter_slot hit.typeIs F.T5 (wpAny_call_entry F.T5 hit.typeIs F.MZ ?_ (F.MY _));show wpAny _ _ (ret (.ref I)) _ _ s;exact cm ⟨_,rfl,"set_iterator",_,hit.typeIs,F.J9.lookup,h⟩
def Walks.setP (q:A.handled=none)(I a:Addr)(g:a≠I)(hex:o.ExactSet)(hd:o.data=.set es ep (jm (jz w) n))(he:jE es.toList (qi n))(hn:n<256):
  Walks prog w A I [I,a] [I] es.size (λi v=>∃e,(kC w a ep es)[i]? =some e/\v=e.2) (λi h=>Jy h I a (gi w n i) i es.size ep/\h.get? a=some o) where
 sub:=λb H=>by simp at H;simp[H]
 frame:=λ_ _ _ st p=>⟨let ⟨x,h1,r⟩:=st.1;⟨x,p I (by simp) x h1,r⟩,p a (by simp) o st.2⟩
 item:=λi s Q E hi st f=>by
  have z:(kC w a ep es).size=es.size:=by have:=(Kw w a ep es).length_eq;simpa using this
  have l:(kC w a ep es)[i]? =some ((kC w a ep es)[i]'(by omega)):=Array.getElem?_eq_getElem (by omega)
  refine M0 st.1 st.2 hex hd he hn l λh' d c=>?_;refine f _ h' s.toks ⟨_,l,rfl⟩ ⟨d,?_⟩ λb o H e=>c.extBut b o (λh=>H (by simp[h])) e
  exact c.extBut a o g st.2
 done:=λs Q E st f=>M3 q st.1 st.2 hex hd he hn λh' j=>f h' s.toks λb o H e=>j b o (λh=>H (by simp[h])) e
 self:=λ_ _ _ _ st f=>M6 st.1 f
def FL:typeLookup (.type "set") "__len__"=pure (some (.builtin "set.__len__")):=by rw[typeLookup_type,builtinLookup_eq_fast];kernel_rfl
def Lo {Q:List Value->Shared->Prop}(hh:A.handled=none)(J:s.heap.get? a=some o)(hex:o.ExactSet)(hd:o.data=.set es ep (jm (jz w) n))(he:jE es.toList (qi n))(hn:n<256)
  (hQ:∀(h':Heap)(tk:Nat),(∀b o,b<s.heap.objs.size->s.heap.get? b=some o->h'.get? b=some o)->s.heap.objs.size<=h'.objs.size->Q ((kC w a ep es).toList.map (·.2)) { s with heap:=h',toks:=tk }):
  wpAny (model prog w) A (collect (.ref a)) Q E s:=by
 have hT0:s.TypeIs (.ref a) "set":=⟨o,J,hex.1⟩;have t:a<s.heap.objs.size:=aH J;unfold collect;refine ck (wpAny_runValue (codeAny_builtin PySem.F.entry_proto_collect ?_));rw[Around.under_plainId PySem.F.plain_proto_collect _];show wpAny _ A.in1 (newList [] >>= λl=>again (.builtin "list.__iadd__" ⟨[l,.ref a],[]⟩)) _ _ s;refine ck (wpAny_newObj_type ?_);refine cm ⟨plainId_quiet PySem.F.plain_list_iadd _,codeAny_builtin PySem.F.entry_list_iadd ?_⟩;rw[Around.under_plainId PySem.F.plain_list_iadd _];show wpAny _ A.in1 (Builtin.List.listExtendWith (.ref s.heap.objs.size) (.ref a) (.ref s.heap.objs.size)) _ _ _;have f:(s.heap.push { cls:=.type "list",data:=.seq ([]:bR).toArray }).get? a=some o:=af _ J;have hT:Shared.TypeIs { s with heap:=s.heap.push { cls:=.type "list",data:=.seq ([]:bR).toArray } } (.ref a) "set":=⟨o,f,hex.1⟩
 unfold Builtin.List.listExtendWith;refine ck (wpAny_typeOf hT ?_);have C:Builtin.List.listSameRef (.ref s.heap.objs.size) (.ref a)=false:=by simp[Builtin.List.listSameRef];exact bp t
 have Y:(Value.type "set" == Value.type "list")=false:=by decide
 have X:(Value.type "set" == Value.type "tuple")=false:=by decide
 simp only[C,Y,X,Bool.or_false,bb,if_false];refine ck (LF f hex hd he hn ?_);refine ck (wpAny_holding ?_);unfold Builtin.List.listLengthHint;generalize B:s.heap.push { cls:=.type "list",data:=.seq ([]:bR).toArray }=H;have p:H.objs.size=s.heap.objs.size+1:=by rw[<- B,bf]
 have r:H.get? a=some o:=by rw[<- B];exact f
 have U:H.get? s.heap.objs.size=some { cls:=.type "list",data:=.seq ([]:bR).toArray }:=by rw[<- B];exact au _ rfl
 generalize i:({ cls:=.type "set_iterator",data:=.fields #[.int 0 0,.int 0 0,.ref a,.int es.size 0,.int ep 0] }:Obj)=io;have g:Shared.TypeIs { s with heap:=H.push io } (.ref a) "set":=⟨o,af _ r,hex.1⟩
 have M:(H.push io).get? H.objs.size=some io:=au _ (by rw[<- i];rfl)
 refine ck (wpAny_specialOf g FL ?_)
 wp_delta
 refine ck (wpAny_isInstance (b:=true) g (by rw[isSubtype_type];kernel_rfl) ?_)
 show wpAny _ A.in1 (typeOf (Value.ref a) >>= _) _ _ _;refine ck (wpAny_typeOf g ?_);refine cm ?_;show wpAny _ A.in1 (rule "list.extend.makes-room" >>= λ_=>Builtin.List.listTouch (.ref s.heap.objs.size) >>= λ_=>
  again (.builtin "list.extend.loop" ⟨[.ref s.heap.objs.size,.ref H.objs.size,.ref s.heap.objs.size],[]⟩)) _ _ _
 refine ck (wpAny_rule ?_);have v:(H.push io).get? s.heap.objs.size=some { cls:=.type "list",data:=.seq ([]:bR).toArray }:=af _ U;refine ck ?_;show wpAny _ A.in1 (updateSeq s.heap.objs.size (·.push .none) >>= λ_=>updateSeq s.heap.objs.size (·.pop)) _ _ _;refine ck (wpAny_updateSeq v rfl ?_);have u:=aZ (Obj.mapSeq (·.push Value.none)) v rfl;refine wpAny_updateSeq u rfl ?_;have P:=aZ (Obj.mapSeq (·.pop)) u rfl;have d:∀b o,b≠s.heap.objs.size->(H.push io).get? b=some o->(((H.push io).update s.heap.objs.size (Obj.mapSeq (·.push Value.none))).update s.heap.objs.size (Obj.mapSeq (·.pop))).get? b=some o:=
  λb o q e=>(aR _ _ (Ne.symm q)).trans ((aR _ _ (Ne.symm q)).trans e)
 have K:a≠H.objs.size:=by rw[p];exact aK (a8 t)
 have y:H.objs.size≠s.heap.objs.size:=by rw[p];exact Nat.succ_ne_self _
 have S:a≠s.heap.objs.size:=aK t;have W:=(Walks.setP (prog:=prog) (w:=w) (A:=A.in1) (by simp[hh]) H.objs.size a K hex hd he hn).toS
 have N:s.heap.objs.size∉[H.objs.size,a]:=λhm=>by
  rcases cn.mp hm with z|hm
  ·exact y z.symm
  ·exact S (cy.mp hm).symm
 have hlen:es.size=(qi n).length:=by rw[<- aS,he.length]
 have h8:=YD n;refine cm ⟨plainId_quiet PySem.F.plain_extend_loop _,codeAny_extend_loopS W (by rw[sizeLine_eq];omega) _ N _ es.size 0 _ _ _ rfl (zero_le _) ⟨?_,d a o S (af _ r)⟩ P (ItemsOf.nil _) λs' c c' hm x h=>?_⟩
 ·refine⟨io,d _ _ y M,by rw[<- i],?_⟩
  rw[<- i]
  have:gi w n 0=0:=by unfold gi K7;split<;>rfl
  rw[this]
  rfl
 show wpAny _ A (load s.heap.objs.size >>= _) _ _ s';refine ck (wpAny_load x ?_);have hl:c.toList=(kC w a ep es).toList.map (·.2):=by
  have I:(kC w a ep es).size=es.size:=by have:=(Kw w a ep es).length_eq;simpa using this
  apply ext_getElem?
  intro j
  by_cases Z:j<es.size
  ·have C:c[j]? =some (c[j]'(by rw[h.1];exact Z)):=Array.getElem?_eq_getElem (by rw[h.1];exact Z)
   obtain⟨e,Y,X⟩:=h.2 j _ C;rw[bz,C,aw,bz,Y,X]
   rfl
  ·rw[aF (by rw[aS,h.1];omega),aF (by rw[ag,aS,I];omega)]
 show wpAny _ A (pure c.toList) _ _ s';rw[hl];obtain⟨h',g',d',T,D⟩:=s';have e1:g'=s.gens:=hm.gens;have e2:d'=s.drawn:=hm.drawn;have e3:D=s.os:=hm.os;subst e1 e2 e3;refine cm (hQ h' T (λb ob q e=>?_) ?_)
 ·refine hm.heap b ob (λL=>?_) (d b ob (aK q) (af _ (by rw[<- B];exact af _ e)))
  rcases cn.mp L with z|z
  ·exact aK q z
  ·exact aK (a8 q) ((cy.mp z).trans p)
 ·exact bD (aH (show h'.get? s.heap.objs.size=_ from x))
end
open PySem PySem.Spec PyProof.Rows L2
theorem PX:∀{a b:bQ},a.Perm b->a.Pairwise (·<=·)->b.Pairwise (·<=·)->a=b
 |[],b,p,_,_=>by rw[List.nil_perm.mp p]|x::a,[],p,_,_=>absurd p.length_eq (by simp)|x::a,y::b,p,H,h=>by
  have d:x∈y::b:=p.mem_iff.mp (ax ..);have c:y∈x::a:=p.mem_iff.mpr (ax ..);have e:x=y:=by
   rcases cn.mp d with e|e
   ·exact e
   ·rcases cn.mp c with E|E
    ·exact E.symm
    ·have g:=(List.pairwise_cons.mp h).1 x e
     have f:=(List.pairwise_cons.mp H).1 y E;omega
  subst e;rw[PX (List.Perm.cons_inv p) (List.pairwise_cons.mp H).2 (List.pairwise_cons.mp h).2]
def f6 (n v i:Nat):(jR n v).testBit i=(n.testBit i || decide (i=v)):=by
 unfold jR
 by_cases h:n.testBit v=true
 ·rw[ah h]
  by_cases e:i=v
  ·subst e;simp[h]
  ·simp[e]
 ·rw[ar h]
  unfold jJ;rw[Nat.testBit_or,Nat.one_shiftLeft,Nat.testBit_two_pow]
  congr 1
  by_cases e:v=i
  ·subst e;simp
  ·simp[e,Ne.symm e]
theorem Oo (i:Nat):∀(vs:bU)(n:Nat),(vs.foldl jR n).testBit i=(n.testBit i || decide (i∈vs))
 |[],n=>by simp|v::vs,n=>by
  rw[List.foldl_cons,Oo i vs,f6]
  by_cases e:i=v
  ·simp[e]
  ·simp[e]
def Ob (vs:bU):qi (vs.foldl jR 0)=(List.range 8).filter λi=>decide (i∈vs):=by
 unfold qi
 congr 1
 funext i
 rw[Oo];simp
def EF (n:Nat):((qi n).map λ(i:Nat)=>(i:Int)).Pairwise (·<=·):=by
 rw[List.pairwise_map];unfold qi;refine List.Pairwise.imp ?_ (List.Pairwise.filter _ List.pairwise_lt_range);intro a b h;omega
def jE.snd (h:jE es vs):∀e∈es,∃tk,e.2=.int e.1 tk:=by
 induction h with
 |nil=>intro e he;cases he|cons v tk h i=>
  intro e he;rcases cn.mp he with rfl|he
  ·exact⟨tk,rfl⟩
  ·exact i e he
theorem Rf:∀{l:List (Int×Value)},(∀e∈l,∃tk,e.2=.int e.1 tk)->IntsAre (l.map (·.2)) (l.map (·.1))
 |[],_=>.nil|e::l,h=>by
  obtain⟨tk,he⟩:=h e (ax ..);rw[aX,aX,he];exact .cons _ tk (Rf λx H=>h x (ao _ H))
section
variable {prog:Program}{A:Around}{o:Obj}{es:Array (Int×Value)}{ep:Nat}
def Fg (u:A.handled=none)(S:j7 s.heap a (jz w) n)
  (h:∀(h':Heap)(tk:Nat)(l:Addr)(I:bR)(c:Nat),s.heap.objs.size<=l->h'.get? l=some { cls:=.type "list",data:=.seq I.toArray c }->IntsAre I ((qi n).map λ(i:Nat)=>(i:Int))->
   (∀b o,s.heap.get? b=some o->h'.get? b=some o)->Q (.ref l) { s with heap:=h',toks:=tk }):
  wpAny (model prog w) A (call (.builtin "sorted") [.ref a]) Q E s:=by
 obtain⟨o,f,p,t,hex,hd,he,hn⟩:=S;refine Calls.call_function_entry kind_sorted plain_sorted entry_sorted (args_sorted1 _) ?_;unfold Builtin.«sorted»;refine ck (m:=checkCount "sorted" 1 1 _) (cm ?_);refine ck (Lo (by simp[u]) t hex hd he hn λd tk kp hle=>?_)
 have g:=Kw w a p f;have q:IntsAre ((kC w a p f).toList.map (·.2)) ((kC w a p f).toList.map (·.1)):=Rf λe hm=>he.snd e (g.mem_iff.mp hm);have H:((kC w a p f).toList.map (·.1)).Perm ((qi n).map λ(i:Nat)=>(i:Int)):=by
  rw[<- he.map1];exact g.map _
 have hlen:((kC w a p f).toList.map (·.2)).length<=8:=by
  rw[ag,g.length_eq,he.length];exact YD n
 generalize (kC w a p f).toList.map (·.2)=vs at q hlen;generalize (kC w a p f).toList.map (·.1)=ns at q H;refine ck (wpAny_newList ?_);have L:(d.push (seqObj "list" vs.toArray 0)).get? d.objs.size=some (seqObj "list" vs.toArray 0):=au _ rfl;show wpAny _ _ _ _ _ { s with heap:=d.push (seqObj "list" vs.toArray 0),toks:=tk }
 refine ck (wpAny_holding (wpAny_call_entry slot_list_sort ⟨_,L,rfl⟩ entry_list_sort (list_sort_tree L q (by omega) λout N a1 a2 z=>⟨_,rfl,?_⟩) (args_list_sort _)))
 have j:N=(qi n).map λ(i:Nat)=>(i:Int):=PX (a2.trans H) z (EF n);subst j;refine cm ⟨_,rfl,?_⟩;have y:=get?_update_seq L (λ_=>(#[]:Array Value));have x:=af (seqObj "list" #[] 0) (af (seqObj "tuple" vs.toArray 0) y);obtain⟨c,v⟩:∃c,(sortedHeap (d.push (seqObj "list" vs.toArray 0)) d.objs.size vs out).get? d.objs.size=some (seqObj "list" out c):=⟨_,get?_update_seq x (λ_=>out)⟩;refine h _ tk d.objs.size out.toList c hle ?_ a1 λb ob e=>?_
 ·rw[Array.toArray_toList]
  exact v
 ·have r:b<s.heap.objs.size:=aH e
  have k1:=kp b ob r e;have nb:d.objs.size≠b:=bp (aE r hle);unfold sortedHeap;refine(aR _ _ nb).trans ?_;refine af _ (af _ ?_);exact(aR _ _ nb).trans (af _ k1)
end
section
variable {m:Ev}
def f7 (K:Frag)(w:World):List V->Hp->VK->Prop:=λxs H Q=>∃(p:Addr) (vs:bU),xs=[.ref p]/\jy K H p (vs.map λ(v:Nat)=>V.int (v:Int))/\(∀v∈vs,v<8)/\∀l,H l=none->Q (.ref l) (upd H l (.ext λh=>j7 h l (jz w) (vs.foldl jR 0)))
def Dm (l:X.calm=true):yc X (.type "set") (f7 X.K X.w):=by
 intro pins s σ H xs us Q I r h;obtain⟨p,vs,rfl,g,n,q⟩:=h;obtain⟨u,rfl,d⟩:=vals1 r;cases d;obtain⟨i,c,⟨o,k,x,t,C,E⟩,_⟩:=I.list g;have f:Vals ((vs.map λ(v:Nat)=>(v:Int)).map V.int) i:=by rw[aP];exact c
 refine L1 (I.ok.hd l) ⟨o,x,t,k,E⟩ (intsAre_of f) n λh' tk S kp=>?_;refine⟨.ref s.heap.objs.size,_,I.laid (t':=tk) (o:=.ext λh=>j7 h s.heap.objs.size (jz X.w) (vs.foldl jR 0)) (λb o e=>kp b o (aH e) e) (av _) ⟨S,?_,λz y a b=>a.keep b⟩,rfl,q _ (I.hok.fresh (av _))⟩;obtain⟨o,A,B,j,_⟩:=S;exact⟨o,j⟩
theorem KC:∀{ns:bQ}{i:bR},IntsAre i ns->Vals (ns.map V.int) i
 |_,_,.nil=>.nil|_,_,.cons n t h=>.cons ⟨t,rfl⟩ (KC h)
def RI (f:X.calm=true):yc X (.builtin "sorted") (λxs H Q=>∃(p:Addr) (n:Nat),xs=[.ref p]/\H p=some (.ext λh=>j7 h p (jz X.w) n)/\∀l,H l=none->Q (.ref l) (upd H l (.lst ((qi n).map λ(v:Nat)=>V.int (v:Int))))):=by
 intro pins s σ H xs us Q I r h;obtain⟨p,n,rfl,e,q⟩:=h;obtain⟨u,rfl,d⟩:=vals1 r;cases d;have S:j7 s.heap p (jz X.w) n:=(show jk X.prog X.w H s.heap p (.ext λh=>j7 h p (jz X.w) n) from I.hok p _ e).1
 refine Fg (I.ok.hd f) S λh' tk l i c b g hi kp=>?_;have a:=KC hi;rw[aP]at a;refine⟨.ref l,_,I.laid (t':=tk) (o:=.lst ((qi n).map λ(v:Nat)=>V.int (v:Int))) kp b ⟨?_,i,c,a,g⟩,rfl,q _ (I.hok.fresh b)⟩;rw[ag,sizeLine_eq]
 have:=YD n
 omega
noncomputable def ZO:List Int->Option (bU)
 |[]=>some []|i::is=>if 0<=i/\i<8 then(ZO is).map (i.toNat::·) else none
theorem VY:∀{is:bQ}{vs:bU},ZO is=some vs->is=vs.map (λ(v:Nat)=>(v:Int))/\∀v∈vs,v<8
 |[],_,e=>by cases e;exact⟨rfl,λv H=>by cases H⟩|i::is,vs,e=>by
  unfold ZO at e
  by_cases h:0<=i/\i<8
  ·rw[ah h]at e
   cases E:ZO is with
   |none=>rw[E]at e;cases e|some us=>
    rw[E]at e;cases e;obtain⟨b,a⟩:=VY E;refine⟨?_,λv H=>?_⟩
    ·rw[aX,<- b,Int.toNat_of_nonneg h.1]
    ·rcases cn.mp H with rfl|H
     ·omega
     ·exact a v H
  ·rw[ar h]at e;cases e
def Ub:W->Hx->R W:=λw A=>match w with
 |.ref n=>match A[n]? with
  |some (.lst ws)=>match intsOf ws with
   |some is=>match ZO is with
    |some vs=>.ok (.ref A.length) (A++[.lst (((List.range 8).filter λi=>decide (i∈vs)).map λ(i:Nat)=>W.int (i:Int))])|none=>.bad
   |none=>.bad
  |_=>.bad
 |_=>.bad
def GF (m:Ev):Ev:=λρ A=>(m ρ A).bind λw A1=>Ub w A1
end
def EN (a b:Value):argsOk "sum" ⟨[a,b],[]⟩:=by unfold argsOk;kernel_rfl
def sub_list_str:isSubtype (.type "list") (.type "str")=pure false:=by rw[isSubtype_type];kernel_rfl
def sub_list_bytes:isSubtype (.type "list") (.type "bytes")=pure false:=by rw[isSubtype_type];kernel_rfl
def sub_list_bytearray:isSubtype (.type "list") (.type "bytearray")=pure false:=by rw[isSubtype_type];kernel_rfl
noncomputable abbrev gJ (xs:Array Value)(c:Nat):Obj:={ cls:=.type "list",dict:=none,data:=.seq xs c,slots:=#[] }
section
variable {prog:Program}{A:Around}{R:Result->Shared->Prop}{I:Addr}{wr:bS}{G:Array GenState->Array GenState->Prop}{P:Nat->Value->Prop}{St:Nat->Shared->Prop}
def Eg (W:WalksS prog w A.in1 I fp wr G n P St)(S B:Addr)(C:S∉fp)(hBS:B<=S)(ad:Nat->Addr)(a:Nat->List Value)(r:∀i v,P i v->v=.ref (ad i))(p:∀i,i<n->ad i≠S/\ad i∉wr)(hwS:∀b∈wr,b<S):
  ∀(k i:Nat)(s:Shared)(T:Addr)(c Q:Nat)(acc:bR),n-i=k->i<=n->St i s->s.heap.get? S=some (gJ #[.ref T] c)->T≠S->T∉wr->s.heap.get? T=some (gJ acc.toArray Q)->
   (∀j,i<=j->j<n->∃cj,s.heap.get? (ad j)=some (gJ (a j).toArray cj))->(acc++(((List.range' i k).map a).flatten)).length<=sizeLine->
   (∀s' U c',Moved (S::wr) G s s'->s'.heap.get? U=some (gJ (acc++(((List.range' i k).map a).flatten)).toArray c')->((k=0/\U=T)∨B<=U)->R (.ok (.ret (.ref U))) s')->
   codeAny (model prog w) A (.builtin "sum.loop" ⟨[.ref I,.ref S,rawInt 2,rawInt 0],[]⟩) R s:=by
 have hSw:S∉wr:=λh=>C (W.sub _ h);have d:∀b∈wr,b∈S::wr:=λb f=>ao _ f;intro k
 induction k with
 |zero=>
  intro i s T c Q acc hk hi t L hTS q hT hl K M;have hin:i=n:=by omega
  subst hin;refine codeAny_builtin PySem.F.entry_sum_loop ?_;rw[Around.under_plainId plain_sum_loop _];show wpAny _ A.in1 (seqItems? (.ref S) >>= _) _ _ s;refine ck (wpAny_seqItems L rfl ?_);show wpAny _ A.in1 (tryCatch (pyNext (.ref I)) _ >>= _) _ _ s;refine ck (wpAny_tryCatch (W.done s _ _ t λs' hm=>?_));refine cm (M s' T Q (hm.mono d) ?_ (.inl ⟨rfl,rfl⟩))
  have:=hm.heap T _ q hT
  simpa using this
 |succ k ih=>
  intro i s T c Q acc hk hi t L hTS q hT hl K M;have H:i<n:=by omega
  refine codeAny_builtin PySem.F.entry_sum_loop ?_;rw[Around.under_plainId plain_sum_loop _];show wpAny _ A.in1 (seqItems? (.ref S) >>= _) _ _ s;refine ck (wpAny_seqItems L rfl ?_);show wpAny _ A.in1 (tryCatch (pyNext (.ref I)) _ >>= _) _ _ s;refine ck (wpAny_tryCatch (W.item i s _ _ H t λv s' hP u hm=>?_));have hv:=r i v hP;subst hv;have J:=hm.heap S _ hSw L;have hT':=hm.heap T _ q hT;obtain⟨ci,hli⟩:=hl i (av _) H;have y:=hm.heap (ad i) _ (p i H).2 hli;rw[range'_succ,aX,a5,<- aQ]at K M;have Z:(acc++a i).length<=sizeLine:=by rw[aq]at K;omega
  show wpAny _ A.in1 ((holding [Value.ref (ad i)] (binaryOp .Add (.ref T) (.ref (ad i)))).attempt >>= _) _ _ _;refine ck (wpAny_attempt (wpAny_holding (PySem.P.add_list hT' y ?_ (by rw[aC,aC,<- aq];exact Z))))
  have ea:acc.toArray++(a i).toArray=(acc++a i).toArray:=by simp
  rw[ea];have l:S<s'.heap.objs.size:=aH J;have E:=af (gJ (acc++a i).toArray 0) J;have hN1:(s'.heap.push (gJ (acc++a i).toArray 0)).get? s'.heap.objs.size=some (gJ (acc++a i).toArray 0):=au _ rfl;show wpAny _ A.in1 (updateSeq S (λ_=>#[.ref s'.heap.objs.size]) >>= _) _ _ _;refine ck (wpAny_updateSeq E rfl ?_);have D:=aZ (Obj.mapSeq λ_=>#[Value.ref s'.heap.objs.size]) E rfl;refine ck (wpAny_letGo ?_);have N:s'.heap.objs.size≠S:=bp l;have g:∀b o,b≠S->s'.heap.get? b=some o->(((s'.heap.push (gJ (acc++a i).toArray 0)).update S (Obj.mapSeq λ_=>#[Value.ref s'.heap.objs.size])).update S (Obj.mapSeq λ_=>#[Value.ref s'.heap.objs.size])).get? b=some o:=
   λb o f e=>(aR _ _ (Ne.symm f)).trans ((aR _ _ (Ne.symm f)).trans (af _ e))
  have Y:s'.heap.objs.size∉wr:=λhm2=>aT _ (lt_trans (hwS _ hm2) l);refine ck (wpAny_updateSeq D rfl (cm ⟨plainId_quiet plain_sum_loop _,ih (i+1) _ s'.heap.objs.size _ 0 (acc++a i) (by omega) H (W.frame _ s' _ _ u (by first|exact av _|exact le_succ _|omega) λb f o e=>g b o (λh=>C (h ▸ f)) e) (aZ _ D rfl) N Y ?_ ?_ K λX T'' c'' x z hor=>?_⟩))
  ·exact(aR _ _ (Ne.symm N)).trans ((aR _ _ (Ne.symm N)).trans hN1)
  ·intro j h1 h2
   obtain⟨cj,hj⟩:=hl j (by omega) h2
   exact⟨cj,g _ _ (p j h2).1 (hm.heap _ _ (p j h2).2 hj)⟩
  ·refine M X T'' c'' (Moved.trans W.gtrans ((hm.mono d).then_heap (by first|exact av _|exact le_succ _|omega) λb o f e=>g b o (λh=>f (by rw[h];exact ax)) e) x) z (.inr ?_)
   rcases hor with ⟨_,rfl⟩|h
   ·exact bD (Nat.lt_of_le_of_lt hBS l)
   ·exact h
def De {p q:Addr}{P:Nat}{a:bS}{itss:List (bR)}(hh:A.handled=none)(y:s.heap.IsList p (a.map Value.ref).toArray)(U:s.heap.get? q=some (gJ #[] P))
  (hlen:a.length=itss.length)(X:∀i,i<a.length->∃c,s.heap.get? (a.getD i 0)=some (gJ (itss.getD i []).toArray c))(C:a≠[])(Z:itss.flatten.length<=sizeLine)
  (h:∀(h':Heap)(tk:Nat)(l:Addr)(c:Nat),s.heap.objs.size<=l->h'.get? l=some (gJ itss.flatten.toArray c)->(∀b o,s.heap.get? b=some o->h'.get? b=some o)->Q (.ref l) { s with heap:=h',toks:=tk }):
  wpAny (model prog w) A (call (.builtin "sum") [.ref p,.ref q]) Q E s:=by
 refine call_function_tree PySem.F.kind_sum PySem.F.plain_sum PySem.F.entry_sum (EN _ _) ?_;unfold Builtin.«sum»;simp only[a9,length_nil];rw[ar (by decide)]
 refine ck (wpAny_of_eq (show Builtin.Builtins.bindParams "sum" ["start"] 0 ⟨[.ref q],[]⟩=pure [some (.ref q)] from rfl) ?_)
 refine ck (wpAny_pyIter_list y ?_);refine ck (cm ?_);generalize d:({ cls:=.type "list_iterator",data:=.fields #[.ref p,.int 0 0] }:Obj)=io;have n:(s.heap.push io).get? q=some (gJ #[] P):=af _ U;have J:Shared.TypeIs { s with heap:=s.heap.push io } (.ref q) "list":=⟨_,n,rfl⟩
 simp only[forIn_cons,forIn_nil];refine ck (ck (ck (wpAny_isInstance (b:=false) J sub_list_str ?_)));simp only[bb,if_false];refine cm (ck (ck (wpAny_isInstance (b:=false) J sub_list_bytes ?_)));simp only[bb,if_false];refine cm (ck (ck (wpAny_isInstance (b:=false) J sub_list_bytearray ?_)));simp only[bb,if_false];refine cm (cm ?_);refine ck (wpAny_newObj_type ?_);have sz:(s.heap.push io).objs.size=s.heap.objs.size+1:=bf ..;have g:p<s.heap.objs.size:=by obtain⟨o,e,_⟩:=y;exact aH e
 have f:q<s.heap.objs.size:=aH U;have ltI:s.heap.objs.size<(s.heap.push io).objs.size:=by rw[sz];exact bj _
 have L:∀b,b<s.heap.objs.size->b<(s.heap.push io).objs.size:=λb I=>lt_trans I ltI;have W:=(Walks.list (prog:=prog) (w:=w) (A:=A.in1) (by simp[hh]) s.heap.objs.size p (aK g) (a.map Value.ref).toArray).toS
 have N:(a.map Value.ref).toArray.size=a.length:=by simp
 rw[N]at W;have K:(s.heap.push io).objs.size∉[s.heap.objs.size,p]:=λhm=>by
  rcases cn.mp hm with z|hm
  ·exact bp ltI z
  ·exact bp (L p g) (cy.mp hm)
 have t:∀i,i<a.length->a.getD i 0<s.heap.objs.size:=λi hi=>by obtain⟨c,e⟩:=X i hi;exact aH e
 have M:(s.heap.push io).get? s.heap.objs.size=some io:=au _ (by rw[<- d];rfl)
 have H:((List.range' 0 a.length).map λj=>itss.getD j []).flatten=itss.flatten:=by
  congr 1
  rw[hlen]
  apply bC
  ·simp
  ·intro i h1 h2
   simp[ae,aa h2]
 refine cm ⟨plainId_quiet plain_sum_loop _,Eg W (s.heap.push io).objs.size s.heap.objs.size K (bD ltI) (λi=>a.getD i 0) (λi=>itss.getD i []) (λi v e=>?_) (λi hi=>⟨aK (L _ (t i hi)),λhm=>?_⟩) (λb I=>?_)
  a.length 0 _ q 0 P [] (by omega) (zero_le _) ⟨⟨io,af _ M,by rw[<- d],by rw[<- d];rfl⟩,(y.push _).push _⟩ (au _ rfl) (aK (L q f)) (λhm=>?_) (af _ n) (λj _ hj=>?_) ?_ λs' Y c' hm r B=>?_⟩
 ·have hi:i<a.length:=by
   have:=(Array.getElem?_eq_some_iff.mp e).1
   simpa using this
  have u:(a.map Value.ref)[i]? =some v:=by simpa using e
  rw[aw,aa hi]at u;rw[ae,aa hi];exact(aD u).symm
 ·exact aK (t i hi) (cy.mp hm)
 ·rw[cy.mp I];exact ltI
 ·exact aK f (cy.mp hm)
 ·obtain⟨c,e⟩:=X j hj
  exact⟨c,af _ (af _ e)⟩
 ·rw[nil_append,H];exact Z
 ·rw[nil_append,H]at r
  have hB:s.heap.objs.size<=Y:=by
   rcases B with ⟨h0,_⟩|h0
   ·exact absurd (List.length_eq_zero_iff.mp h0) C
   ·exact h0
  obtain⟨h',g',d',T,x⟩:=s';have e1:g'=s.gens:=hm.gens;have u:d'=s.drawn:=hm.drawn;have e3:x=s.os:=hm.os;subst e1 u e3;refine h h' T Y c' hB r λb o e=>hm.heap b o (λD=>?_) (af _ (af _ e));have S:b<s.heap.objs.size:=aH e;rcases cn.mp D with z|z
  ·exact aK (L b S) z
  ·exact aK S (cy.mp z)
end
section
variable {K:Frag}
def Md (K:Frag):List V->Hp->VK->Prop:=λxs H Q=>∃(p q:Addr) (ls:List (Addr×List V)),xs=[.ref p,.ref q]/\H p=some (.lst (ls.map λl=>V.ref l.1))/\H q=some (.lst [])/\(∀l∈ls,H l.1=some (.lst l.2))/\ls≠[]/\(ls.map (·.2)).flatten.length<=zY/\
 ∀l,H l=none->Q (.ref l) (upd H l (.lst (ls.map (·.2)).flatten))
theorem PR:∀{ls:List (Addr×List V)}{us:bR},Vals (ls.map λl=>V.ref l.1) us->us=(ls.map (·.1)).map Value.ref
 |[],_,h=>by cases h;rfl|l::ls,_,h=>by
  cases h with
  |cons r t=>cases r;rw[PR t];rfl
def EX (Y:X.calm=true):yc X (.builtin "sum") (Md X.K):=by
 intro pins s σ H xs us Q I r h;obtain⟨p,q,ls,rfl,S,P,T,j,z,k⟩:=h;obtain⟨u,v,rfl,B,A⟩:=Vals.two r;cases B;cases A;obtain⟨_,J,np,D,_,Z⟩:=I.lstM S;obtain⟨_,g,nq,C,lq,eq⟩:=I.lstM P;have b:g=[]:=by cases C;rfl
 subst b;have d:=PR D;subst d;have hex:∀L:List (Addr×List V),(∀l∈L,H l.1=some (.lst l.2))->∃itss:List (bR),itss.length=L.length/\(∀i,i<L.length->∃c,s.heap.get? ((L.map (·.1)).getD i 0)=some (gJ (itss.getD i []).toArray c))/\Vals (L.map (·.2)).flatten itss.flatten:=by
  intro L
  induction L with
  |nil=>intro _;exact⟨[],rfl,λi hi=>absurd hi (bN _),.nil⟩|cons l L M=>
   intro hm;obtain⟨itss,y,w,f⟩:=M λx N=>hm x (ao _ N);obtain⟨_,it,n,E,_,e1⟩:=I.lstM (hm l (ax ..));refine⟨it::itss,by simp[y],λi hi=>?_,?_⟩
   ·cases i with
    |zero=>exact⟨n,e1⟩|succ i=>exact w i (by simpa using hi)
   ·rw[aX,a5,a5]
    exact E.append f
 obtain⟨itss,y,w,f⟩:=hex ls T;have t:itss.flatten.length=(ls.map (·.2)).flatten.length:=f.length.symm;refine De (I.ok.hd Y) (itss:=itss) ⟨_,Z,rfl,np,rfl⟩ eq (by simp[y]) (λi hi=>w i (by simpa using hi)) (λe=>j (List.map_eq_nil_iff.mp e)) (by rw[t];exact Z9 z) λh' tk l c a U kp=>?_
 exact⟨.ref l,_,I.laid (t':=tk) (o:=.lst (ls.map (·.2)).flatten) kp a ⟨Z9 z,itss.flatten,c,f,U⟩,rfl,k _ (I.hok.fresh a)⟩
noncomputable def gQ (A:Hx):List W->Option (List (List W))
 |[]=>some []|.ref k::us=>match A[k]? with
  |some (.lst ws)=>(gQ A us).map (ws::·)|_=>none
 |_::_=>none
def Qn:W->W->Hx->R W:=λx y A=>match x,y with
 |.ref n,.ref k=>match A[n]?,A[k]? with
  |some (.lst us),some (.lst [])=>match gQ A us with
   |some w=>if us≠[]/\w.flatten.length<=zY then .ok (.ref A.length) (A++[.lst w.flatten]) else .bad|none=>.bad
  |_,_=>.bad
 |_,_=>.bad
def BQ:∀x y A,q9 (Qn x y A):=λx y A=>by
 unfold Qn
 split
 ·split
  ·split
   ·exact ZR jW jd
   ·exact jd
  ·exact jd
 ·exact jd
theorem zK.app:∀{ws us:List W}{xs ys:List V},zK K φ H ws xs->zK K φ H us ys->zK K φ H (ws++us) (xs++ys)
 |[],_,_,_,h,a=>by cases h;exact a|w::ws,_,_,_,⟨v,r,e,h,t⟩,a=>by subst e;exact⟨v,_,rfl,h,zK.app t a⟩
theorem R3 (S:zT K φ A H):∀{us:List W}{w:List (List W)}{vs:List V},gQ A us=some w->zK K φ H us vs->∃ls:List (Addr×List V),vs=ls.map (λl=>V.ref l.1)/\(∀l∈ls,H l.1=some (.lst l.2))/\zK K φ H w.flatten (ls.map (·.2)).flatten/\ls.length=us.length
 |[],_,_,e,h=>by cases e;cases h;exact⟨[],rfl,λl a=>(by cases a),rfl,rfl⟩|u::us,w,_,e,⟨v,r,n,h,t⟩=>by
  subst n;cases u with
  |ref k=>
   unfold gQ at e;cases E:A[k]? with
   |none=>rw[E]at e;cases e|some o=>cases o with
    |lst ws=>
     rw[E]at e;dsimp only at e;cases b:gQ A us with
     |none=>rw[b]at e;cases e|some c=>
      rw[b]at e;cases e;obtain⟨p,xs,rfl,_,f,d⟩:=S.lst h E;obtain⟨ls,rfl,j,i,g⟩:=R3 S b t;refine⟨(p,xs)::ls,rfl,λl a=>?_,zK.app d i,by simp[g]⟩
      rcases cn.mp a with rfl|a
      ·exact f
      ·exact j l a
    |_=>rw[E]at e;cases e
  |_=>cases e
def Cr:yv K (λx y=>Md K [x,y]) Qn:=λφ A H x y u v Q S g q p=>by
 unfold Qn at p;cases u with
 |ref n=>cases v with
  |ref k=>
   dsimp only at p;cases E:A[n]? with
   |none=>rw[E]at p;exact p.elim|some o=>cases o with
    |lst us=>
     cases a:A[k]? with
     |none=>rw[E,a]at p;exact p.elim|some j=>cases j with
      |lst zs=>cases zs with
       |nil=>
        rw[E,a]at p;dsimp only at p;cases b:gQ A us with
        |none=>rw[b]at p;exact p.elim|some w=>
         rw[b]at p;dsimp only at p
         by_cases h:us≠[]/\w.flatten.length<=zY
         ·rw[ah h]at p
          obtain⟨i,xs,rfl,_,t,f⟩:=S.lst g E;obtain⟨P,ys,rfl,_,s,r⟩:=S.lst q a;cases r;obtain⟨ls,rfl,B,d,c⟩:=R3 S b f;refine⟨i,P,ls,rfl,t,s,B,λe=>?_,by rw[<- d.length];exact h.2,λl z=>?_⟩
          ·rw[e]at c
           exact h.1 (List.length_eq_zero_iff.mp c.symm)
          ·obtain⟨a1,a2,C⟩:=JG S z d
           exact p _ _ _ a1 a2 C
         ·rw[ar h]at p;exact p.elim
       |cons _ _=>rw[E,a]at p;exact p.elim
      |_=>rw[E,a]at p;exact p.elim
    |_=>rw[E]at p;exact p.elim
  |_=>exact p.elim
 |_=>cases v<;>exact p.elim
variable {a b:Expr}{ma mb:Ev}
def f9 (t:TA):TE:=λσ H Q=>t σ H λvs H1=>∃i j:Int,vs=[.int i,.int j]/\∀p,H1 p=none->Q (.ref p) (upd H1 p (.rng i j))
def DB {T:TA}(g:Gl X "range")(hm:X.mg "range"=none)(l:PA X [a,b] T)(f:starEach [a,b] X.env=[(false,eval a X.env),(false,eval b X.env)])(c:starEach [b] X.env=[(false,eval b X.env)]):PE X (.Call (.Name "range" p) [a,b] [] pos) (f9 T):=by
 intro pins s σ H Q I h;refine Call_ (ZP I g hm boot_range (PyProof.Rows.callWith_type1 (qa (l pos pins s σ H _ I h) λus s1 ⟨vs,H1,d,r,e⟩=>?_) (by rw[f,c]) (by rw[c];rfl)))
 obtain⟨i,j,rfl,q⟩:=e;obtain⟨u,v,rfl,⟨t,rfl⟩,⟨n,rfl⟩⟩:=Vals.two r;refine call_range_2 ⟨.ref _,_,d.laid (o:=.rng i j) (λb o E=>af _ E) (av _) ?_,rfl,q _ (d.hok.fresh (av _))⟩;exact⟨_,_,_,au _ rfl⟩
noncomputable def JS (lo:Int)(n:Nat):List V:=(List.range n).map λ(i:Nat)=>V.int (lo+i)
def Fm (A:X.calm=true):yc X (.type "list") (λxs H Q=>∃(r:Addr) (i j:Int),xs=[.ref r]/\H r=some (.rng i j)/\(-(2 ^ 62)<=i/\i<2 ^ 62)/\(-(2 ^ 62)<=j/\j<2 ^ 62)/\(j-i).toNat<=sizeLine/\∀l,H l=none->Q (.ref l) (upd H l (.lst (JS i (j-i).toNat)))):=by
 intro pins s σ H xs us Q I r h;obtain⟨p,i,j,rfl,x,⟨a1,a2⟩,⟨D,B⟩,z,q⟩:=h;obtain⟨u,rfl,g⟩:=vals1 r;cases g;obtain⟨t1,T,t3,y⟩:=I.hok p _ x;have E:sizeLine=16777216:=sizeLine_eq;refine PySem.call_list_range (n:=(j-i).toNat) (I.ok.hd A) (show IsRange s.heap p i j 1 t1 T t3 from y) (small_one (by omega) (by omega) D B) (by rw[rangeSize_one];split<;>omega) (by omega) λh' tk acc C kk S ⟨hn,d⟩=>?_
 refine⟨.ref s.heap.objs.size,_,I.laid (t':=tk) (o:=.lst (JS i (j-i).toNat)) kk (av _) ?_,rfl,q _ (I.hok.fresh (av _))⟩;refine⟨by unfold JS;simpa using z,acc.toList,C,?_,by simpa using S⟩
 have a:∀(l:bR)(k:Nat),(∀(m:Nat) v,l[m]? =some v->∃t,v=.int (i+((k+m:Nat):Int)) t)->Vals ((List.range' k l.length).map λ(m:Nat)=>V.int (i+(m:Int))) l:=by
  intro l
  induction l with
  |nil=>intro k _;exact .nil|cons v l w=>
   intro k e;rw[a9,range'_succ,aX];refine .cons ?_ (w (k+1) λm f a=>?_)
   ·obtain⟨t,rfl⟩:=e 0 v rfl
    exact⟨t,rfl⟩
   ·obtain⟨t,rfl⟩:=e (m+1) f (by simpa using a)
    exact⟨t,by first|rfl|(congr 1<;>omega)|(simp;omega)⟩
 have b:acc.toList.length=(j-i).toNat:=by simpa using hn
 have:=a acc.toList 0 λm v c=>by
  obtain⟨t,rfl⟩:=d m v (by simpa using c)
  exact⟨t,by first|rfl|(congr 1<;>omega)|(simp;omega)⟩
 rw[b]at this;unfold JS;rw[range_eq_range'];exact this
def KP (ma mb:Ev):Ev:=λρ A=>(ma ρ A).bind λx A1=>(mb ρ A1).bind λy A2=>match x,y with
 |.int i,.int j=>if jP i&&(jP j&&decide ((j-i).toNat<=zY)) then .ok (.ref A2.length) (A2++[.lst ((List.range (j-i).toNat).map λ(k:Nat)=>W.int (i+k))]) else .bad|_,_=>.bad
variable {prog:Program}{A:Around}
def Lb {t S:Addr}{l v:Value}{lo hi:bZ}(H:IsTup s.heap t items)(d:s.heap.IsSliceOf S l v .none)(p:IsPart l lo)(pu:IsPart v hi)
  (hw:HT.qN items.size 0 lo=0/\HT.qN items.size items.size hi=items.size)(h:Q (.ref t) s):wpAny (model prog w) A (getItem (.ref t) (.ref S)) Q E s:=by
 obtain⟨os,a,b,e⟩:=id d;have c:s.TypeIs (.ref S) "slice":=⟨os,a,b⟩;unfold getItem
 try with_reducible refine wpAny_holding ?_
 first|refine ck (cm ?_)|skip
 refine ck (wpAny_sequenceKey H.typeIs (by decide) ?_)
 refine ck (wpAny_callSpecial?_slot (name:=Str.ofString "__getitem__") H.typeIs PyProof.Rows.slot_tuple_getitem
  (wpAny_call_entry PyProof.Rows.slot_tuple_getitem H.typeIs PyProof.Rows.entry_tuple_getitem ?_ (PyProof.Rows.args_tuple_getitem _ _)))
 show wpAny _ _ (Builtin.Tuple.tupleItemsOf (.ref t) >>= _) _ _ s;refine ck (PyProof.Rows.tupleItemsOf_ H ?_);refine ck (wpAny_typeOf c ?_);rw[ah (by decide)]
 refine ck (HT.So d p pu ?_);show wpAny _ _ (if (((HT.qN items.size 0 lo:Nat):Int)==0&&(1:Int)==1&&(HT.qN items.size items.size hi-HT.qN items.size 0 lo)==items.size)=true then _ else _) _ _ s;rw[ah (by rw[hw.1,hw.2];simp)]
 unfold Builtin.Tuple.tupleIsExact;refine ck (ck (wpAny_typeOf H.typeIs (cm ?_)));rw[ah (by decide)]
 refine ck (wpAny_rule ?_)
 first
  |exact cm ⟨_,rfl,cm h⟩
  |exact ck (cm (cm ⟨_,rfl,cm h⟩))
end
section
variable {a:Expr}{m:Ev}{lo hi:Option Expr}{K:Frag}
def gg (K:Frag):V->Option Int->Option Int->Hp->VK->Prop:=λx lo hi H Q=>∃a xs,x=.ref a/\qS K H a xs/\
 ((HT.qN xs.length 0 lo=0/\HT.qN xs.length xs.length hi=xs.length)->Q (.ref a) H)/\
 (¬(HT.qN xs.length 0 lo=0/\HT.qN xs.length xs.length hi=xs.length)->∀p,H p=none->Q (.ref p) (upd H p (.tup (JU xs lo hi))))
def AR:TV X (gg X.K):=by
 intro pins s σ H x v l u lo hi S Q I b d p pu h;obtain⟨a,xs,rfl,c,e,q⟩:=h
 by_cases hw:HT.qN xs.length 0 lo=0/\HT.qN xs.length xs.length hi=xs.length
 ·cases b
  obtain⟨i,r,t,z⟩:=I.tuple c;have hlen:i.toArray.size=xs.length:=by rw[aC];exact r.length.symm
  exact⟨"tuple",_,PyProof.Rows.slot_tuple_getitem.lookup,t.typeIs,Lb t d p pu (by rw[hlen];exact hw) ⟨.ref a,H,I,rfl,e hw⟩⟩
 ·exact dY pins s σ H _ v l u lo hi S Q I b d p pu ⟨a,xs,rfl,c,hw,q hw⟩
abbrev Po:=En->Hx->R (bZ)
noncomputable def yG:Po:=λ_ A=>.ok none A
noncomputable def j8 (m:Ev):Po:=λρ A=>(m ρ A).bind λw A1=>match w with
 |.int i=>.ok (some i) A1|_=>.bad
noncomputable def wd (ws:List W)(lo hi:bZ):List W:=(ws.drop (HT.qN ws.length 0 lo)).take (HT.qN ws.length ws.length hi-HT.qN ws.length 0 lo)
def yh (m:Ev)(p pu:Po):Ev:=λρ A=>(m ρ A).bind λw A1=>(p ρ A1).bind λl A2=>(pu ρ A2).bind λu a=>match w with
 |.tup ws=>.ok (.tup (wd ws l u)) a|_=>.bad
inductive MP (K:Frag)(xr:XR)(p:Po)(σ:St)(H:Hp)(Q:Option Int->Hp->Prop):Prop
 |mk (φ:bS) (A:Hx) (ρ:En) (S:zT K φ A H) (re:RE K φ H ρ σ) (h:(p ρ A).post (λo A1=>∀φ1 H1,Le K φ H φ1 H1->zT K φ1 A1 H1->Q o H1) (EB K φ H xr))
noncomputable def tP (K:Frag)(x:XR)(p:Po):TO:=λσ H Q=>MP K x p σ H Q
def SP (X:Cx)(x:XR)(e:Option Expr)(p:Po):Prop:=PO X e (tP X.K x p)
def PO.imp {e:Option Expr}{t t':TO}(h:PO X e t)(i:∀σ H Q,t' σ H Q->t σ H Q):PO X e t':=λpins s σ H Q I hw=>h pins s σ H Q I (i σ H Q hw)
def Ny (c:SE X xr e m):SP X xr (some e) (j8 m):=PO.imp (Bp c) λσ H Q ⟨φ,A,ρ,S,re,h⟩=>by
 refine tM.go S re (qf.mp h) λw A1 a H1 v b l s q=>?_;cases w with
 |int i=>obtain rfl:=q;exact⟨i,rfl,b a H1 l s⟩|_=>exact b.elim
end
def D8 (xs:Array Value):((List.range xs.size).filterMap λ(k:Nat)=>xs[(((xs.size:Int)-1)+(k:Int) * (-1)).toNat]?).toArray=xs.toList.reverse.toArray:=by
 congr 1
 have e:∀k,k<xs.size->xs[(((xs.size:Int)-1)+(k:Int) * (-1)).toNat]? =some (xs.toList.reverse.getD k .none):=λk h=>by
  have H:(((xs.size:Int)-1)+(k:Int) * (-1)).toNat=xs.size-1-k:=by omega
  rw[H,ae,List.getElem?_reverse (by simpa using h),bz,aS,Array.getElem?_eq_getElem (by omega)]
  rfl
 have E:((List.range xs.size).filterMap λ(k:Nat)=>xs[(((xs.size:Int)-1)+(k:Int) * (-1)).toNat]?)=(List.range xs.size).map λk=>xs.toList.reverse.getD k .none:=by
  have b:∀l:bU,(∀k∈l,k<xs.size)->(l.filterMap λ(k:Nat)=>xs[(((xs.size:Int)-1)+(k:Int) * (-1)).toNat]?)=l.map λk=>xs.toList.reverse.getD k .none:=by
   intro l
   induction l with
   |nil=>intro _;rfl|cons k l I=>
    intro h;rw[bh,e k (h k (ax ..)),aX,I λj a=>h j (ao _ a)]
  exact b _ λk h=>cu.mp h
 rw[E]
 apply bC
 ·simp
 ·intro i H c
  rw[List.getElem_map,List.getElem_range,ae,aa c]
  rfl
section
variable {K:Frag}
def Hh (h:Vals xs us):Vals xs.reverse us.reverse:=by
 induction h with
 |nil=>exact .nil|cons r t i=>rw[reverse_cons,reverse_cons];exact i.append (.cons r .nil)
theorem zK.rev:∀{ws:List W}{vs:List V},zK K φ H ws vs->zK K φ H ws.reverse vs.reverse
 |[],_,h=>by cases h;rfl|w::ws,_,⟨v,r,e,h,t⟩=>by
  subst e;rw[reverse_cons,reverse_cons];exact zK.app (zK.rev t) ⟨v,[],rfl,h,rfl⟩
end
noncomputable def Xg (_ j:Int):Bool:=decide (0<j)&&decide (j<1152921504606846976)
def N5 (i j:Int):Prop:=0<j/\j<1152921504606846976
def Cf (i j:Int)(h:Xg i j=true):N5 i j:=by
 unfold Xg at h;rw[ak]at h;exact⟨of_decide_eq_true h.1,of_decide_eq_true h.2⟩
def DY:jc X (binaryOp .FloorDiv) (rI N5 λi j=>.int (i/j)):=XU λi j _ _ _ _ _ h q=>by
 have a:(0:Int)<j:=h.1;have H:j<1152921504606846976:=h.2;refine floordiv_int (by omega) (by rw[Int.fdiv_eq_ediv_of_nonneg i (by omega)];exact q) (.inl (PyProof.noPylong_of_log2 ?_))
 have h0:j.natAbs≠0:=by omega
 have:j.natAbs.log2<60:=(Nat.log2_lt h0).mpr (by omega)
 omega
def wQ:=QB Xg λi j=>.int (i/j)
noncomputable def wA (RF:Nat->List W->Hx->R W):Fn:=λus A=>match us with
 |[.clo k ws _]=>RF k ws A|_=>.bad
def KH {RF:Nat->List W->Hx->R W}(PG:j3)(us:List W)(A:Hx):wA RF us A=.bad∨Jh PG RF (us.map (Xb PG)) A=wA RF us A:=by
 cases us with
 |nil=>exact .inl rfl|cons u us=>
  cases us with
  |cons v us=>cases u<;>exact .inl rfl|nil=>
   cases u with
   |clo k ws P=>
    refine .inr ?_;show Jh PG RF [.clo k ws (PG k)] A=RF k ws A;unfold Jh;dsimp only;rw[ah rfl]
   |_=>exact .inl rfl
def Wi (e:Expr):Expr:=match e with
 |.Compare l _ _ _=>l|_=>Qq
def gp (e:Expr)(i:Nat):Expr:=match e with
 |.BoolOp _ vs _=>vs.getD i Qq|_=>Qq
open Classical in
open Classical in
section
variable {K:Frag}
def OX (K:Frag):R2:=λx y H Q=>∃φ A u v d ds,zT K φ A H/\RV K φ H u x/\RV K φ H v y/\qk A 8 u=some d/\qk A 8 v=some (.list ds)/\Q (.bl (!(ds.any λz=>PyData.eqv z d))) H
def Di (j:X.A.units+64<cLine):jc X (compareOp .NotIn) (OX X.K):=by
 intro pins s σ H x y v u Q I b r h;obtain⟨φ,A,w,a,d,ds,S,f,c,E,e,q⟩:=h;obtain⟨as,i⟩:=QP I S 8 w x v d f b E;obtain⟨bs,g⟩:=QP I S 8 a y u _ c r e;obtain⟨g1,g2⟩:=Kx 8 w d E;obtain⟨g3,l⟩:=Ov e;exact SeqAt.notIn_list_reads g i g3 g1 (by omega) ⟨.bl _,H,I,rfl,q⟩
def Zi:W->W->Hx->R W:=λx y A=>match qk A 8 x,qk A 8 y with
 |some d,some (.list ds)=>.ok (.bl (!(ds.any λz=>PyData.eqv z d))) A|_,_=>.bad
def EE:∀x y A,q9 (Zi x y A):=λx y A=>by
 unfold Zi
 split
 ·exact jW
 ·exact jd
def Fu:yv K (OX K) Zi:=λφ A H x y u v Q S a q p=>by
 unfold Zi at p;cases e:qk A 8 u with
 |none=>rw[e]at p;exact p.elim|some d=>
  cases E:qk A 8 v with
  |none=>rw[e,E]at p;exact p.elim|some D=>
   rw[e,E]at p;cases D with
   |list ds=>exact⟨φ,A,u,v,d,ds,S,a,q,e,E,p φ H _ .refl S rfl⟩|_=>exact p.elim
def CJ {k:Nat}(h:jQ k X.A):Xq X .NotIn Zi:=⟨_,Di h.units,EE,Fu⟩
end
end Mi
namespace PySem.SeqAt
open PySem
end PySem.SeqAt
namespace Mi
open PySem PySem.Spec PyProof.Rows L2
section
variable {prog:Program}{A:Around}{id:String}{b:Builtin}{args:bR}{kw:List (Str×Value)}
theorem Bx (a:builtinKind id=none)(p:plainId id=true)(d:entryFor table id=some b)(h:argsOk id ⟨args,kw⟩)
  (c:wpAny (model prog w) A.in1 (b ⟨args,kw⟩) (λfin s'=>match fin with
   |.done f=>(match (Except.ok f:Result) with
    |.ok (.ret v)=>Q v s'|.ok _=>False|.error e=>E e s')
   |.again c'=>c'.quiet=true/\codeAny (model prog w) A c' (λr s'=>match r with
    |.ok (.ret v)=>Q v s'|.ok _=>False|.error e=>E e s') s') E s):wpAny (model prog w) A (call (.builtin id) args kw) Q E s:=by
 refine wpAny_call (codeAny_call_builtin p d ?_);have e:checkBuiltinCall id ⟨args,kw⟩=pure ():=by
  unfold argsOk at h;unfold checkBuiltinCall;rw[a];generalize splitId id=q;cases H:Manifest.signature? id with
  |none=>cases q<;>rfl|some sig=>
   rw[H]at h;cases q<;>exact h
 rw[e];exact cm c
def Dd (x d:Value):argsOk "min" ⟨[x],[("default",d)]⟩:=by
 unfold argsOk
 rfl
end
section
variable {prog:Program}{A:Around}{I S:Addr}{wr:bS}{P:Nat->Value->Prop}{St:Nat->Heap->Prop}
def EZ {R:Result->Shared->Prop}{d:Value}(W:Walks prog w A.in1 I fp wr n P St){B:Nat->Nat->Bool}{L:Heap->Prop}(M:N6 prog w A S wr P B L)(y:S∉fp):
  ∀(k j:Nat)(s:Shared)(v:Value)(c:Nat),j+1+k=n->St (j+1) s.heap->L s.heap->P (argBest B j) v->s.heap.get? S=some { cls:=.type "list",dict:=none,data:=.seq #[v,v] c,slots:=#[] }->
   (∀v h' tk,P (argBest B (n-1)) v->(∀b o,b∉wr->b≠S->s.heap.get? b=some o->h'.get? b=some o)->R (.ok (.ret v)) { s with heap:=h',toks:=tk })->
   codeAny (model prog w) A (.builtin "min.loop" ⟨[.ref I,.none,.ref S],[("default",d)]⟩) R s:=by
 have x:S∉wr:=λh=>y (W.sub _ h);intro k
 induction k with
 |zero=>
  intro j s v c Q st hi D C E;subst Q;refine codeAny_builtin F.entry_min_loop ?_;rw[Around.under_plainId F.plain_min_loop _];show wpAny _ A.in1 (seqItems? (.ref S) >>= _) _ _ s;refine ck (wpAny_seqItems C rfl ?_);refine ck (m:=tryCatch (pyNext (.ref I)) _) (wpAny_tryCatch (W.done s _ _ st λh' tk l=>?_));have H:=l S _ x C;refine ck (m:=updateSeq S (λ_=>#[])) ?_;exact wpAny_updateSeq H rfl (ck (wpAny_letGo (cm (E v _ tk D λb o f a e=>(aR _ _ (Ne.symm a)).trans (l b o f e)))))
 |succ k N=>
  intro j s v c Q st hi D C E;refine codeAny_builtin F.entry_min_loop ?_;rw[Around.under_plainId F.plain_min_loop _];show wpAny _ A.in1 (seqItems? (.ref S) >>= _) _ _ s;refine ck (wpAny_seqItems C rfl ?_);refine ck (m:=tryCatch (pyNext (.ref I)) _) (wpAny_tryCatch (W.item (j+1) s _ _ (by omega) st λu h' tk pu r l=>?_))
  have H:=l S _ x C;have p:L h':=M.keep _ _ hi λb o f _ e=>l b o f e;refine ck (m:=tryCatch (holding [u,u] (richCompare .Lt u v >>= _)) _) (wpAny_tryCatch (wpAny_holding (ck (M.less (j+1) (argBest B j) u v _ _ _ p pu D ?_))));refine ck (wpAny_holding (wpAny_truthy_bool ?_));refine ck (wpAny_letGo (cm ?_));have J:argBest B (j+1)=if B (j+1) (argBest B j)=true then j+1 else argBest B j:=rfl;cases T:B (j+1) (argBest B j) with
  |true=>
   rw[T,ah rfl]at J;simp only[if_true];refine ck ?_;refine wpAny_updateSeq H rfl (ck (wpAny_letGo ?_));rw[GA];have up:∀b o,b≠S->h'.get? b=some o->(h'.update S (Obj.mapSeq λ_=>#[u,u])).get? b=some o:=λb o a e=>(aR _ _ (Ne.symm a)).trans e;refine cm ⟨plainId_quiet F.plain_min_loop _,N (j+1) _ u _ (by omega) (W.frame _ _ _ r λb U o e=>up b o (λz=>y (z ▸ U)) e) (M.keep _ _ p λb o _ a e=>up b o a e) (by rw[J];exact pu) (aZ _ H rfl) λK q t g i=>?_⟩
   exact E K q t g λb o f a e=>i b o f a (up b o a (l b o f e))
  |false=>
   rw[T,ar aA]at J;simp only[bb,if_false];refine ck (wpAny_letGo ?_);rw[GA];refine cm ⟨plainId_quiet F.plain_min_loop _,N (j+1) _ v c (by omega) r p (by rw[J];exact D) H λK q t g i=>?_⟩
   exact E K q t g λb o f a e=>i b o f a (l b o f e)
def Ef {x d:Value}
  (h:wpAny (model prog w) A.in1 (pyIter x) (λit s2=>∃I fp wr n P St r f,it=.ref I/\Walks prog w A.in1 I fp wr n P St/\St 0 s2.heap/\(∀b∈fp,b<s2.heap.objs.size)/\f (s2.heap.push { cls:=.type "list",data:=.seq #[] })/\N6 prog w A s2.heap.objs.size wr P r f/\
   ∀v h' tk,((n=0/\v=d)∨(0<n/\P (argBest r (n-1)) v))->(∀b o,b∉wr->s2.heap.get? b=some o->h'.get? b=some o)->Q v { s2 with heap:=h',toks:=tk }) E s):
  wpAny (model prog w) A (call (.builtin "min") [x] [("default",d)]) Q E s:=by
 refine Bx F.kind_min F.plain_min F.entry_min (Dd x d) ?_;refine ck (m:=Builtin.Builtins.bindParams "min" ["key","default"] 0 ⟨[],[("default",d)]⟩) (wpAny_of_eq (show Builtin.Builtins.bindParams "min" ["key","default"] 0 ⟨[],[("default",d)]⟩=pure [none,some d] from rfl) ?_)
 refine ck (cm ?_);refine ck (wpAny_mono h (λit s2 K=>?_) λ_ _ e=>e);obtain⟨I,fp,wr,n,P,St,r,f,rfl,W,st,p,hi,M,D⟩:=K;refine ck (wpAny_newObj_type ?_);have H:s2.heap.objs.size∉fp:=λhm=>aT _ (p _ hm);have l:s2.heap.objs.size∉wr:=λh=>H (W.sub _ h);rw[GA];refine cm ⟨plainId_quiet F.plain_min_loop _,?_⟩;refine codeAny_builtin F.entry_min_loop ?_;rw[Around.under_plainId F.plain_min_loop _];have C:(s2.heap.push { cls:=.type "list",data:=.seq #[] }).get? s2.heap.objs.size=some { cls:=.type "list",data:=.seq #[] }:=au _ rfl;refine ck (m:=seqItems? (.ref s2.heap.objs.size)) (wpAny_seqItems C rfl ?_)
 by_cases hn:n=0
 ·subst hn
  refine ck (m:=tryCatch (pyNext (.ref I)) _) (wpAny_tryCatch (W.done _ _ _ (W.frame _ _ _ st λb _ o e=>af _ e) λh' tk a=>?_));refine ck (m:=rule _) (wpAny_rule (cm ?_));exact D d h' tk (.inl ⟨rfl,rfl⟩) λb o B e=>a b o B (af _ e)
 have hn:0<n:=Nat.pos_of_ne_zero hn;refine ck (m:=tryCatch (pyNext (.ref I)) _) (wpAny_tryCatch (W.item 0 _ _ _ hn (W.frame _ _ _ st λb _ o e=>af _ e) λu h' tk pu S a=>?_));have c:=a _ _ l C;have j:f h':=M.keep _ _ hi λb o B _ e=>a b o B e;refine ck (m:=updateSeq s2.heap.objs.size (λ_=>#[u,u])) ?_;refine wpAny_updateSeq c rfl ?_;rw[GA];have up:∀b o,b≠s2.heap.objs.size->h'.get? b=some o->(h'.update s2.heap.objs.size (Obj.mapSeq λ_=>#[u,u])).get? b=some o:=λb o y e=>(aR _ _ (Ne.symm y)).trans e;refine cm ⟨plainId_quiet F.plain_min_loop _,EZ W M H (n-1) 0 _ u _ (by omega) (W.frame _ _ _ S λb L o e=>up b o (λz=>H (z ▸ L)) e) (M.keep _ _ j λb o _ y e=>up b o y e) pu (aZ _ c rfl) λJ q t g i=>?_⟩
 exact D J q t (.inr ⟨hn,g⟩) λb o B e=>i b o B (aK (aH e)) (up b o (aK (aH e)) (a b o B (af _ e)))
end
noncomputable def wF:List Int->Int->Int
 |[],b=>b|x::xs,b=>wF xs (if x<b then x else b)
def PU (ns:bQ):∀(k:Nat)(a:k<ns.length),wF (ns.drop (k+1)) (ns.getD (argBest (λi j=>decide (ns.getD i 0<ns.getD j 0)) k) 0)=wF ns.tail (ns.getD 0 0):=by
 intro k
 induction k with
 |zero=>intro _;rw[show argBest _ 0=0 from rfl,List.drop_one]|succ k I=>
  intro a;have H:k<ns.length:=by omega
  rw[<- I H];have e:ns.drop (k+1)=ns[k+1]::ns.drop (k+1+1):=br a;rw[e];have E:ns.getD (k+1) 0=ns[k+1]:=by rw[ae,aa a];rfl
  show wF _ (ns.getD (if decide (ns.getD (k+1) 0<ns.getD (argBest _ k) 0)=true then k+1 else argBest _ k) 0)=wF _ (if ns[k+1]<ns.getD (argBest _ k) 0 then ns[k+1] else ns.getD (argBest _ k) 0);rw[E]
  by_cases h:ns[k+1]<ns.getD (argBest (λi j=>decide (ns.getD i 0<ns.getD j 0)) k) 0
  ·rw[ah (by rw[aj];exact h),ah h,E]
  ·rw[ar (by rw[aj];exact h),ar h]
section
variable {K:Frag}
def E1 (n:X.calm=true):yc X (.builtin "min") (JN X.K (λns=>ns≠[]) λns=>wF ns.tail (ns.getD 0 0)):=by
 intro pins s σ H xs us Q I r h;obtain⟨a,ns,rfl,z,f,q⟩:=h;obtain⟨u,rfl,g⟩:=vals1 r;cases g;have M:0<ns.length:=List.length_pos_iff.mpr f;refine call_min_walk (KG I n z λd C fp wr S s2 c L W st p back=>?_);have e:d.length=ns.length:=by have:=c.length;rw[ag]at this;omega
 refine⟨C,fp,wr,_,_,S,λi j=>decide (ns.getD i 0<ns.getD j 0),rfl,W,st,p,by omega,?_,λv h' tk l k=>?_⟩
 ·intro i j J D s' Q' E y x o
  obtain⟨t1,rfl⟩:=ZM c y;obtain⟨T,rfl⟩:=ZM c x;exact(PyProof.Rows.lt_int o:wpAny (model X.prog X.w) X.A.in1 (compareOp .Lt (.int (ns.getD i 0) t1) (.int (ns.getD j 0) T)) Q' E s')
 ·obtain⟨t,rfl⟩:=ZM c l
  rw[e];have b:=PU ns (ns.length-1) (by omega)
  rw[show ns.length-1+1=ns.length by omega,bO]at b
  have B:ns.getD (argBest (λi j=>decide (ns.getD i 0<ns.getD j 0)) (ns.length-1)) 0=wF ns.tail (ns.getD 0 0):=b;rw[B];exact⟨.int _,H,back h' tk k,⟨_,rfl⟩,q⟩
def gU:List W->Hx->R W:=λws A=>match intsOf ws with
 |some (i::is)=>.ok (.int (wF is i)) A|_=>.bad
def AF:∀ws A,q9 (gU ws A):=λws A=>by
 unfold gU;split
 ·exact jW
 ·exact jd
def C9:Z4 K (JN K (λns=>ns≠[]) λns=>wF ns.tail (ns.getD 0 0)) gU:=λφ A H a ys ws Q S z r p=>by
 unfold gU at p;cases e:intsOf ws with
 |none=>rw[e]at p;exact p.elim|some ns=>cases ns with
  |nil=>rw[e]at p;exact p.elim|cons i is=>rw[e]at p;exact⟨a,i::is,rfl,Gn z r e,(by intro z;cases z),p φ H _ .refl S rfl⟩
def minD (d:Int):List Int->Int
 |[]=>d|n::ns=>wF ns n
def NS (K:Frag)(d:Int):List V->Hp->VK->Prop:=JN K (λ_=>True) (minD d)
def Qp (d:Int):List W->Hx->R W:=λws A=>match intsOf ws with
 |some ns=>.ok (.int (minD d ns)) A|none=>.bad
def BX {d:Int}:∀ws A,q9 (Qp d ws A):=λws A=>by
 unfold Qp;split
 ·exact jW
 ·exact jd
def Cb {d:Int}:Z4 K (NS K d) (Qp d):=λφ A H a ys ws Q S z r p=>by
 unfold Qp at p;cases e:intsOf ws with
 |none=>rw[e]at p;exact p.elim|some ns=>rw[e]at p;exact⟨a,ns,rfl,Gn z r e,trivial,p φ H _ .refl S rfl⟩
def Ap {d:Int}{L kp:Pos}{t:TA}(B:X.calm=true)(hm:X.mg "min"=none)(C:PA X [e] t)(y:Gl X "min")(he:starEach [e] X.env=(false,eval e X.env)::starEach [] X.env:=by rfl):
  PE X (.Call (.Name "min" p) [e] [⟨some "default",.Constant (.int d) j L,kp⟩] pos) (WC (NS X.K d) t):=by
 intro pins s σ H Q I h;refine wpAny_Call_Name_kw (ZP I y hm (by rfl:bootBuiltins "min"=some (.builtin "min")) ?_ (by decide) (by decide))
 refine callWith_kw (qa (C pos pins s σ H _ I h) λus s1 ⟨vs,H1,N,o,x⟩=>kwAll_cons (wpAny_Constant_int (kwAll_nil ?_))) (by rw[he];rfl) (by rw[he];rfl) rfl rfl
 obtain⟨a,ns,rfl,z,_,q⟩:=x;obtain⟨u,rfl,l⟩:=vals1 o;cases l;refine Ef (KG (N.tok _) B z λc P fp wr S s2 r hz W st g back=>?_);have e:c.length=ns.length:=by have:=r.length;rw[ag]at this;omega
 refine⟨P,fp,wr,_,_,S,λi j=>decide (ns.getD i 0<ns.getD j 0),λ_=>True,rfl,W,st,g,trivial,⟨λ_ _ _ _=>trivial,?_⟩,λv h' tk f k=>?_⟩
 ·intro i j Z Y s' Q' U _ J E D
  obtain⟨t1,rfl⟩:=ZM r J;obtain⟨T,rfl⟩:=ZM r E;exact(PyProof.Rows.lt_int D:wpAny (model X.prog X.w) X.A.in1 (compareOp .Lt (.int (ns.getD i 0) t1) (.int (ns.getD j 0) T)) Q' U s')
 ·rcases f with ⟨h0,rfl⟩|⟨h0,f⟩
  ·have:ns=[]:=List.length_eq_zero_iff.mp (by omega)
   subst this;exact⟨.int _,H1,back h' tk k,⟨_,rfl⟩,q⟩
  ·obtain⟨t,rfl⟩:=ZM r f
   rw[e];have b:=PU ns (ns.length-1) (by omega)
   rw[show ns.length-1+1=ns.length by omega,bO]at b
   have M:ns.getD (argBest (λi j=>decide (ns.getD i 0<ns.getD j 0)) (ns.length-1)) 0=minD d ns:=by
    refine Eq.trans b ?_;cases ns with
    |nil=>exact absurd h0 (by rw[e];exact aT _)|cons n ns=>rfl
   rw[M];exact⟨.int _,H1,back h' tk k,⟨_,rfl⟩,q⟩
end
section
variable {prog:Program}{A:Around}
def Il {l:Addr}(C:A.handled=none)(y:s.heap.IsTuple l its.toArray)(j:IntsAre its (vs.map λ(v:Nat)=>(v:Int)))(D:∀v∈vs,v<8)
  (h:∀(h':Heap)(tk:Nat),j7 h' s.heap.objs.size led (vs.foldl jR 0)->
   (∀b o,b<s.heap.objs.size->s.heap.get? b=some o->h'.get? b=some o)->Q .none { s with heap:=h',toks:=tk }):
  codeAny (model prog w) A (.call (.builtin "set.__init__") ⟨[.ref s.heap.objs.size,.ref l],[]⟩) (wants Q E) { s with heap:=s.heap.push (yy led) }:=by
 have hlen:its.length=vs.length:=by
  have:∀{its:bR}{ns:bQ},IntsAre its ns->its.length=ns.length:=λh=>by
   induction h with
   |nil=>rfl|cons _ _ _ I=>simp[I]
  rw[this j,ag]
 have S:(s.heap.push (yy led)).get? s.heap.objs.size=some (yy led):=au _ rfl;refine codeAny_call_builtin F.called_set.init.plain F.entry_set_init (check_set_init_1 ⟨_,S,rfl⟩ ?_);obtain⟨ob,d,a,n,p⟩:=y;obtain⟨P,N,x,u⟩:=ob;dsimp only at a p;cases a;cases p;have g1:=af (yy led) d;have n1:=F.sub_tuple_set;have X:=F.sub_tuple_frozenset;have U:(Value.type "tuple" == Value.type "dict")=false:=by decide
 have q:(s.heap.push (yy led)).IsTuple l its.toArray:=⟨_,g1,rfl,n,rfl⟩;unfold Builtin.«set.__init__» noKeywords Builtin.Frozenset.updateFrom;generalize B:pyIter=PI
 wp_walk
 subst B;refine wpAny_pyIter_tuple q (ck (wpAny_runValue ?_));have lt:l<s.heap.objs.size:=aH d;have sz:(s.heap.push (yy led)).objs.size=s.heap.objs.size+1:=bf ..;have ne:l≠(s.heap.push (yy led)).objs.size:=by rw[sz];exact aK (a8 lt)
 have W:=(Walks.tuple (prog:=prog) (w:=w) (A:=A.in1.in1) (by simp[C]) (s.heap.push (yy led)).objs.size l ne its.toArray).toS
 have f:its.toArray.size=vs.length:=by rw[aC];exact hlen
 rw[f]at W;have off:s.heap.objs.size∉[(s.heap.push (yy led)).objs.size,l]:=by
  rw[sz];intro hm;rcases cn.mp hm with z|hm
  ·exact aK (bj _) z
  ·exact bp lt (cy.mp hm)
 have H:Zu (λi=>vs.getD i 0) vs.length=vs.foldl jR 0:=by
  unfold Zu
  congr 1
  apply bC
  ·simp
  ·intro i d a
   have hi:i<vs.length:=by simpa using a
   simp[ae,aa hi]
 refine PJ W s.heap.objs.size off led (λi=>vs.getD i 0) (λi v e=>?_) (λi hi=>?_) vs.length 0 _ rfl (zero_le _) ⟨⟨_,au _ rfl,rfl,rfl⟩,q.push _⟩ ?_ ?_
 ·obtain⟨t,g⟩:=IntsAre.int_at j i v (by simpa using e)
  refine⟨t,g.trans ?_⟩;have hi:i<vs.length:=by
   have:=(cq.mp (show its[i]? =some v by simpa using e)).1
   omega
  congr 1
  simp[ae,aw,aa hi]
 ·rw[ae,aa hi]
  exact D _ (aN hi)
 ·exact NN led (af _ S)
 ·intro s' M r
  rw[H]at r;obtain⟨h',g',d',T,c⟩:=s';have K:g'=s.gens:=M.gens;have g:d'=s.drawn:=M.drawn;have J:c=s.os:=M.os;subst K g J;refine cm ?_;show wpAny _ _ (ret Value.none) _ _ _;refine cm (h h' T r λb o L e=>M.heap b o (λhm=>?_) (af _ (af _ e)));rcases cn.mp hm with z|hm
  ·exact aK L z
  ·exact aK (a8 L) ((cy.mp hm).trans sz)
def IB {l:Addr}(j:A.handled=none)(t:s.heap.IsTuple l its.toArray)(i:IntsAre its (vs.map λ(v:Nat)=>(v:Int)))(n:∀v∈vs,v<8)
  (h:∀(h':Heap)(tk:Nat),j7 h' s.heap.objs.size (jz w) (vs.foldl jR 0)->
   (∀b o,b<s.heap.objs.size->s.heap.get? b=some o->h'.get? b=some o)->Q (.ref s.heap.objs.size) { s with heap:=h',toks:=tk }):
  wpAny (model prog w) A (call (.type "set") [.ref l]) Q E s:=by
 obtain⟨c,q,d⟩:=F.called_set.mro;have a1:=F.called_set.made;have a2:=F.called_set.sub;have C:=F.called_set.notType;have z:=F.called_set.canCreate;have y:=F.typeCall_set_1 (.ref l);refine wpAny_call (codeAny_of_tree ?_);show wpAny _ _ (callAny (.type "set") _) _ _ _;refine cm ⟨Code.quiet_builtin _ (by decide +kernel),codeAny_builtin F.entry_type_call ?_⟩
 rw[Around.under_plain (weight_type_call_type "set" [.ref l] []) rfl]
 repeat (any_goals (first|assumption|wp_step))
 refine codeAny_mono (Rk (.ref l) (E:=E) (Q1:=λu s1=>u=.ref s.heap.objs.size/\s1={ s with heap:=s.heap.push (yy (jz w)) }) ⟨rfl,rfl⟩) λr s1 a=>?_
 cases r with
 |error e=>exact a|ok p=>
  cases p with
  |ret u=>
   obtain⟨rfl,rfl⟩:=a;have T:Shared.TypeIs { s with heap:=s.heap.push (yy (jz w)) } (.ref s.heap.objs.size) "set":=⟨_,au _ rfl,rfl⟩
   have x:=F.called_set.init.lookup;have B:=F.called_set.init.bind (.ref s.heap.objs.size)
   repeat (any_goals (first|assumption|wp_step))
   refine codeAny_mono (Il (E:=E) (Q:=λv s2=>v=.none/\∃h' tk,s2={ s with heap:=h',toks:=tk }/\j7 h' s.heap.objs.size (jz w) (vs.foldl jR 0)/\
    ∀b o,b<s.heap.objs.size->s.heap.get? b=some o->h'.get? b=some o) (by simp[j]) t i n λh' tk S K=>⟨rfl,h',tk,rfl,S,K⟩) λg s2 H=>?_
   cases g with
   |error e=>exact H|ok f=>
    cases f with
    |ret v=>
     obtain⟨rfl,h',tk,rfl,S,K⟩:=H
     repeat (any_goals (first|assumption|wp_step))
     exact h _ _ S K
    |_=>exact H.elim
  |_=>exact a.elim
end
section
variable {m:Ev}
def gx (K:Frag)(w:World):List V->Hp->VK->Prop:=λxs H Q=>∃(p:Addr) (vs:bU),xs=[.ref p]/\qS K H p (vs.map λ(v:Nat)=>V.int (v:Int))/\(∀v∈vs,v<8)/\∀l,H l=none->Q (.ref l) (upd H l (.ext λh=>j7 h l (jz w) (vs.foldl jR 0)))
def Dh (l:X.calm=true):yc X (.type "set") (gx X.K X.w):=by
 intro pins s σ H xs us Q I r h;obtain⟨p,vs,rfl,g,n,q⟩:=h;obtain⟨u,rfl,d⟩:=vals1 r;cases d;obtain⟨i,c,P,_⟩:=I.tuple g;have f:Vals ((vs.map λ(v:Nat)=>(v:Int)).map V.int) i:=by rw[aP];exact c
 refine IB (I.ok.hd l) P (intsAre_of f) n λh' tk S kp=>?_;refine⟨.ref s.heap.objs.size,_,I.laid (t':=tk) (o:=.ext λh=>j7 h s.heap.objs.size (jz X.w) (vs.foldl jR 0)) (λb o e=>kp b o (aH e) e) (av _) ⟨S,?_,λx t a b=>a.keep b⟩,rfl,q _ (I.hok.fresh (av _))⟩;obtain⟨o,E,y,j,_⟩:=S;exact⟨o,j⟩
def VU:W->Hx->R W:=λw A=>match w with
 |.tup ws=>match intsOf ws with
  |some is=>match ZO is with
   |some vs=>.ok (.ref A.length) (A++[.lst (((List.range 8).filter λi=>decide (i∈vs)).map λ(i:Nat)=>W.int (i:Int))])|none=>.bad
  |none=>.bad
 |_=>.bad
def Gk (m:Ev):Ev:=λρ A=>(m ρ A).bind λw A1=>VU w A1
end
section
variable {prog:Program}{A:Around}
def Lj {t S:Addr}{tk:Tok}(c:IsTup s.heap t items)(g:s.heap.IsSliceOf S .none .none (.int (-1) tk))
  (h:Q (.ref s.heap.objs.size) { s with heap:=s.heap.push { cls:=.type "tuple",data:=.seq items.toList.reverse.toArray } })(z:items.size<=sizeLine):wpAny (model prog w) A (getItem (.ref t) (.ref S)) Q E s:=by
 obtain⟨os,a,d,b⟩:=id g;have e:s.TypeIs (.ref S) "slice":=⟨os,a,d⟩;have H:sizeOk (.seq items.toList.reverse.toArray):=by
  show items.toList.reverse.toArray.size<=sizeLine;simpa using z
 unfold getItem
 try with_reducible refine wpAny_holding ?_
 first|refine ck (cm ?_)|skip
 refine ck (wpAny_sequenceKey c.typeIs (by decide) ?_)
 refine ck (wpAny_callSpecial?_slot (name:=Str.ofString "__getitem__") c.typeIs PyProof.Rows.slot_tuple_getitem
  (wpAny_call_entry PyProof.Rows.slot_tuple_getitem c.typeIs PyProof.Rows.entry_tuple_getitem ?_ (PyProof.Rows.args_tuple_getitem _ _)))
 show wpAny _ _ (Builtin.Tuple.tupleItemsOf (.ref t) >>= _) _ _ s;refine ck (PyProof.Rows.tupleItemsOf_ c ?_);refine ck (wpAny_typeOf e ?_);rw[ah (by decide)]
 have p:∀{Q':Int×Int×Nat->Shared->Prop},Q' ((items.size:Int)-1,-1,items.size) s->wpAny (model prog w) A.in1 (Builtin.Slice.sliceApplied (.ref S) (pure (items.size:Int))) Q' E s:=λ {Q'} q=>by
  unfold Builtin.Slice.sliceApplied Builtin.Slice.sliceFields;refine ck (ck (wpAny_field a b (x:=.none) rfl (ck (wpAny_field a b (x:=.none) rfl (ck (wpAny_field a b (x:=.int (-1) tk) rfl (cm ?_)))))));refine ck (HT.Ks (.int (-1) tk) ?_);show wpAny _ _ (if (((-1:Int))==0)=true then _ else _) _ _ s;rw[ar (by decide)]
  refine ck (HT.Ks .none (ck (HT.Ks .none (ck (cm ?_)))));have j:Builtin.Slice.sliceAdjust none none (-1) (items.size:Int)=((items.size:Int)-1,-1):=rfl;show wpAny _ _ (match Builtin.Slice.sliceAdjust none none (-1) (items.size:Int) with|(lo,hi)=>pure (lo,(-1:Int),Builtin.Slice.slicePlaces lo hi (-1))) _ _ s
  rw[j];have i:Builtin.Slice.slicePlaces ((items.size:Int)-1) (-1) (-1)=items.size:=by
   unfold Builtin.Slice.slicePlaces;rw[ar (by decide)]
   by_cases f:items.size=0
   ·rw[f,ar (by decide)];rfl
   ·rw[ah (by omega)]
    simp
  show wpAny _ _ (pure ((items.size:Int)-1,(-1:Int),Builtin.Slice.slicePlaces ((items.size:Int)-1) (-1) (-1))) _ _ s;rw[i];exact cm q
 refine ck (p ?_);show wpAny _ _ (if (((items.size:Int)-1==0&&(-1:Int)==1&&items.size==items.size))=true then _ else _) _ _ s;rw[ar (by simp),D8]
 first
  |exact ck (m:=Builtin.Tuple.tupleExact _) (wpAny_newObj_type (cm ⟨_,rfl,cm h⟩) H)
  |exact ck (m:=Builtin.Tuple.tupleExact _) (wpAny_newObj_type (ck (cm (cm ⟨_,rfl,cm h⟩))) H)
  |exact ck (ck (m:=Builtin.Tuple.tupleExact _) (wpAny_newObj_type (cm (cm ⟨_,rfl,cm h⟩)) H))
  |exact ck (ck (m:=Builtin.Tuple.tupleExact _) (wpAny_newObj_type (cm ⟨_,rfl,cm h⟩) H))
end
section
variable {st:Expr}{m ms:Ev}{te:TE}{ts:TO}{p2:Pos}{K:Frag}
def gS (K:Frag):V->Hp->VK->Prop:=λx H Q=>∃a xs,x=.ref a/\qS K H a xs/\∀p,H p=none->Q (.ref p) (upd H p (.tup xs.reverse))
def AO (he:PE X e te)(n:PO X (some st) ts):PE X (.Subscript e (.Slice none none (some st) p2) pos) (λσ H Q=>te σ H λx H1=>ts σ H1 λo C=>o=some (-1)/\gS X.K x C Q):=by
 intro pins s σ H Q I h;refine Subscript_ (qa (he pins s σ H _ I h) λv s1 ⟨x,H1,y,f,j⟩=>?_);refine wpAny_Slice ?_;rw[evalPart_none];refine cm (cm ?_);refine qa (n pins s1 σ H1 _ y j) λvs s3 ⟨o,B,u,po,g⟩=>?_;obtain⟨rfl,a,xs,rfl,l,q⟩:=g;cases f;cases po with
 |int i tk=>
  have d:Inv X pins σ B { s3 with heap:=s3.heap.push { cls:=.type "slice",data:=.fields #[.none,.none,.int (-1) tk] } }:=u.kept (t':=s3.toks) λb ob q=>af _ q
  obtain⟨c,r,t,z⟩:=d.tuple l;have hlen:c.toArray.size=xs.length:=by rw[aC];exact r.length.symm
  have p:wpAny (model X.prog X.w) X.A (getItem (.ref a) (.ref s3.heap.objs.size)) (EP X pins σ Q) X.xe { s3 with heap:=s3.heap.push { cls:=.type "slice",data:=.fields #[.none,.none,.int (-1) tk] } }:=by
   refine Lj t (Heap.IsSliceOf.new ..) ?_ (by rw[hlen];exact z)
   refine⟨.ref _,_,d.laid (t':=s3.toks) (o:=.tup xs.reverse) (λb ob q=>af _ q) (av _) ?_,rfl,q _ (d.hok.fresh (av _))⟩;exact⟨by rw[List.length_reverse];exact z,c.reverse,Hh r,Qh.new _ _⟩
  show wpAny (model X.prog X.w) X.A (subscriptTail e (.Slice none none (some st) p2) (.ref a) (.ref s3.heap.objs.size)) (EP X pins σ Q) X.xe _;exact tail_any (ops:=[.ref a,.ref s3.heap.objs.size]) t.typeIs PyProof.Rows.slot_tuple_getitem.lookup p (by with_unfolding_all rfl)
def YR (m ms:Ev):Ev:=λρ A=>(m ρ A).bind λw A1=>(j8 ms ρ A1).bind λo A2=>match w with
 |.tup ws=>if o=some (-1) then .ok (.tup ws.reverse) A2 else .bad|_=>.bad
end
@[irreducible] noncomputable def XW (X:Cx)(x:XR)(e:bY)(ms:List Ev):Prop:=Mi.SJ X x e ms
def NB:@XW=@Mi.SJ:=by
 funext X xr es ms
 unfold XW
 rfl
section
def yw:@zC=@Mi.SE/\@gn=@Mi.SA/\@yL=@Mi.ST/\@gZ=@Mi.SW/\@kH=@Mi.SS/\@we=@Mi.WD/\@wG=@Mi.SI/\@gw=@Mi.SG/\@Qz=@Mi.SF/\@wX=@Mi.SQ/\@Zr=@Mi.Wv/\@Za=@Mi.SM/\@XW=@Mi.SJ:=⟨G2,UO,UG,UL,UT,Uh,UQ,U0,UU,UR,Ux,UI,NB⟩
def QO {g:Heap}{E:bY}{k:Nat}{f:Fn}(o:Zo X g xr)(F:yC X.prog X.w X.K X.mg X.base k x n f)(i:jQ k X.A)(B:gn X xr (e::E) mr)(j:Z3 mr n:=by repeat' (first|exact zF|refine zm ?_))(t:Gl X x:=by rfl)
  (c:(x==("__debug__":Str))=false:=by decide)(he:starEach (e::E) X.env=(false,eval e X.env)::starEach E X.env:=by rfl)(l:(backTo pos (starEach E X.env)).any (·.1)=false:=by rfl):
  zC X xr (.Call (.Name x p) (e::E) [] pos) (zJ f mr):=by
 try simp only[yw]at*
 obtain⟨N,fd,ps,F,hm,s,u⟩:=F;refine PE.imp (OT F i t hm s u .nil o.passes B c he l) λσ H Q ⟨φ,A,ρ,S,re,h⟩=>?_;have h':=qf.mp h;refine⟨φ,A,ρ,S,re,?_⟩;cases r:mr ρ A with
 |ok ws A1=>
  rw[r]at h';intro b H1 vs L I q;have v:vs.length=n:=by rw[<- q.length];exact j ρ A ws A1 r
  rw[bH];refine⟨v,b,A1,ws,I,q,qK h' (λ_ _ z=>z.mono L) λy A2 z a J d D M C=>?_⟩;exact⟨y,M,rfl,C,z a J (L.trans d) D⟩
 |exc y A1=>rw[r]at h';exact h'|bad=>rw[r]at h';exact h'
def KW {m:Ev}(h:yL X.nox kj e m):yL X xr e λρ A=>(m ρ A).nox:=by
 try simp only[yw]at*
 refine PT.imp (PT.nox h) λσ H Q ⟨φ,A,ρ,S,re,q⟩=>⟨φ,A,ρ,S,re,?_⟩;cases E:m ρ A with
 |ok w A1=>(try dsimp only at q);rw[E]at q;exact q|exc y A1=>(try dsimp only at q);rw[E]at q;exact q.elim|bad=>(try dsimp only at q);rw[E]at q;exact q.elim
def Cg {m1:Ex}{s:cg}(h:we X.nox kj s m1):we X xr s λρ A=>(m1 ρ A).nox:=by
 try simp only[yw]at*
 refine yU.imp (yU.nox h) λD σ H ⟨φ,A,ρ,S,re,q⟩=>⟨φ,A,ρ,S,re,?_⟩;cases e:m1 ρ A with
 |ok w A1=>(try dsimp only at q);rw[e]at q;exact q|exc y A1=>(try dsimp only at q);rw[e]at q;exact q.elim|bad=>(try dsimp only at q);rw[e]at q;exact q.elim
def Ku {g:Heap}{E:bY}{top:Str}{np:Pos}(o:Zo X g xr)(c:V8 X.K top x)(d:gn X xr (e::E) mr)(l:Z3 mr n:=by repeat' (first|exact zF|refine zm ?_))(hn:n<=sizeLine:=by decide)(a:Gl X x:=by rfl)(h:X.calm=true:=by rfl)
  (b:(x==("__debug__":Str))=false:=by decide)(he:starEach (e::E) X.env=(false,eval e X.env)::starEach E X.env:=by rfl)(H:(backTo cpos (starEach E X.env)).any (·.1)=false:=by rfl):
  kH X xr (.Raise (some (.Call (.Name x np) (e::E) [] cpos)) none pos) (JI x mr):=by
 try simp only[yw]at*
 exact Ck o c.at_ c.exc PySem.F.excBase_ValueError d l hn a h b he H
def Xv {K:Frag}{st:Stmt}{k:Nat}{m:Ex}(F:gv K x x st f fd)(hm:mg x=some (.ref f))(S:qX N ps (qp st))
  (j:∀(kV doc pm:Value)(an:cf)(c ct:Value)(us:bR),us.length=ps.length->bindArgs (fnOf x x (QW st) (kZ st) (qp st) .none kV doc pm an c ct) ⟨us,[]⟩=pure (ps.zip us))
  (a:∀(c:Value)(A:Around)(outer:b9)(s:Shared)(H:Hp)(E:XK),jQ k (A.deeper (envOfC x (qp st) s.heap.objs.size f c))->
   Zo (gE (gY P w) P w K mg base N x (qp st) f c A outer s H E) s.heap (ZD K E)->we (gE (gY P w) P w K mg base N x (qp st) f c A outer s H E) (ZD K E) (kZ st) m):
  yC P w K mg base (k+1) x ps.length (Zv N.length m):=by
 try simp only[yw]at*
 refine⟨f,fd,ps,?_,hm,F.kp,F.binds j⟩;obtain⟨v,u,kV,doc,pm,an,c,ct,o,rfl,lk,d⟩:=F.ex;refine U4 lk d S (λvs H Q E h=>h.len) λA outer s H vs Q E i ⟨z,φ,A1,ws,p,r,h⟩=>⟨_,a c A outer s H E i fE,?_⟩;refine⟨φ,A1,ws.map some++List.replicate (N.length-ws.length) none,p,RE.start r,?_⟩;have h':=qf.mp h;show R.post _ (FB K φ H _) _;cases e:m (ws.map some++List.replicate (N.length-ws.length) none) A1 with
 |ok n A2=>
  rw[e]at h';cases n with
  |rt w=>exact h'|nx ρ=>exactλb t g l q _=>h' b t .non l q rfl|bk ρ=>exact h'.elim|ct ρ=>exact h'.elim
 |exc y A2=>rw[e]at h';exact h'|bad=>rw[e]at h';exact h'.elim
def BI {L:Addr}{l:Nat}{n:Str}{y:Str}{Z:Str}{cs:bV}{PG:Nat->Obj->Addr->Obj->List V->Prop}{lam:Nat->Fn}{U:bR}{newD:String}{np:Pos}{cp:Pos}{ep:Pos}{dp:Pos}{yp:Pos}{J:Pos}{ap:Pos}{hp:Pos}(hL:∀k,JM X.prog X.w X.K X.mg X.base kk (PG k) (lam k))(hr:jQ kk X.A)(hst:X.stack=X.env::X.outer)(hFr:X.env.frame=some L)(hD:ku X.K Z (.ref D))(exD:Mi.Zs X.K D U newD=true)(hbD:U.contains (.type "BaseException")=true)
  (hcs:∀c,cs.contains c=true->∀C,ku X.K c (.ref C)->∃B f,Mi.Zs X.K C B f=true/\J4 X.K C D=true)
  (hN:X.N.Nodup)(hi:X.N[i]? =some x)(hx:X.env.scope.names.lookup x=some .local)(hl:X.N[l]? =some n)(hn:X.env.scope.names.lookup n=some .local)(hj:X.N[j]? =some y)(hy:X.env.scope.names.lookup y=some .local)
  (hg:Gl X Z)(hs1:swapsWith (.Call (.Name x np) [] [] cp) none ep.line X.env=pure false:=by rfl)(hs2:swapsWith (.Name n J) (some (.Name y yp)) ap.line X.env=pure false:=by rfl)
  (hdx:(x==("__debug__":Str))=false:=by decide)(hdn:(n==("__debug__":Str))=false:=by decide)(hdD:(Z==("__debug__":Str))=false:=by decide):
  kH X xr (.Try [.Expr (.Call (.Name x np) [] [] cp) ep] [.ExceptHandler (some (.Name Z dp)) (some n) [.Assign [.Name y yp] (.Name n J) ap] hp] [] [] pos) (Wo i j l cs PG lam):=by
 try simp only[yw]at*
 intro pins s σ H D0 I ⟨φ,A,ρ,S,re,h⟩;unfold Wo Xo at h;cases ei:ρ[i]? with
 |none=>rw[ei]at h;exact h.elim|some ow=>
  cases ow with
  |none=>rw[ei]at h;exact h.elim|some w=>
   rw[ei]at h;cases w with
   |clo k ws P=>
    dsimp only at h
    by_cases hP:P=PG k
    ·rw[ah hP]at h
     subst hP;obtain⟨v,hv,a,ob,u,c,oc,uc,vs,rfl,h1,h2,hp',rvs⟩:=re.get i _ ei;obtain⟨⟨fd0,hfd⟩,fd,F,hb⟩:=hL k a ob u c oc uc vs hp';have ho:s.heap.get? a=some ob:=(show jk X.prog X.w H s.heap a (.frz ob u) from I.hok a _ h1).1
     refine fJ (i:=l) (L:=L) (k:=zec X.K φ H ρ j l D0)
      I hst hFr hD exD hbD hN hl (.inl hn) ?body ?t hg hdD (.inr hn)
     case body=>
      refine wpAny_execs_cons (wpAny_Expr_any ?_ I.quiet hs1);obtain⟨m,hns,Q⟩:=I.loc;obtain⟨u',r',lk⟩:=Q i x (.ref a) hi hv (.inl hx);obtain rfl:u'=Value.ref a:=r';have hm:m x=some (.ref a):=by
       rcases lk with ⟨_,e⟩|⟨q|q,_⟩
       ·exact e
       ·rw[show X.env.kindOf x=some .local from hx]at q;cases q
       ·rw[show X.env.kindOf x=some .local from hx]at q;cases q
      refine wpAny_Call_Name_kw (wpAny_Name (wpAny_loadName_local I.ok.kind hx hns hm ?_) hdx);have hK:Frag.In [(a,ob)] s.heap:=λb o e=>by
       rw[lookup_cons]at e
       by_cases hb:b=a
       ·subst hb;simp at e;subst e;exact ho
       ·have:(b==a)=false:=by simpa using hb
        rw[this]at e;cases e
      have hkp:keepIn [(a,ob)] (.ref a)=true:=by
       unfold keepIn;obtain⟨o1,o2,o3,o4⟩:=ob;cases (show o3=_ from hfd)
       simp[lookup_cons]
      refine PySem.W.callWith_K0 (K:=[(a,ob)]) (first:=[]) hK hkp ?_;refine wpAny_call (codeAny_mono (F.run X.A X.stack s H ⟨[],[]⟩ [] [] (λ_ H1=>D0.nx σ H1)
       (zdY X.K φ H ρ j l D0 cs)
       hr I.env0 (hb s) .nil ⟨rfl,h1,h2,φ,A,ws,S,rvs,?_⟩) λr s' p=>?_)
      ·cases er:lam k ws A with
       |ok w1 A1=>
        rw[er]at h;exactλd H' v' z Y _=>h d H' σ z Y (re.mono z)
       |exc E A1=>
        rw[er]at h;dsimp only at h
        by_cases T:cs.contains E=true
        ·rw[ah T]at h
         exactλd H' z Y Ca g=>⟨E,Ca,rfl,g,T,d,A1,z,Y,h⟩
        ·rw[ar T]at h;exact h.elim
       |bad=>rw[er]at h;exact h.elim
      ·cases r with
       |error e=>
        unfold CR at p;dsimp only at p;have un:∀b o,s.heap.get? b=some o->∃o',s'.heap.get? b=some o':=by
         obtain⟨_,_,_,_,_,_,un,_⟩:=p;exactλb o e=>un.there b o e (by simp)
        obtain⟨ea,C,H',rfl,I',ly,tr,E,Ca,ec,g,T,φ1,A1,l1,S1,hn1⟩:=P7 I p s.heap λb o e=>⟨o,e⟩;cases ec;obtain⟨B,f,exC,up⟩:=hcs E T C g;exact⟨ea,C,H',B,f,rfl,I',ly,tr,un,exC,up,λoe hoe M=>⟨E,φ1,A1,l1.trans (Le.new M),S1.lay M,⟨ea,oe,.own 0,C,rfl,jN,hoe,g⟩,hn1⟩⟩
       |ok fl=>
        cases fl with
        |ret u1=>
         obtain⟨v1,H1,I1,_,q1⟩:=I.after p;exact wpAny_execs_nil ⟨rfl,σ,H1,I1,q1⟩
        |next=>exact False.elim p|brk=>exact False.elim p|cont=>exact False.elim p
     case t=>
      rintro ea C H2 s2 I2 ⟨E,d,A',z,Y,rx,hn'⟩ E'
      refine FU (i:=l) (j:=j) I2 hN hl hj hn (.inl hy) (λs' I'=>?_) hs2 (.inr hy) hdn;exact⟨_,H2,I',hn' d H2 _ z Y ((((re.mono z).set rx).set rx).unset)⟩
    ·rw[ar hP]at h;exact h.elim
   |_=>exact h.elim
def wN {m:Ev}{P:Pos}{f:Str->Option Bool}{C:Addr}(c:K9 X.K f (.ref C))(i:ku X.K x (.ref C))(hm:X.mg "isinstance"=none)(j:zC X xr e m)(g:Gl X "isinstance":=by rfl)(a:Gl X x:=by rfl)(hd:(x==("__debug__":Str))=false:=by decide)
  (b:starEach [e,.Name x P] X.env=(false,eval e X.env)::starEach [.Name x P] X.env:=by rfl)(l:(backTo pos (starEach [.Name x P] X.env)).any (·.1)=false:=by rfl):
  zC X xr (.Call (.Name "isinstance" p) [e,.Name x P] [] pos) (jl f m):=by
 try simp only[yw]at*
 have d:PE X (.Name x P) (tC (.ref C)):=λpins s σ H Q I h=>KN I a (aW I.mod.kin I.mod.glob i) ⟨.ref C,H,I,rfl,h⟩ hd;exact PE.imp (Qa (OL (cv:=.ref C) c λu r=>r) g hm (by rfl) (jo j (jo d j5) b) (by decide) (by decide) b l) (jl.read λσ H Q h=>h)
def CK {m:Ev}{P:Pos}{f:Str->Option Bool}{T:String}(d:K9 X.K f (.type T))(hm:X.mg "isinstance"=none)(a:X.mg x=none)(i:bootBuiltins x=some (.type T))(j:zC X xr e m)(g:Gl X "isinstance":=by rfl)(b:Gl X x:=by rfl)(hn:x ≠ "__name__":=by decide)(hd:(x==("__debug__":Str))=false:=by decide)
  (c:starEach [e,.Name x P] X.env=(false,eval e X.env)::starEach [.Name x P] X.env:=by rfl)(l:(backTo pos (starEach [.Name x P] X.env)).any (·.1)=false:=by rfl):
  zC X xr (.Call (.Name "isinstance" p) [e,.Name x P] [] pos) (jl f m):=by
 try simp only[yw]at*
 exact PE.imp (Qa (OL (cv:=.ty T) d λu r=>r) g hm (by rfl) (jo j (jo (GK b a i (v:=.ty T) rfl hn hd) j5) c) (by decide) (by decide) c l) (jl.read λσ H Q h=>h)
def KJ {k:Nat}{q:Str}{t:Lm}(d:ls[k]? =some t)(L:Xe X.N X.env.scope t=true)(B:BMain X.mg X.base)(a:X.env.code=.ref c)(C:CodeHd X.base c Pt)(g:X.env.qual ++ "<lambda>"=q)(f:defaultsOf t.params X.env=([],[])):
  zC X xr (.Lambda t.params t.body t.scope pos) (kD n q Pt k (gI X.env q ls k)):=by
 try simp only[yw]at*
 intro pins s σ H Q I h;rw[fU d]at h;exact fP B a C (PH λy b e=>I.ok.has _ ((O6 L).free y b e)) g f pins s σ H Q I h
def gV {K:Frag}{q:Str}{st:Stmt}{k:Nat}{m:j3->Ex}(F:gv K x x st f fd)(hn:nsIn K mainGlobals x=some (some (.ref f)))(t:tabIn K x=some (c,Pt))(S:qX N ps (qp st))
  (a:∀(A:Around)(outer:b9)(s:Shared)(H:Hp)(E:XK),jQ k (A.deeper (envOfC x (qp st) s.heap.objs.size f (.ref c)))->
   we (gE g8 P w K mg base N x (qp st) f (.ref c) A outer s H E).nox kj (kZ st) (m (gI (envOfC x (qp st) s.heap.objs.size f (.ref c)) q ls))):
  kh P w K mg base g8 (k+1) f fd ps (spT K ps.length λPF=>qU N.length (m PF)):=by
 try simp only[yw]at*
 obtain⟨B,z,kV,doc,pm,an,C,ct,o,rfl,lk,d⟩:=F.ex;have v:C=.ref c:=CQ hn lk t;subst v;refine U4 lk d S (λvs H Q E h=>h.len) λA outer s H vs Q E i ⟨D,φ,A1,ws,n,r,h⟩=>⟨_,yU.nox (a A outer s H E i),?_⟩;refine⟨φ,A1,ws.map some++List.replicate (N.length-ws.length) none,n,RE.start r,?_⟩;have h':=qf.mp (h (gI (envOfC x (qp st) s.heap.objs.size f (.ref c)) q ls));show R.post _ (FB K φ H _) _;cases e:m (gI (envOfC x (qp st) s.heap.objs.size f (.ref c)) q ls) (ws.map some++List.replicate (N.length-ws.length) none) A1 with
 |ok j A2=>
  rw[e]at h';cases j with
  |rt w=>exact h'|nx ρ=>exactλb u g l p _=>h' b u .non l p rfl|bk ρ=>exact h'.elim|ct ρ=>exact h'.elim
 |exc y A2=>rw[e]at h';exact h'.elim|bad=>rw[e]at h';exact h'.elim
def Aj {m:Ev}{b:Pos}{P:Pos}{pt:Pos}{x1:Str}{x2:Str}{kt:Nat}(t T:Ty)(hm:X.mg "isinstance"=none)(o:X.mg x1=none)(n:X.mg x2=none)(g:bootBuiltins x1=some (.type t.nm))(f:bootBuiltins x2=some (.type T.nm))(B:zC X xr e m)(z:Gl X "isinstance":=by rfl)(r:Gl X x1:=by rfl)(q:Gl X x2:=by rfl)
  (j:x1 ≠ "__name__":=by decide)(s:(x1==("__debug__":Str))=false:=by decide)(i:x2 ≠ "__name__":=by decide)(hd2:(x2==("__debug__":Str))=false:=by decide)
  (h0:starEach [.Name x1 b,.Name x2 P] X.env=(false,eval (.Name x1 b) X.env)::starEach [.Name x2 P] X.env:=by rfl)(u:starEach [.Name x2 P] X.env=(false,eval (.Name x2 P) X.env)::starEach [] X.env:=by rfl)
  (a:starEach [e,.Tuple [.Name x1 b,.Name x2 P] kt pt] X.env=(false,eval e X.env)::starEach [.Tuple [.Name x1 b,.Name x2 P] kt pt] X.env:=by rfl)(C:(backTo pos (starEach [.Tuple [.Name x1 b,.Name x2 P] kt pt] X.env)).any (·.1)=false:=by rfl):
  zC X xr (.Call (.Name "isinstance" p) [e,.Tuple [.Name x1 b,.Name x2 P] kt pt] [] pos) (XB t T m):=by
 try simp only[yw]at*
 exact PE.imp (Qa D1 z hm (by rfl) (jo B (jo (ND (jo (GK r o g (v:=.ty t.nm) rfl j s) (jo (GK q n f (v:=.ty T.nm) rfl i hd2) j5 u) h0)) j5) a) (by decide) (by decide) a C) λσ H Q ⟨φ,A,ρ,S,re,h⟩=>by
   refine tM.go S re (qf.mp h) λw A1 d H1 v a L x y=>?_;cases E:jY w A1 with
   |none=>rw[E]at a;exact a.elim|some t'=>
    rw[E]at a;refine⟨by show 2<=sizeLine;decide,λl c=>⟨v,t',l,rfl,qS.of jN,?_,a d _ _ (L.trans (Le.new c)) (x.lay c) rfl⟩⟩
    exact OB (x.lay c) (y.mono (Le.new c)) E
def UE {m:Ev}(he:zC X xr e m)(g:gw X tg tw)(f:swapsWithSole [tg] e pos.line X.env=pure false:=by rfl)(hw:swappedStores [tg] e X.env=pure none:=by rfl)(a:(assignEach [tg] X.env).map (·.2)=[assign tg X.env]:=by rfl):kH X xr (.Assign [tg] e pos) (Qx m tw):=by
 try simp only[yw]at*
 exact PS.imp (NH he g f hw a) λD σ H ⟨φ,A,ρ,S,re,h⟩=>by
   refine tM.go S re (qf.mp h) λw A1 b H1 v a l s q=>?_;cases E:tw w ρ with
   |none=>rw[E]at a;exact a.elim|some d=>
    rw[E]at a;exact⟨b,A1,ρ,w,d,s,re.mono l,q,E,λc r=>a b H1 c l s r⟩
def AJ {a:Expr}{b:Expr}{ma:Ev}{mb:Ev}{pt:Pos}{kt:Nat}(i j:Nat){y:Str}{P py p:Pos}{k2:Nat}(t:X.calm=true)(C:X.N.Nodup)(B:zC X xr a ma)(u:zC X xr b mb)(hi:X.N[i]? =some x:=by rfl)(r:X.N[j]? =some y:=by rfl)(d:i≠j:=by decide)
  (o:X.env.scope.names.lookup x=some .local:=by rfl)(n:X.env.scope.names.lookup y=some .local:=by rfl)
  (hw:swappedStores [.Tuple [.Name x P,.Name y py] kt pt] (.Tuple [a,b] k2 p) X.env=pure (some [x,y]):=by rfl)
  (s:swapsWithSole [.Tuple [.Name x P,.Name y py] kt pt] (.Tuple [a,b] k2 p) pos.line X.env=pure false:=by rfl)
  (f:starEach [a,b] X.env=(false,eval a X.env)::starEach [b] X.env:=by rfl)(e:starEach [b] X.env=(false,eval b X.env)::starEach [] X.env:=by rfl):
  kH X xr (.Assign [.Tuple [.Name x P,.Name y py] kt pt] (.Tuple [a,b] k2 p) pos) (Wl i j ma mb):=by
 try simp only[yw]at*
 exact PS.imp (dh t C hi r d o n (jo B (jo u j5 e) f) hw s) λD σ H ⟨φ,A,ρ,S,re,h⟩=>by
   refine tM.go S re (qf.mp h) λw A1 g H1 v f l I Q=>?_;refine tM.go I (re.mono l) (qK (qf.mp f) (λ_ _ z=>z) λ_ _ z=>z.mono l) λK A2 c J v2 e L E q=>?_;exact⟨v,v2,rfl,e c J _ (l.trans L) E (((re.mono (l.trans L)).set (Q.mono L)).set q)⟩
end
section
def KA {q:Str}{E:bY}{f0:Fn}{N:j3->Fn}(g:∀x,X.fn x=true)(hl:∀t∈ls,ZX X.prog X.w X.K X.mg j q t)(f:∀t∈ls,YW X t)
  (hR:∀base PG,(∀k,JM X.prog X.w X.K X.mg base (j+1) (PG k) (yS ls k))->zP X.prog X.w X.K X.mg base kk x n (N PG))(hF:∀PG us A,f0 us A=.bad∨N PG (us.map (Xb PG)) A=f0 us A)(hr:jQ kk X.A)
  (ha:gn X kj (e::E) mr)(hn:Z3 mr n:=by repeat' (first|exact zF|refine zm ?_))(hg:Gl X x:=by rfl)(L:(x==("__debug__":Str))=false:=by decide)
  (he:starEach (e::E) X.env=(false,eval e X.env)::starEach E X.env:=by rfl)(C:(backTo pos (starEach E X.env)).any (·.1)=false:=by rfl):
  zC X kj (.Call (.Name x p) (e::E) [] pos) (wy ls (gI X.env q ls) f0 mr):=by
 try simp only[yw]at*
 intro pins s σ H Q I ⟨φ,A,ρ,S,re,h⟩;obtain⟨fa,fd,ps,F,hm,hk,hb⟩:=hR _ _ (OE I g hl f).2;refine wpAny_Call_Name_kw (KN I hg hm ?_ L);have h':=qf.mp h;refine callWith_K (h₀:=X.base) I.ok.mod.kin hk (qa (ha pos pins s σ H (λvs H1=>∃a A1 ws us,Le X.K φ H a H1/\zT X.K a A1 H1/\zK X.K a H1 ws vs/\ws.length=n/\ZT ls (gI X.env q ls) ρ ws=some us/\(f0 us A1).post (PB X.K a H1 Q) (EB X.K a H1 kj)) I ⟨φ,A,ρ,S,re,?_⟩) λus s1 ⟨vs,H1,o,Z,a,A1,ws,u,l,U,Y,B,hc,D⟩=>⟨o.kIn,?_⟩) he C
 ·cases i:mr ρ A with
  |ok ws A1=>
   rw[i]at h';intro a H1 vs l U q1;have h':(match ZT ls (gI X.env q ls) ρ ws with|some us=>f0 us A1|none=>.bad).post (PB X.K φ H Q) (EB X.K φ H kj):=h'
   cases T:ZT ls (gI X.env q ls) ρ ws with
   |none=>rw[T]at h';exact h'.elim|some us=>
    rw[T]at h';refine⟨a,A1,ws,us,l,U,q1,hn ρ A ws A1 i,T,qK h' (λ_ _ z=>z.mono l) λy A2 z=>z.mono l⟩
  |exc y A1=>rw[i]at h';exact h'|bad=>rw[i]at h';exact h'
 ·obtain⟨e0,hL⟩:=OE (q:=q) o g hl f
  obtain⟨fa',fd',P,F',d,hk',M⟩:=hR _ _ hL;rw[hm]at d;cases d;have b:Wu X.K n (N (Y2 X.env q ls σ)) vs H1 Q E0:=by
   refine⟨by rw[<- Y.length];exact B,a,A1,u.map (Xb (Y2 X.env q ls σ)),U,PD (re.mono l) hc Y,?_⟩
   rcases hF (Y2 X.env q ls σ) u A1 with z|z
   ·rw[z]at D;exact D.elim
   ·rw[z]
    exact qK D (λ_ _ z=>z) λy A2 z v H2 l2 S2=>(z v H2 l2 S2).elim
  have J:=F'.len _ _ _ _ b;have hu:us.length=P.length:=by rw[<- Z.length];exact J
  refine wpAny_call (codeAny_mono (F'.run X.A X.stack s1 H1 ⟨[]++us,[]⟩ us vs Q E0 hr e0 ?_ Z b) λr s2 c=>?_)
  ·have:=M s1 us o.kIn (by rw[bH];exact hu)
   rw[bH]at this;exact this
  ·cases r with
   |error e=>exact False.elim c|ok fl=>
    cases fl with
    |ret u1=>exact o.after c|next=>exact False.elim c|brk=>exact False.elim c|cont=>exact False.elim c
def Fy {a:Expr}{b:Expr}{ma:Ev}{mb:Ev}{apos:Pos}(B:zC X xr a ma)(he:zC X xr b mb)(t:starEach [b] X.env=(false,eval b X.env)::starEach [] X.env:=by rfl)
  (e:attributeBase a "extend" X.env (eval a X.env)=eval a X.env:=by rfl)
  (w:((backTo cpos (starEach [b] X.env)).all (λx=>!x.1)&&(backToKw cpos (keywordEach [] X.env)).all (λx=>x.1.isSome)
   && decide ([b].length+([]:cc).length+(if ([]:cc).isEmpty then 0 else 1)<30))=true:=by rfl)(h:(apos.endLine==cpos.line)=true:=by rfl):
  zC X xr (.Call (.Attribute a "extend" apos) [b] [] cpos) (yx JF ma mb):=by
 try simp only[yw]at*
 exact Xj PySem.F.slot_list_extend (by kernel_rfl) Ee E4 (λφ A H x y u v Q S j q p=>by
   unfold JF at p;cases u with
   |ref n=>
    cases v with
    |ref k=>
     dsimp only at p;cases c:A[n]? with
     |none=>rw[c]at p;exact p.elim|some o=>cases o with
      |lst ws=>
       cases E:A[k]? with
       |none=>rw[c,E]at p;exact p.elim|some s=>cases s with
        |lst us=>
         rw[c,E]at p;dsimp only at p
         by_cases d:ws.length+us.length<=zY
         ·rw[ah d]at p
          obtain⟨l,xs,rfl,f1,g1,f⟩:=S.lst j c;obtain⟨C,zs,rfl,f2,g2,r⟩:=S.lst q E;refine⟨l,C,xs,zs,rfl,rfl,g1,g2,?_,?_⟩
          ·rw[<- f.length,<- r.length]
           have:sizeLine=16777216:=sizeLine_eq
           unfold zY at d;omega
          ·obtain⟨i,g⟩:=S.write (o:=.lst ws) (o':=.lst (ws++us)) c rfl rfl f1 (u:=.lst (xs++zs)) ⟨xs++zs,jN,(f.append r).mono (Le.upd f1 (λ_ z=>by rw[g1]at z;cases z) λ_ _ z=>by rw[g1]at z;cases z)⟩
           exact p _ _ _ i g rfl
         ·rw[ar d]at p;exact p.elim
        |_=>rw[c,E]at p;exact p.elim
      |_=>rw[c]at p;cases E:A[k]? with
       |none=>rw[E]at p;exact p.elim|some _=>rw[E]at p;exact p.elim
    |_=>exact p.elim
   |_=>cases v<;>exact p.elim) B he t e w h
end
def Dc {a:Expr}{b:Expr}{ma:Ev}{mb:Ev}{k:Nat}{apos:Pos}(r:jQ k X.A)(o:zC X xr a ma)(he:zC X xr b mb)(s:starEach [b] X.env=(false,eval b X.env)::starEach [] X.env:=by rfl)
  (e:attributeBase a "index" X.env (eval a X.env)=eval a X.env:=by rfl)
  (w:((backTo cpos (starEach [b] X.env)).all (λx=>!x.1)&&(backToKw cpos (keywordEach [] X.env)).all (λx=>x.1.isSome)
   && decide ([b].length+([]:cc).length+(if ([]:cc).isEmpty then 0 else 1)<30))=true:=by rfl)(h:(apos.endLine==cpos.line)=true:=by rfl):
  zC X xr (.Call (.Attribute a "index" apos) [b] [] cpos) (yx ZN ma mb):=by
 try simp only[yw]at*
 exact Xj PySem.F.slot_list_index PySem.F.type_list_index (Dz r.units) C8 (λφ A H x y u v Q S i q p=>by
   unfold ZN at p;cases E:qk A 8 u with
   |none=>rw[E]at p;exact p.elim|some D=>
    cases g:qk A 8 v with
    |none=>
     rw[E,g]at p;cases D<;>exact p.elim
    |some d=>
     rw[E,g]at p;cases D with
     |list ds=>
      dsimp only at p;cases f:ZU (λz=>PyData.eqv z d) ds with
      |none=>rw[f]at p;exact p.elim|some j=>
       rw[f]at p;dsimp only at p
       by_cases c:j<1000000
       ·rw[ah c]at p
        exact⟨φ,A,u,v,y,d,ds,j,rfl,S,i,q,E,g,f,c,p φ H _ .refl S rfl⟩
       ·rw[ar c]at p;exact p.elim
     |_=>exact p.elim) o he s e w h
def HU {m:Ev}{P pos':Pos}(B:X.calm=true)(hm:X.mg "sorted"=none)(d:X.mg "set"=none)(T:zC X xr e m)(N:Gl X "sorted":=by rfl)(g:Gl X "set":=by rfl)(y:starEach [e] X.env=(false,eval e X.env)::starEach [] X.env:=by rfl)
  (c:starEach [.Call (.Name "set" P) [e] [] pos'] X.env=(false,eval (.Call (.Name "set" P) [e] [] pos') X.env)::starEach [] X.env:=by rfl):
  zC X xr (.Call (.Name "sorted" p) [.Call (.Name "set" P) [e] [] pos'] [] pos) (GF m):=by
 try simp only[yw]at*
 exact PE.imp (Qa (RI B) N hm (by rfl) (jo (Jx (Dm B) g d (by rfl) (jo T j5 y) (by decide) (by decide) y (by rfl)) j5 c) (by decide) (by decide) c (by rfl)) λσ H Q ⟨φ,A,ρ,S,re,h⟩=>by
   refine tM.go S re (qf.mp h) λw A1 b H1 v a J t D=>?_;cases w with
   |ref n=>
    unfold Ub at a;dsimp only at a;cases E:A1[n]? with
    |none=>rw[E]at a;exact a.elim|some u=>cases u with
     |lst ws=>
      rw[E]at a;dsimp only at a;obtain⟨x,ys,rfl,Y,eH,C⟩:=t.lst D E;cases j:intsOf ws with
      |none=>rw[j]at a;exact a.elim|some is=>
       rw[j]at a;dsimp only at a;have Z:=Gq j;subst Z;have ev:=zK.ints.mp C;subst ev;cases s:ZO is with
       |none=>rw[s]at a;exact a.elim|some vs=>
        rw[s]at a;dsimp only at a;obtain⟨e3,U⟩:=VY s;have q:H1 x=some (.lst (vs.map λ(v:Nat)=>V.int (v:Int))):=by rw[eH,e3,aP];rfl
        refine⟨x,vs,rfl,jy.of q,U,λl z=>⟨l,vs.foldl jR 0,rfl,jN,λI f=>?_⟩⟩;have ln:Le X.K b H1 b (upd H1 l (.ext λh=>j7 h l (jz X.w) (vs.foldl jR 0))):=Le.new z;have S2:=t.lay (u:=.ext λh=>j7 h l (jz X.w) (vs.foldl jR 0)) z;have r:∀(ψ:bS)(G:Hp),zK X.K ψ G (((List.range 8).filter λi=>decide (i∈vs)).map λ(i:Nat)=>W.int (i:Int)) ((qi (vs.foldl jR 0)).map λ(v:Nat)=>V.int (v:Int)):=λψ G=>by
         rw[Ob];have e4:∀l:bU,zK X.K ψ G (l.map λ(i:Nat)=>W.int (i:Int)) (l.map λ(v:Nat)=>V.int (v:Int)):=λl=>by
          induction l with
          |nil=>rfl|cons i l M=>exact⟨_,_,rfl,rfl,M⟩
         exact e4 _
        obtain⟨L,S3⟩:=S2.alloc (o:=.lst (((List.range 8).filter λi=>decide (i∈vs)).map λ(i:Nat)=>W.int (i:Int))) f (u:=.lst ((qi (vs.foldl jR 0)).map λ(v:Nat)=>V.int (v:Int))) ⟨_,jN,r _ _⟩;exact a _ _ _ (J.trans (ln.trans L)) S3 ⟨I,rfl,by rw[<- t.len];simp⟩
     |_=>rw[E]at a;exact a.elim
   |_=>exact a.elim
def Bf {a:Expr}{b:Expr}{ma:Ev}{mb:Ev}(c:X.calm=true)(hm:X.mg "sum"=none)(e:zC X xr a ma)(d:zC X xr b mb)(H:Gl X "sum":=by rfl)(g:starEach [a,b] X.env=(false,eval a X.env)::starEach [b] X.env:=by rfl)
  (f:starEach [b] X.env=(false,eval b X.env)::starEach [] X.env:=by rfl)(h:(backTo pos (starEach [b] X.env)).any (·.1)=false:=by rfl):
  zC X xr (.Call (.Name "sum" p) [a,b] [] pos) (zi Qn ma mb):=by
 try simp only[yw]at*
 exact U5 (EX c) BQ Cr hm (by rfl) e d H (by decide) (by decide) g f h
def FA {a:Expr}{b:Expr}{ma:Ev}{mb:Ev}{P pos':Pos}(I:X.calm=true)(hm:X.mg "list"=none)(o:X.mg "range"=none)(M:zC X xr a ma)(J:zC X xr b mb)(E:Gl X "list":=by rfl)(q:Gl X "range":=by rfl)(s:starEach [a,b] X.env=[(false,eval a X.env),(false,eval b X.env)]:=by rfl)(d:starEach [b] X.env=[(false,eval b X.env)]:=by rfl)
  (g:starEach [.Call (.Name "range" P) [a,b] [] pos'] X.env=(false,eval (.Call (.Name "range" P) [a,b] [] pos') X.env)::starEach [] X.env:=by rfl):
  zC X xr (.Call (.Name "list" p) [.Call (.Name "range" P) [a,b] [] pos'] [] pos) (KP ma mb):=by
 try simp only[yw]at*
 exact PE.imp (Jx (Fm I) E hm (by rfl) (jo (DB q o (jo M (jo J j5 (by rw[d];rfl)) (by rw[s,d])) s d) j5 g) (by decide) (by decide) g (by rfl)) λσ H Q ⟨φ,A,ρ,S,re,h⟩=>by
   refine tM.go S re (qf.mp h) λw A1 t H1 v N L S1 B=>?_;refine tM.go S1 (re.mono L) (qK (qf.mp N) (λ_ _ z=>z) λ_ _ z=>z.mono L) λu A2 c n v2 e C Z y=>?_;cases w with
   |int i=>
    obtain rfl:=B;cases u with
    |int j=>
     obtain rfl:=y;dsimp only at e
     by_cases f:(jP i&&(jP j&&decide ((j-i).toNat<=zY)))=true
     ·rw[ah f]at e
      rw[ak,ak,aj]at f;refine⟨i,j,rfl,λp r=>⟨p,i,j,rfl,jN,QM f.1,QM f.2.1,Z9 f.2.2,λl D=>?_⟩⟩;have ln:Le X.K c n c (upd n p (.rng i j)):=Le.new r;have x:zK X.K c (upd n p (.rng i j)) ((List.range (j-i).toNat).map λ(k:Nat)=>W.int (i+k)) (JS i (j-i).toNat):=by
       have:=(zK.ints (K:=X.K) (φ:=c) (H:=upd n p (.rng i j)) (ns:=(List.range (j-i).toNat).map λ(k:Nat)=>(i+(k:Int))) (vs:=JS i (j-i).toNat)).mpr (by unfold JS;simp)
       rw[aP]at this;exact this
      obtain⟨Y,U,T⟩:=JG (Z.lay r) D x;exact e _ _ _ (((L.trans C).trans ln).trans Y) U T
     ·rw[ar f]at e;exact e.elim
    |_=>exact e.elim
   |_=>exact e.elim
@[irreducible] noncomputable def J6 (X:Cx)(x:XR)(e:Option Expr)(p:Po):Prop:=Mi.SP X x e p
def hE:@J6=@Mi.SP:=by
 funext X xr e p
 unfold J6
 rfl
def UH:@zC=@Mi.SE/\@gn=@Mi.SA/\@yL=@Mi.ST/\@gZ=@Mi.SW/\@kH=@Mi.SS/\@we=@Mi.WD/\@wG=@Mi.SI/\@gw=@Mi.SG/\@Qz=@Mi.SF/\@wX=@Mi.SQ/\@Zr=@Mi.Wv/\@Za=@Mi.SM/\@XW=@Mi.SJ/\@J6=@Mi.SP:=⟨G2,UO,UG,UL,UT,Uh,UQ,U0,UU,UR,Ux,UI,NB,hE⟩
def Q3:J6 X xr none yG:=by
 try simp only[UH]at*
 exact PO.imp AZ λσ H Q ⟨φ,A,ρ,S,re,h⟩=>h φ H .refl S
def QU {m:Ev}(h:zC X xr e m):J6 X xr (some e) (j8 m):=by
 try simp only[UH]at*
 exact Mi.Ny h
def QX {m:Ev}{lo hi:Option Expr}{P pu:Po}{x:Pos}(he:zC X xr e m)(C:J6 X xr lo P)(y:J6 X xr hi pu):zC X xr (.Subscript e (.Slice lo hi none x) pos) (yh m P pu):=by
 try simp only[UH]at*
 exact PE.imp (CH AR he C y) λσ H Q ⟨φ,A,ρ,S,re,h⟩=>by
   refine tM.go S re (qf.mp h) λw A1 g H1 v E c M q=>?_;refine⟨g,A1,ρ,M,re.mono c,qK (qf.mp E) (λl A2 D f N d J=>?_) λ_ _ z=>z.mono c⟩;refine⟨f,A2,ρ,J,(re.mono c).mono d,qK (qf.mp D) (λu T i b n j s=>?_) λ_ _ z=>z.mono (c.trans d)⟩;have L:=(c.trans d).trans j;cases w with
   |tup ws=>
    obtain⟨a,vs,rfl,t,r⟩:=(q.mono d).mono j;have hlen:ws.length=vs.length:=r.length;refine⟨a,vs,rfl,t,λhw=>?_,λhw p B=>?_⟩
    ·refine i b n _ L s ⟨a,vs,rfl,t,?_⟩
     have:wd ws l u=ws:=by
      unfold wd;rw[hlen,hw.1,hw.2,Nat.sub_zero,List.drop_zero,<- hlen,bI]
     rw[this];exact r
    ·have o:zK X.K b n (wd ws l u) (JU vs l u):=by
      unfold wd JU;rw[hlen];exact zK.take _ (zK.drop _ r)
     obtain⟨a1,a2,I⟩:=Q9 s B o;exact i _ _ _ (L.trans a1) a2 I
   |_=>exact i.elim
def QQ {a b:Expr}{ma mb:Ev}(H:zC X xr a ma)(h:zC X xr b mb):zC X xr (.BinOp a .FloorDiv b pos) (zi wQ ma mb):=by
 try simp only[yw]at*
 exact JJ DY Tn (UZ Cf λ_ _ _ _=>rfl) H h
def DQ (H:X.calm=true)(hm:X.mg "min"=none)(a:wX X xr e q)(h:Gl X "min":=by rfl)(he:starEach [e] X.env=(false,eval e X.env)::starEach [] X.env:=by rfl):
  zC X xr (.Call (.Name "min" p) [e] [] pos) (mQ gU q):=by
 try simp only[yw]at*
 exact K8 (E1 H) AF C9 hm (by rfl) a h (by decide) (by decide) he (by rfl)
def DF {d:Int}{c kp:Pos}(H:X.calm=true)(hm:X.mg "min"=none)(a:wX X xr e q)(h:Gl X "min":=by rfl)(he:starEach [e] X.env=(false,eval e X.env)::starEach [] X.env:=by rfl):
  zC X xr (.Call (.Name "min" p) [e] [⟨some "default",.Constant (.int d) j c,kp⟩] pos) (mQ (Qp d) q):=by
 try simp only[yw]at*
 exact PE.imp (Ap H hm (jo a j5 he) h he) (mQ.read BX Cb)
def He {m:Ev}{P pos':Pos}(x:X.calm=true)(hm:X.mg "sorted"=none)(d:X.mg "set"=none)(N:zC X xr e m)(M:Gl X "sorted":=by rfl)(g:Gl X "set":=by rfl)(s:starEach [e] X.env=(false,eval e X.env)::starEach [] X.env:=by rfl)
  (c:starEach [.Call (.Name "set" P) [e] [] pos'] X.env=(false,eval (.Call (.Name "set" P) [e] [] pos') X.env)::starEach [] X.env:=by rfl):
  zC X xr (.Call (.Name "sorted" p) [.Call (.Name "set" P) [e] [] pos'] [] pos) (Gk m):=by
 try simp only[yw]at*
 exact PE.imp (Qa (RI x) M hm (by rfl) (jo (Jx (Dh x) g d (by rfl) (jo N j5 s) (by decide) (by decide) s (by rfl)) j5 c) (by decide) (by decide) c (by rfl)) λσ H Q ⟨φ,A,ρ,S,re,h⟩=>by
   refine tM.go S re (qf.mp h) λw A1 b H1 v a I z C=>?_;cases w with
   |tup ws=>
    unfold VU at a;dsimp only at a;obtain⟨q,ys,rfl,y,B⟩:=C;cases E:intsOf ws with
    |none=>rw[E]at a;exact a.elim|some is=>
     rw[E]at a;dsimp only at a;have U:=Gq E;subst U;have ev:=zK.ints.mp B;subst ev;cases n:ZO is with
     |none=>rw[n]at a;exact a.elim|some vs=>
      rw[n]at a;dsimp only at a;obtain⟨Z,T⟩:=VY n;have j:qS X.K H1 q (vs.map λ(v:Nat)=>V.int (v:Int)):=by rw[Z,aP]at y;exact y
      refine⟨q,vs,rfl,j,T,λl t=>⟨l,vs.foldl jR 0,rfl,jN,λD f=>?_⟩⟩;have ln:Le X.K b H1 b (upd H1 l (.ext λh=>j7 h l (jz X.w) (vs.foldl jR 0))):=Le.new t;have S2:=z.lay (u:=.ext λh=>j7 h l (jz X.w) (vs.foldl jR 0)) t;have r:∀(ψ:bS)(G:Hp),zK X.K ψ G (((List.range 8).filter λi=>decide (i∈vs)).map λ(i:Nat)=>W.int (i:Int)) ((qi (vs.foldl jR 0)).map λ(v:Nat)=>V.int (v:Int)):=λψ G=>by
       rw[Ob];have Y:∀l:bU,zK X.K ψ G (l.map λ(i:Nat)=>W.int (i:Int)) (l.map λ(v:Nat)=>V.int (v:Int)):=λl=>by
        induction l with
        |nil=>rfl|cons i l J=>exact⟨_,_,rfl,rfl,J⟩
       exact Y _
      obtain⟨L,S3⟩:=S2.alloc (o:=.lst (((List.range 8).filter λi=>decide (i∈vs)).map λ(i:Nat)=>W.int (i:Int))) f (u:=.lst ((qi (vs.foldl jR 0)).map λ(v:Nat)=>V.int (v:Int))) ⟨_,jN,r _ _⟩;exact a _ _ _ (I.trans (ln.trans L)) S3 ⟨D,rfl,by rw[<- z.len];simp⟩
   |_=>exact a.elim
def Cd {st:Expr}{m:Ev}{ms:Ev}{P:Pos}(he:zC X xr e m)(s:zC X xr st ms):zC X xr (.Subscript e (.Slice none none (some st) P) pos) (YR m ms):=by
 try simp only[yw]at*
 exact PE.imp (AO he (Mi.Ny s)) λσ H Q ⟨φ,A,ρ,S,re,h⟩=>by
   refine tM.go S re (qf.mp h) λw A1 c H1 v i l u q=>?_;refine⟨c,A1,ρ,u,re.mono l,qK (qf.mp i) (λo A2 b f x L n=>?_) λ_ _ z=>z.mono l⟩;cases w with
   |tup ws=>
    dsimp only at b
    by_cases d:o=some (-1)
    ·rw[ah d]at b
     obtain⟨a,vs,rfl,t,r⟩:=q.mono L;refine⟨d,a,vs,rfl,t,λp g=>?_⟩
     ·obtain⟨a1,a2,j⟩:=Q9 n g (zK.rev r)
      exact b _ _ _ ((l.trans L).trans a1) a2 j
    ·rw[ar d]at b;exact b.elim
   |_=>exact b.elim
def zP.up {K:Frag}{k:Nat}{f:Fn}(F:zP P w K mg base j x n f)(h:j<=k:=by decide):zP P w K mg base k x n f:=F.mono h
def yC.up {K:Frag}{k:Nat}{f:Fn}(F:yC P w K mg base j x n f)(h:j<=k:=by decide):yC P w K mg base k x n f:=F.mono h
section
variable {C:List Value->Prop}
theorem yM (h:∀a,C [a]):∀us:bR,us.length=1->C us
 |[a],_=>h a
theorem g9 (h:∀a b,C [a,b]):∀us:bR,us.length=2->C us
 |[a,b],_=>h a b
theorem Z7 (h:∀a b c,C [a,b,c]):∀us:bR,us.length=3->C us
 |[a,b,c],_=>h a b c
end
def qC {l:bV}(h:decide l.Nodup=true):l.Nodup:=of_decide_eq_true h
noncomputable def MR (N P:bV)(sc:Scope):Bool:=decide (sc.kind=.function)&&(!sc.isCoroutine&&(!sc.isGenerator&&(decide N.Nodup&&(decide (N.take P.length=P)&&(P.all (λx=>decide (sc.names.lookup x=some .local) || decide (sc.names.lookup x=some .cell))&&sc.names.all λy=>!decide (y.2=.free))))))
def jg {P:bV}(h:MR N P sc=true):qX N P sc:=by
 unfold MR at h;simp only[ak,aj,Bool.not_eq_true',bw,bx,decide_eq_false_iff_not]at h;obtain⟨g,f,e,d,c,b,a⟩:=h;exact⟨g,f,e,d,c,b,λy H=>a y H⟩
section
def Wy (h:(ls.all λt=>Xe X.N X.env.scope t)=true):∀t∈ls,YW X t:=λt H=>O6 (cx.mp h t H)
def qQ {iter:Expr}{M:Ev}(nl:Nat)(cap:bU)(hw:wG X xr tg iter mi)
  (n:∀s H fp,gw (yg X N sc s H fp kf) tg tw/\Zr (yg X N sc s H fp kf) ifs M/\Za (yg X N sc s H fp kf) elt (⟨tg,iter,ifs,0⟩::gs) sc pos 0 em)
  (c:X.calm=true:=by rfl)(S:ZL X sc:=by exact cps (by kernel_rfl))(p:Jc X.N N sc nl cap=true:=by kernel_rfl)
  (b:∀g',gs[0]? =some g'->g'.is_async=0:=by intro _ h;cases h<;>rfl)
  (a:∀x,foldedSetIterable iter X.env x=pure x:=by intro _;rfl):Qz X xr (.ListComp elt (⟨tg,iter,ifs,0⟩::gs) sc pos) (zR nl cap mi tw M em):=CU nl cap c S p hw n b a
def qH {d:Nat}(he:zC X kj elt me)(h:∀e s,X.xe e s->False:=by exactλ_ _ z=>z)(H:gens[d+1]? =none:=by rfl):Za X elt gens sc pos d (zN me):=BJ h he H
end
open PySem L2
abbrev zo:Ev:=qd 0
abbrev zw:Ev:=qd 1
abbrev zL:Ev:=qd 2
abbrev zX:Ev:=qd 3
abbrev qB:Ev:=qd 4
abbrev jj:Ev:=qd 5
abbrev kS:Ev:=qd 6
abbrev wm:Ev:=qd 7
abbrev Zy:Ev:=qd 8
abbrev X0:Ev:=qd 9
abbrev Wg:Ev:=qd 10
abbrev zI:Ev:=zW (.int 0)
abbrev zM:Ev:=zW (.int 1)
abbrev ql:Ev:=zW (.int 2)
abbrev jD:Ev:=zW (.int 3)
abbrev yA:Ev:=zW (.int 4)
abbrev Y5:Ev:=zW (.int 5)
abbrev TU:Ev:=zW (.int 6)
abbrev Z5:Ev:=zW (.int 7)
abbrev yV:Ev:=zW (.int 8)
abbrev Jf:Ev:=zW (.int 10)
abbrev zU:Ev:=zW (.bl true)
abbrev WA:Ev:=zW (.bl false)
abbrev yi:Ev:=zW .non
abbrev yB:Ex:=zp (qF WA) zA
end Mi
namespace G
open PySem L2 Mi
noncomputable def top (i:Nat):Stmt:=PySem.Challenge.pw_nearkinds_k52_best_mixes.main.body.getD i (.Pass ⟨0,0,0,0⟩)
structure Bu (mg:b8):Prop where
 Hv:mg "ValueError"=none
 Ta:mg "abs"=none
 JP:mg "all"=none
 G7:mg "bool"=none
 Yi:mg "enumerate"=none
 JT:mg "int"=none
 jS:mg "isinstance"=none
 kO:mg "len"=none
 Qk:mg "list"=none
 Qs:mg "max"=none
 Xm:mg "min"=none
 jn:mg "range"=none
 N9:mg "set"=none
 Om:mg "sorted"=none
 Xi:mg "sum"=none
 yO:mg "tuple"=none
 Wb:mg "zip"=none
 Hj:∃t,mg "MOST_KINDS"=some (.int 4 t)
 IG:∃t,mg "MOST_PLACES"=some (.int 8 t)
 O5:∃t,mg "SMALL"=some (.int 3 t)
noncomputable abbrev je:bV:=["NoTable","NotSteady","NoKinds","TooMany"]
noncomputable abbrev Gz:bV:=["NoTable","NotSteady","NoPlace","NoKind","NoMix","NoNumber","NoLot","NoKinds","NoPaper","NoParting","NoClosed","TooMany","NoText","NoLine","NoDeed"]
def jX {K:Frag}(R:Gz.all (Q5 K je)=true)(h:Gz.contains x=true:=by decide +kernel):Q5 K je x=true:=cx.mp R x (List.contains_iff_mem.mp h)
def Kv {l:List (Str×NameKind)}(h:(l.all λy=>!(y.2==.cell))=true):∀y∈l,y.2≠.cell:=λy H e=>by
 have q:=cx.mp h y H;rw[e]at q;cases q
def yE {m:Ev}(h:zC X xr e m):SE X xr e m:=by rw[G2]at h;exact h
abbrev Pj:Stmt:=top 1
def HN:qX ["thing"] ["thing"] (qp Pj):=jg (by kernel_rfl)
def Pr:Ex:=zp (qF (ym (yJ .int zo) (yf (yJ .bl zo)))) zA
abbrev RU:Stmt:=top 2
def IT:qX ["thing","many"] ["thing","many"] (qp RU):=jg (by kernel_rfl)
def VE (v:Fn):Ex:=zp (qF (ym (yJ .tup zo) (ym (zi jv (mQ qZ (qw zo)) zw) (mQ Z2 (zR 1 [] (qj zo) (zG 0) zU (zN (zJ v (zc zo zl)))))))) zA
abbrev Sj:Stmt:=top 3
def Lp:qX ["thing","many","limit"] ["thing","many","limit"] (qp Sj):=jg (by kernel_rfl)
def Vb (H:Fn):Ex:=zp (qF (ym (zJ H (zc zo (zc zw zl))) (mQ Z2 (zR 1 [2] (qj zo) (zG 0) zU (zN (yZ kG kF zI zo zw)))))) zA
abbrev Sd:Stmt:=top 4
def Ld:qX ["thing","least","greatest"] ["thing","least","greatest"] (qp Sd):=jg (by kernel_rfl)
def Sg (v:Fn):Ex:=zp (qF (ym (zJ v (zc zo zl)) (yZ kG kG zw zo zL))) zA
abbrev R4:Stmt:=top 5
def Hu:qX ["things"] ["things"] (qp R4):=jg (by kernel_rfl)
def RT:Ex:=zp (qF (mQ Z2 (zR 2 [] (wW zo (yh zo (j8 zM) yG)) (jx 0 1) zU (zN (zi kF zo zw))))) zA
abbrev Sh:Stmt:=top 6
def Lc:qX ["thing","least","greatest"] ["thing","least","greatest"] (qp Sh):=jg (by kernel_rfl)
def X8 (H:Fn)(L:Fn):Ex:=zp (qy (yf (yJ .tup zo)) yB zA) (zp (qF (ym (mQ Z2 (zR 1 [1,2] (qj zo) (zG 0) zU (zN (zJ L (zc zo (zc zw (zc zL zl))))))) (zJ H (zc zo zl)))) zA)
abbrev Py:Stmt:=top 26
def RX:qX ["thing","many"] ["thing"] (qp Py):=jg (by kernel_rfl)
def Gi (E:Fn)(L:Fn)(M:Fn):Ex:=zp (qy (kE (yf (yJ .tup zo)) (yf (yZ kG kG zM (mQ qZ (qw zo)) yV))) yB zA) (zp (zS 1 (mQ qZ (qw zo))) (zp (qy (yf (mQ Z2 (zR 1 [1] (qj zo) (zG 0) zU (zN (zJ L (zc zo (zc zw (zc zw zl)))))))) yB zA) (zp (qF (ym (zJ E (zc zo zl)) (zJ M (zc zo zl)))) zA)))
abbrev Of:Stmt:=top 27
def VR:qX ["rows","a","row","b","kind"] ["rows"] (qp Of):=jg (by kernel_rfl)
def PL:Ex:=zp (jL (wB zo) (jx 1 2) (zp (jL (wB zL) (jx 3 4) (zp (qy (kE (zi jb (zi jv qB zI) (zi jv zw zX)) (zi jb (zi zD (zi zD zo zX) zw) qB)) yB zA) zA)) zA)) (zp (qF zU) zA)
abbrev T7:Stmt:=top 28
def T6:qX ["rows","standing"] ["rows"] (qp T7):=jg (by kernel_rfl)
def T9:Ex:=zp (zS 1 (qL (zR 2 [] (qj zo) (zG 0) zU (Zn (qj zo) (zG 1) zU (zN zw))))) (zp (qF (mQ Z2 (zR 1 [1] (qR (mQ yj (qw zw))) (zG 0) zU (zN (zi XT zo zw))))) zA)
abbrev SH:Stmt:=top 29
def LM:qX ["table"] ["table"] (qp SH):=jg (by kernel_rfl)
def Ve (f:Fn):Ex:=zp (qy ((λρ A=>((yf (zJ f (zc zo zl))) ρ A).nox)) (zp (JI "NoTable" (zc (zW (.str "this is no table")) zl)) zA) zA) zA
abbrev Rg:Stmt:=top 30
def Ij:qX ["table"] ["table"] (qp Rg):=jg (by kernel_rfl)
def Ri:Ex:=zp (qF (zi qh (mQ yj (zR 1 [] (qj zo) (zG 0) zU (zN (mQ yj (qw zo))))) zM)) zA
abbrev SO:Stmt:=top 31
def WM:qX ["table","one","other","many","counts","i","j"] ["table","one","other"] (qp SO):=jg (by kernel_rfl)
def SU (Q:Fn):Ex:=zp (zS 3 (zJ Q (zc zo zl))) (zp (zS 4 (qL (zR 1 [3] (qR zX) (zG 0) zU (zN (zi qT (zZ (zc zI zl)) zw))))) (zp (jL (wW (zi zD zo zw) (zi zD zo zL)) (jx 5 6) (zp (JO (zi zD qB jj) kS zM) zA)) (zp (qF (mQ jU (zR 1 [] (qj qB) (zG 0) zU (zN (mQ jU (qw zo)))))) zA)))
abbrev S9:Stmt:=top 32
def WR:qX ["table","firsts","a","row","b","kind"] ["table"] (qp S9):=jg (by kernel_rfl)
def Rc:Ex:=zp (zS 1 Jk) (zp (jL (wB zo) (jx 2 3) (zp (jL (wB zX) (jx 4 5) (zp (yK (YL Qe zw jj (zB (zc zL (zc qB zl))))) zA)) zA)) (zp (qF zw) zA))
abbrev Rq:Stmt:=top 33
def Vo:qX ["table","firsts","pairs"] ["table"] (qp Rq):=jg (by kernel_rfl)
def Rz (Q:Fn)(w:Fn)(v:Fn):Ex:=zp (zS 1 (zJ v (zc zo zl))) (zp (zS 2 (qL (zR 1 [1] (qR (zJ Q (zc zo zl))) (zG 0) zU (zN (zi Xl zw zo))))) (zp (qF (qL (zR 2 [0] (qj zL) (jx 0 1) zU (zN (zJ w (zc zL (zc zo (zc zw zl)))))))) zA))
abbrev SR:Stmt:=top 34
def Kd:qX ["table","kind","a","b","shares","c","row","e","by"] ["table"] (qp SR):=jg (by kernel_rfl)
def SY (w:Fn)(v:Fn):Ex:=zp (jL (K3 (zJ v (zc zo zl))) (GZ 1 2 3) (zp (zS 4 (zJ w (zc zo (zc zL (zc zX zl))))) (zp (jL (wB zo) (jx 5 6) (zp (jL (wB kS) (jx 7 8) (zp (qy (ym (zi jv Zy zw) (zi jb (zJ w (zc zo (zc jj (zc wm zl)))) qB)) (zp (qF (zB (zc zL (zc zX (zc jj (zc wm zl)))))) zA) zA) zA)) zA)) zA))) (zp (qF yi) zA)
abbrev Sx:Stmt:=top 35
def LD:qX ["table"] ["table"] (qp Sx):=jg (by kernel_rfl)
def WK (L:Fn)(l:Fn):Ex:=zp (yK (zJ l (zc zo zl))) (zp (qy ((λρ A=>((zi (wH true) (zJ L (zc zo zl)) yi) ρ A).nox)) (zp (JI "NotSteady" (zc (zW (.str "the table is not steady")) zl)) zA) zA) zA)
abbrev PC:Stmt:=top 37
def HR:qX ["shares","one","other"] ["shares","one","other"] (qp PC):=jg (by kernel_rfl)
def Pl (I:Fn):Ex:=zp (qF (mQ jU (zR 1 [1,2] (qj zo) (zG 0) zU (zN (zJ I (zc zo (zc zw (zc zL zl)))))))) zA
abbrev Rv:Stmt:=top 38
def LW:qX ["by_kind","one","other"] ["by_kind","one","other"] (qp Rv):=jg (by kernel_rfl)
def Rl:Ex:=zp (qF (mQ gG (zR 4 [2] (wW zw zo) (jx 0 1) zU (Zn (wW qB zw) (jx 2 3) zU (zN (zi qT (zi qT zo zL) zX)))))) zA
abbrev T8:Stmt:=top 42
def M4:qX ["table","kinds"] ["table","kinds"] (qp T8):=jg (by kernel_rfl)
def X6 (Q:Fn)(L:Fn):Ex:=zp (qy ((λρ A=>((yf (zJ L (zc zw (zc zM (zc (zi yT (zJ Q (zc zo zl)) zM) zl))))) ρ A).nox)) (zp (JI "NoKinds" (zc (zW (.str "these are no told kinds of the table")) zl)) zA) zA) zA
abbrev Rw:Stmt:=top 43
def WS:qX ["shares","kinds","mixes","squares","summed","least"] ["shares","kinds","mixes"] (qp Rw):=jg (by kernel_rfl)
def Rj (f:Fn):Ex:=zp (zS 3 (qL (zR 1 [0] (qj zL) (zG 0) zU (zN (zJ f (zc zw (zc zo (zc zo zl)))))))) (zp (zS 4 (qL (zR 1 [3] (qR (mQ qZ (qw zo))) (zG 0) zU (zN (mQ gG (zR 1 [0] (qj zw) (zG 0) zU (zN (zi zD zo zw)))))))) (zp (zS 5 (mQ (Qp 0) (zR 1 [4] (qj zw) (zG 0) zU (zN (jf yr (zi zD zw zo)))))) (zp (qy (zi kG jj zI) (zp (qF yi) zA) zA) (zp (qF (zi qh (zi wQ (zi zD qB zI) jj) zM)) zA))))
abbrev Rh:Stmt:=top 44
def WT:qX ["many","mixes","kind"] ["many"] (qp Rh):=jg (by kernel_rfl)
def Rm:Ex:=zp (zS 1 (zZ (zc (zB zl) zl))) (zp (jL (qR zo) (zG 2) (zp (zS 1 (qL (zR 2 [] (qj zw) (zG 0) zU (Zn (Qo (jf yr jD) (zi qh jD zM)) (zG 1) zU (zN (zi qh zo (zB (zc zw zl)))))))) zA)) (zp (qF zw) zA))
abbrev Pp:Stmt:=top 45
def QL:qX ["table","kinds","shares","best","least","mix","shown"] ["table","kinds"] (qp Pp):=jg (by kernel_rfl)
def Jw (Q:Fn)(i:Fn)(I:Fn)(r:Fn)(L:Fn)(M:Fn):Ex:=zp (yK (zJ L (zc zo zl))) (zp (qy ((λρ A=>((zi XX (zJ Q (zc zo zl)) yA) ρ A).nox)) (zp (JI "TooMany" (zc (zW (.str "the best mix is told of at most four kinds")) zl)) zA) zA) (zp (yK (zJ M (zc zo (zc zw zl)))) (zp (qy ((λρ A=>((zi jv zw (zB zl)) ρ A).nox)) (zp (JI "NoKinds" (zc (zW (.str "one kind at least is to be told")) zl)) zA) zA) ((λρ A=>((zp (zS 2 (zJ I (zc zo zl))) (zp (zS 3 yi) (zp (zS 4 yi) (zp (jL (qj (zJ r (zc (zJ Q (zc zo zl)) zl))) (zG 5) (zp (zS 6 (zJ i (zc zL (zc zw (zc (zB (zc jj zl)) zl))))) (zp (qy (ym (zi (wH true) kS yi) (kE (zi (wH false) qB yi) (zi kF kS qB))) (zp (zS 3 jj) (zp (zS 4 kS) zA)) zA) zA))) (zp (qF zX) zA))))) ρ A).nox)))))
abbrev SV:Stmt:=top 47
def LP:qX ["_law_script","_law_k"] ["_law_script","_law_k"] (qp SV):=jg (by kernel_rfl)
def Vl:Ex:=zp (qy (zi kF zw (mQ qZ (qw zo))) (zp (qF (zi zD zo zw)) zA) zA) (zp (qF zI) zA)
abbrev RD:Stmt:=top 48
def Ry:qX ["_law_script","_law_k","_law_cell"] ["_law_script","_law_k"] (qp RD):=jg (by kernel_rfl)
def Vz (L:Fn):Ex:=zp (zS 2 (zJ L (zc zo (zc zw zl)))) (zp (qy (zi TX zL (zi JV Jf (zW (.int 18)))) (zp (qF (zZ (zc (zi yT zL (zi JV Jf (zW (.int 18)))) (zc zU zl)))) zA) zA) (zp (qF (zZ (zc (zi gD zL (zW (.int 2147483647))) (zc WA zl)))) zA))
abbrev Pd:Stmt:=top 49
def W4:qX ["_law_state_here","_law_many","_law_found","_law_stirred"] ["_law_state_here","_law_many"] (qp Pd):=jg (by kernel_rfl)
def VF:Ex:=zp (qy (zi zD zo zM) (zp (zS 2 (zi gD (zi zD zo zI) zw)) (zp (YH gF (zi wQ (zi zD zo zI) zw) zo zI) (zp (qF zL) zA))) zA) (zp (YH gF (zi gD (zi qh (zi qT (zi zD zo zI) (zW (.int 48271))) (zW (.int 29))) (zW (.int 2147483647))) zo zI) (zp (zS 3 (zi gD (zi qh (zi qh (zi qT (zi zD zo zI) (zi zD zo zI)) (zi qT (zW (.int 39373)) (zi zD zo zI))) Z5) (zW (.int 2147483629)))) (zp (zS 3 (zi gD (zi qh (zi qT zX zX) (zi qT (zW (.int 16807)) zX)) (zW (.int 2147483587)))) (zp (qF (zi gD (zi wQ zX yV) zw)) zA))))
abbrev Sr:Stmt:=top 50
def Va:qX ["_law_state_here","_law_things","_law_left","_law_found"] ["_law_state_here","_law_things"] (qp Sr):=jg (by kernel_rfl)
def Sn (K:Fn):Ex:=zp (zS 2 (qL (qw zw))) (zp (zS 3 (zZ zl)) (zp (U2 1000 (zi jb zL (zZ zl)) (zp (yK (yx wa zX (yx ZQ zL (zJ K (zc zo (zc (mQ qZ (qw zL)) zl)))))) zA)) (zp (qF zX) zA)))
abbrev RQ:Stmt:=top 51
def Ru:qX ["_law_rows","_law_some"] ["_law_rows"] (qp RQ):=jg (by kernel_rfl)
def RH:Ex:=zp (zS 1 (GF (zi Qn (qL (zR 1 [] (qj zo) (zG 0) zU (zN (qL (qw zo))))) (zZ zl)))) (zp (qF (mQ jU (zR 1 [1] (qj zo) (zG 0) zU (zN (mQ jU (zR 1 [1] (qj zo) (zG 0) zU (zN (yx ZN zw zo)))))))) zA)
abbrev RO:Stmt:=top 52
def wY:qX ["_law_state_here","_law_way","_law_many","_law_wide","_law_high","_law_some","_law_ring","_law_rows","_law_a","_law_near","_law_far"] ["_law_state_here"] (qp RO):=jg (by kernel_rfl)
def Vx (K:Fn):Ex:=zp (zS 1 (zJ K (zc zo (zc yV zl)))) (zp (zS 2 (zi zD (zZ (zc yV (zc Z5 (zc TU (zc Y5 (zc yA (zc jD (zc ql (zc zM zl))))))))) (zJ K (zc zo (zc yV zl))))) (zp (qy (zi jv zw zI) (zp (qF (qL (zR 1 [2] (qR zL) (zG 0) zU (zN (qL (zR 1 [0,1] (qR zw) (zG 0) zU (zN (zi Xc (jf Wf (zi yT zw zo)) (zi yT zL (jf Wf (zi yT zw zo))))))))))) zA) zA) (zp (qy (zi jv zw zM) (zp (zS 2 (zi zD (zZ (zc yV (zc yA (zc ql zl)))) (zJ K (zc zo (zc jD zl))))) (zp (qF (qL (zR 1 [2] (qR zL) (zG 0) zU (zN (qL (zR 1 [0] (qR zw) (zG 0) zU (zN (zi zD (zZ (zc zI (zc zM (zc zM (zc ql (zc zM (zc ql (zc ql (zc jD zl))))))))) (zi gk zw zo))))))))) zA)) zA) (zp (qy (zi jv zw ql) (zp (qF (qL (zR 1 [2] (qR zL) (zG 0) zU (zN (qL (zR 1 [0] (qR zw) (zG 0) zU (zN (jf JX (zi jb zw zo))))))))) zA) zA) (zp (qy (zi jv zw jD) (zp (Qx (zi zD (zZ (zc (zB (zc ql (zc yA zl))) (zc (zB (zc yA (zc ql zl))) (zc (zB (zc ql (zc jD zl))) (zc (zB (zc jD (zc ql zl))) (zc (zB (zc ql (zc ql zl))) zl)))))) (zJ K (zc zo (zc Y5 zl)))) (jx 3 4)) (zp (zS 2 (zi qT zX qB)) (zp (qF (qL (zR 1 [2,3] (qR zL) (zG 0) zU (zN (qL (zR 1 [0,2] (qR zw) (zG 0) zU (zN (zi qh (jf JX (zi jb zw zo)) (jf JX (zi jb (zi wQ zw zL) (zi wQ zo zL))))))))))) zA))) zA) (zp (qy (zi jv zw yA) (zp (zS 5 (zZ (zc (zB (zc zI (zc zM zl))) (zc (zB (zc zI (zc ql zl))) (zc (zB (zc zI (zc jD zl))) (zc (zB (zc zM (zc ql zl))) (zc (zB (zc zM (zc jD zl))) (zc (zB (zc ql (zc jD zl))) zl)))))))) (zp (qF (qL (zR 1 [5] (qj jj) (zG 0) zU (zN (qL (zR 1 [0] (qj zw) (zG 0) zU (zN (zi yT ql (mQ qZ (zR 1 [0] (qj zw) (zG 0) (zi XT zo zw) (zN zo))))))))))) zA)) zA) (zp (qy (zi jv zw Y5) (zp (zS 2 (zi zD (zZ (zc yA (zc yV (zc ql zl)))) (zJ K (zc zo (zc jD zl))))) (zp (qF (qL (zR 1 [2] (qR zL) (zG 0) zU (zN (qL (zR 1 [0] (qR zw) (zG 0) zU (zN (zi gk zw zo)))))))) zA)) zA) (zp (zS 3 (zi zD (zZ (zc yA (zc jD (zc ql zl)))) (zJ K (zc zo (zc jD zl))))) (zp (zS 6 (zZ (zc zI (zc zM (zc (zi zD (zZ (zc ql (zc zM zl))) (jf JX (zi jv zX jD))) (zc zM zl)))))) (zp (zS 7 (zZ zl)) (zp (jL (qR (zi qT ql zX)) (zG 8) (zp (zS 9 (qL (zR 1 [3,6,8] (qR (zi qT ql zX)) (zG 0) zU (zN (zi zD zL (zi gD (jf Wf (zi yT zX zo)) zw)))))) (zp (zS 10 (qL (zR 1 [3,8] (qR (zi qT ql zX)) (zG 0) zU (zN (jf JX (zi jb (zi wQ zL zw) (zi wQ zo zw))))))) (zp (qy (zi jv zw TU) (zp (yK (yx wa wm (qL (zR 1 [9,10] (qR (zi qT ql zX)) (zG 0) zU (zN (zi qh (zi qT jD (zi zD zL zo)) (zi zD zw zo))))))) zA) (zp (yK (yx wa wm (qL (zR 1 [9,10] (qR (zi qT ql zX)) (zG 0) zU (zN (MB (zi jv (zi zD zL zo) zM) jD (zi zD zw zo))))))) zA)) zA)))) (zp (qF wm) zA))))))))))))
abbrev RC:Stmt:=top 53
def WX:qX ["_law_state_here","_law_rows","_law_order","_law_kinds_here"] ["_law_state_here"] (qp RC):=jg (by kernel_rfl)
def RM (S:Fn)(I:Fn)(i:Fn):Ex:=zp (zS 1 (zJ I (zc (zJ i (zc zo zl)) zl))) (zp (zS 2 (zJ S (zc zo (zc (KR (mQ qZ (qw zw))) zl)))) (zp (zS 3 (zi qh (zZ (zc zI zl)) (zJ S (zc zo (zc (KP zM (zi qh zM (mQ yj (zR 1 [] (qj zw) (zG 0) zU (zN (mQ yj (qw zo))))))) zl))))) (zp (qF (mQ jU (zR 1 [1,2,3] (qj zL) (zG 0) zU (zN (mQ jU (zR 1 [0,1,3] (qj zL) (zG 0) zU (zN (zi zD zX (zi zD (zi zD zL zw) zo))))))))) zA)))
abbrev RN:Stmt:=top 54
def IE:qX ["_law_table"] ["_law_table"] (qp RN):=jg (by kernel_rfl)
def RG:Ex:=zp (qF (zi qh zM (mQ yj (zR 1 [] (qj zo) (zG 0) zU (zN (mQ yj (qw zo))))))) zA
abbrev Rn:Stmt:=top 55
def WU:qX ["_law_table","_law_a","_law_b","_law_many","_law_found","_law_c"] ["_law_table","_law_a","_law_b"] (qp Rn):=jg (by kernel_rfl)
def Ro (g:Fn):Ex:=zp (zS 3 (zJ g (zc zo zl))) (zp (zS 4 (qL (zR 1 [3] (qR zX) (zG 0) zU (zN (zi qT (zZ (zc zI zl)) zw))))) (zp (jL (qR (mQ qZ (qw zo))) (zG 5) (zp (JO (zi zD qB (zi zD (zi zD zo zw) jj)) (zi zD (zi zD zo zL) jj) zM) zA)) (zp (qF (mQ jU (zR 1 [] (qj qB) (zG 0) zU (zN (mQ jU (qw zo)))))) zA)))
abbrev SX:Stmt:=top 56
def Ke:qX ["_law_table","_law_found","_law_a","_law_b","_law_shares_here"] ["_law_table"] (qp SX):=jg (by kernel_rfl)
def S7 (g:Fn)(I:Fn):Ex:=zp (zS 1 (qL (zR 1 [] (qR (zJ g (zc zo zl))) (zG 0) zU (zN (zZ zl))))) (zp (jL (qR (mQ qZ (qw zo))) (zG 2) (zp (jL (qR (mQ qZ (qw zo))) (zG 3) (zp (zS 4 (zJ I (zc zo (zc zL (zc zX zl))))) (zp (qy (zi Zi qB (zi zD zw (zi zD (zi zD zo zL) zX))) (zp (yK (yx wa (zi zD zw (zi zD (zi zD zo zL) zX)) qB)) zA) zA) zA))) zA)) (zp (qF zw) zA))
abbrev RZ:Stmt:=top 58
def Hy:qX ["_law_state_here","_law_table"] ["_law_state_here","_law_table"] (qp RZ):=jg (by kernel_rfl)
def RY (g:Fn)(K:Fn):Ex:=zp (qF (mQ jU (zR 1 [0] (Qo zM (zJ g (zc zw zl))) (zG 0) (zi jv (zJ K (zc zw (zc ql zl))) zM) (zN zo)))) zA
abbrev Se:Stmt:=top 59
def WE:qX ["_law_state_here","_law_far","_law_some","_law_at","_law_odd","_law_found"] ["_law_state_here","_law_far","_law_some"] (qp Se):=jg (by kernel_rfl)
def Sf (K:Fn):Ex:=zp (zS 3 (zJ K (zc zo (zc (zi qh (mQ qZ (qw zL)) zM) zl)))) (zp (zS 4 (zi zD (zZ (zc (zJ K (zc zo (zc (zi qh zw zM) zl))) (zc zw (zc zI (zc (jf yr zM) (zc zU (zc yi (zc (zW (.str "0")) (zc (zB (zc zI zl)) (zc WA (zc (zi JV Jf (zW (.int 29))) zl))))))))))) (zJ K (zc zo (zc Jf zl))))) (zp (zS 5 (zZ (zc (zi qh (zi qh (yh zL yG (j8 zX)) (zB (zc qB zl))) (yh zL (j8 zX) yG)) (zc (zi qh (zi qh (yh zL yG (j8 zX)) (zB (zc qB zl))) (yh zL (j8 (zi qh zX zM)) yG)) (zc (zi qh (yh zL yG (j8 zX)) (yh zL (j8 (zi qh zX zM)) yG)) (zc (qL (qw zL)) zl)))))) (zp (qF (zi zD (zi qh jj (zZ (zc (YR zL (jf yr zM)) (zc (zi qh zL (yh zL (j8 (jf yr zM)) yG)) (zc yi (zc Jk (zc zI (zc (zB (zc zL zl)) (zc (zB zl) zl))))))))) (zJ K (zc zo (zc (zW (.int 11)) zl))))) zA)))
abbrev RR:Stmt:=top 60
def IH:qX ["_law_thing"] ["_law_thing"] (qp RR):=jg (by kernel_rfl)
def RB:Ex:=zp (qF (ym (yJ .int zo) (yf (yJ .bl zo)))) zA
abbrev S8:Stmt:=top 61
def LZ:qX ["_law_thing","_law_low","_law_high"] ["_law_thing","_law_low","_law_high"] (qp S8):=jg (by kernel_rfl)
def Vu (I:Fn):Ex:=zp (qy (kE (yf (yJ .tup zo)) (zi jb (qL (zR 1 [] (qj zo) (zG 0) (yf (zJ I (zc zo zl))) (zN zo))) (zZ zl))) yB zA) (zp (qy (zi jb (qL (zR 1 [1,2] (qj zo) (zG 0) (yf (yZ kG kG zw zo zL)) (zN zo))) (zZ zl)) yB zA) (zp (qF (zi jv (qL (qw zo)) (Gk zo))) zA))
abbrev SD:Stmt:=top 62
def Sw:qX ["_law_state_here","_law_some"] ["_law_state_here"] (qp SD):=jg (by kernel_rfl)
def Sz (K:Fn):Ex:=zp (zS 1 (zZ (zc (zB (zc (zB (zc zI (zc zM (zc ql zl)))) (zc (zB (zc zM (zc zI (zc zM zl)))) (zc (zB (zc ql (zc zM (zc zI zl)))) zl)))) (zc (zB (zc (zB (zc zI (zc zM (zc ql (zc ql zl))))) (zc (zB (zc zM (zc zI (zc zM (zc ql zl))))) (zc (zB (zc ql (zc zM (zc zI (zc zM zl))))) (zc (zB (zc ql (zc ql (zc zM (zc zI zl))))) zl))))) zl)))) (zp (yK (yx wa zw (zB (zc (zB (zc zI (zc zM (zc zM (zc ql zl))))) (zc (zB (zc zM (zc zI (zc ql (zc ql zl))))) (zc (zB (zc zM (zc ql (zc zI (zc ql zl))))) (zc (zB (zc ql (zc ql (zc ql (zc zI zl))))) zl))))))) (zp (qF (zi zD zw (zJ K (zc zo (zc jD zl))))) zA))
abbrev Su:Stmt:=top 63
def Kb:qX ["_law_state_here","_law_some"] ["_law_state_here"] (qp Su):=jg (by kernel_rfl)
def Ss (K:Fn):Ex:=zp (zS 1 (zZ (zc yi (zc zI (zc (zB zl) (zc (zB (zc (zB zl) zl)) (zc (zB (zc (zB (zc zM zl)) zl)) (zc (zZ (zc (zZ (zc zI zl)) zl)) (zc (zB (zc (zZ (zc zI zl)) zl)) (zc (zB (zc (zB (zc zI zl)) (zc (zB (zc zI zl)) zl))) (zc (zB (zc (zB (zc zI (zc zM zl))) (zc (zB (zc ql (zc zI zl))) zl))) (zc (zB (zc (zB (zc zI (zc ql zl))) (zc (zB (zc ql (zc zI zl))) zl))) (zc Jk zl))))))))))))) (zp (zS 1 (zi qh zw (zZ (zc (zB (zc (zB (zc zI (zc zM zl))) (zc (zB (zc zM (zc zM zl))) zl))) (zc (zB (zc (zB (zc zU zl)) zl)) (zc (zB (zc (zB (zc zI (zc zU zl))) (zc (zB (zc zU (zc zI zl))) zl))) (zc (zB (zc (zB (zc zI (zc (jf yr zM) zl))) (zc (zB (zc (jf yr zM) (zc zI zl))) zl))) (zc (zB (zc (zB (zc zI (zc zM zl))) (zc (zB (zc zM (zc zI zl))) (zc (zB (zc zM (zc zM zl))) zl)))) zl)))))))) (zp (zS 1 (zi qh zw (zZ (zc (zB (zc (zB (zc zI (zc zM (zc ql zl)))) (zc (zB (zc zM (zc zI (zc ql zl)))) (zc (zB (zc ql (zc ql (zc zM zl)))) zl)))) (zc (zW (.str "0")) (zc (zB (zc (zB (zc zI (zc jD (zc jD zl)))) (zc (zB (zc jD (zc zI (zc zM zl)))) (zc (zB (zc jD (zc zM (zc zI zl)))) zl)))) (zc (zB (zc (zB (zc zI zl)) (zc (zB zl) zl))) (zc (zB (zc zI zl)) zl)))))))) (zp (zS 1 (zi qh zw (zZ (zc (zB (zc (zB (zc yi zl)) zl)) (zc (zB (zc (zB (zc zI (zc zI zl))) (zc (zB (zc zI (zc zI zl))) zl))) zl))))) (zp (qF (zi zD zw (zJ K (zc zo (zc (zW (.int 23)) zl))))) zA))))
abbrev VL:Stmt:=top 64
def Hm:qX ["_law_found","_law_due"] ["_law_found","_law_due"] (qp VL):=jg (by kernel_rfl)
def QJ (Z:Fn):Ex:=zp (qy (XB .tup .lst zw) (zp (qy (kE (zi jb (yJ .tup zo) (yJ .tup zw)) (zi jb (yJ .lst zo) (yJ .lst zw))) yB zA) (zp (qy (zi jb (mQ qZ (qw zo)) (mQ qZ (qw zw))) yB zA) (zp (qF (mQ Z2 (zR 2 [] (wW zo zw) (jx 0 1) zU (zN (zJ Z (zc zo (zc zw zl))))))) zA))) zA) (zp (qF (ym (zi jv zo zw) (zi jv (yJ .bl zo) (yJ .bl zw)))) zA)
def VJ {K:Frag}{k:Nat}(T:Bu mg)(F:gv K "_law_same" "_law_same" VL f fd)(hm:mg "_law_same"=some (.ref f)){Z:Fn}(Ze:zP P w K mg base k "_law_same" 2 Z):zP P w K mg base (k+1) "_law_same" 2 (qU 2 (QJ Z)):=
 jt F hm Hm (λ_ _ _ _ _ _=>g9 λ_ _=>rfl) λc A outer s H E h=>zx (jq (gz (Aj .tup .lst T.jS T.yO T.Qk (by rfl) (by rfl) (zh 1))) (zx (jq (Qc (YG (jw (kN h) (gf .tup T.jS T.yO (by rfl) (zh 0)) (gf .tup T.jS T.yO (by rfl) (zh 1))) (YB (jw (kN h) (gf .lst T.jS T.Qk (by rfl) (zh 0)) (gf .lst T.jS T.Qk (by rfl) (zh 1)))))) (zx (qo yF) zH) zH) (zx (jq (jw (kN h) (kL T.kO (yb (zh 0))) (kL T.kO (yb (zh 1)))) (zx (qo yF) zH) zH) (zx (qo (JC rfl T.JP (j0 (qQ (N:=["_law_one","_law_other"]) 2 [] (KY rfl T.Wb (zh 0) (zh 1)) (λ_ _ _=>⟨wL 0 1 rfl (qC (by kernel_rfl)),qJ,qH (qu Ze h (zj (zh 0) (zj (zh 1) zy)))⟩))))) zH))) zH) (zx (qo (Qd (gX (kz h) (zh 0) (zh 1)) (QV (gX (kz h) (gf .bl T.jS T.G7 (by rfl) (zh 0)) (gf .bl T.jS T.G7 (by rfl) (zh 1)))))) zH)
abbrev Vk:Stmt:=top 65
def QH:qX ["_law_call","_law_error","e","_law_marks"] ["_law_call"] (qp Vk):=jg (by kernel_rfl)
def Vg:Ex:=zp (zS 3 (zZ (zc (jl (jF je "NoTable") zw) (zc (jl (jF je "NotSteady") zw) (zc (jl (jF je "NoPlace") zw) zl))))) (zp (zS 3 (zi qh zX (zZ (zc (jl (jF je "NoKind") zw) (zc (jl (jF je "NoMix") zw) (zc (jl (jF je "NoNumber") zw) zl)))))) (zp (zS 3 (zi qh zX (zZ (zc (jl (jF je "NoLot") zw) (zc (jl (jF je "NoKinds") zw) (zc (jl (jF je "NoPaper") zw) zl)))))) (zp (zS 3 (zi qh zX (zZ (zc (jl (jF je "NoParting") zw) (zc (jl (jF je "NoClosed") zw) (zc (jl (jF je "TooMany") zw) zl)))))) (zp (zS 3 (zi qh zX (zZ (zc (jl (jF je "NoText") zw) (zc (jl (jF je "NoLine") zw) (zc (jl (jF je "NoDeed") zw) zl)))))) (zp (qy (yf (jl (TJ je) zw)) (zp (qF yi) zA) zA) (zp (qF (qL (zR 1 [3] (qR (zW (.int 15))) (zG 0) (zi zD zw zo) (zN zo)))) zA))))))
def Kg (PG:j3)(lam:Nat->Fn):Ex:=zp (zS 1 yi) (zp (Wo 0 1 2 je PG lam) Vg)
def Ic {K:Frag}{k:Nat}(T:Bu mg)(C:gq K je "NearError")(R:Gz.all (Q5 K je)=true)(F:gv K "_law_refused" "_law_refused" Vk f fd)(hm:mg "_law_refused"=some (.ref f)){PG:j3}{lam:Nat->Fn}(h:kk<=k)(L:∀k,JM P w K mg base kk (PG k) (lam k)):zP P w K mg base (k+1) "_law_refused" 1 (qU 4 (Kg PG lam)):=
 jt F hm QH (λ_ _ _ _ _ _=>yM λ_=>rfl) λc A outer s H E r=>zx (qt 1 QH.nd wu) (zx (BI L (r.mono h) rfl rfl C.top_at C.top_exc (by decide +kernel) C.under QH.nd rfl rfl rfl rfl rfl rfl rfl) (zx (qt 3 QH.nd (ja (zj (wN (C.isx (jX R)) (wO (jX R)) T.jS (zh 1)) (zj (wN (C.isx (jX R)) (wO (jX R)) T.jS (zh 1)) (zj (wN (C.isx (jX R)) (wO (jX R)) T.jS (zh 1)) zy))) (zm (zm (zm zF))))) (zx (qt 3 QH.nd (jH (zh 3) (ja (zj (wN (C.isx (jX R)) (wO (jX R)) T.jS (zh 1)) (zj (wN (C.isx (jX R)) (wO (jX R)) T.jS (zh 1)) (zj (wN (C.isx (jX R)) (wO (jX R)) T.jS (zh 1)) zy))) (zm (zm (zm zF)))))) (zx (qt 3 QH.nd (jH (zh 3) (ja (zj (wN (C.isx (jX R)) (wO (jX R)) T.jS (zh 1)) (zj (wN (C.isx (jX R)) (wO (jX R)) T.jS (zh 1)) (zj (wN (C.isx (jX R)) (wO (jX R)) T.jS (zh 1)) zy))) (zm (zm (zm zF)))))) (zx (qt 3 QH.nd (jH (zh 3) (ja (zj (wN (C.isx (jX R)) (wO (jX R)) T.jS (zh 1)) (zj (wN (C.isx (jX R)) (wO (jX R)) T.jS (zh 1)) (zj (wN (C.isx (jX R)) (wO (jX R)) T.jS (zh 1)) zy))) (zm (zm (zm zF)))))) (zx (qt 3 QH.nd (jH (zh 3) (ja (zj (wN (C.isx (jX R)) (wO (jX R)) T.jS (zh 1)) (zj (wN (C.isx (jX R)) (wO (jX R)) T.jS (zh 1)) (zj (wN (C.isx (jX R)) (wO (jX R)) T.jS (zh 1)) zy))) (zm (zm (zm zF)))))) (zx (jq (gN (gz (CK C.isv T.jS T.Hv (by rfl) (zh 1)))) (zx (qo wu) zH) zH) (zx (qo (yn (qQ (N:=["_law_k","_law_marks"]) 1 [3] (jG rfl T.jn zu) (λ_ _ _=>⟨qm 0 (qC (by kernel_rfl)),KI (gz (qM (zh 1) (zh 0))),qH (zh 0)⟩)))) zH))))))))
abbrev Pc:Stmt:=top 66
def Jq:qX ["_law_numbers","_law_mix","_law_found","_law_shares_here","_law_total","_law_i","_law_row"] ["_law_numbers","_law_mix"] (qp Pc):=jg (by kernel_rfl)
def Pa:Ex:=zp (zS 2 (zZ zl)) (zp (jL (qj zo) (zG 3) (zp (zS 4 zI) (zp (jL (qR (mQ qZ (qw zw))) (zG 5) (zp (zS 6 (zi zD zX jj)) (zp (zS 4 (zi qh qB (zi qT (zi zD zw jj) (mQ gG (zR 1 [1,6] (qR (mQ qZ (qw zw))) (zG 0) zU (zN (zi qT (zi zD zw zo) (zi zD zL zo)))))))) zA))) (zp (yK (yx wa zL qB)) zA)))) (zp (qF zL) zA))
abbrev RW:Stmt:=top 67
def gM:qX ["_law_table","_law_kinds_here","_law_numbers","_law_mixes","_law_kind","_law_longer","_law_mix","_law_best_here","_law_least","_law_found","_law_here"] ["_law_table","_law_kinds_here"] (qp RW):=jg (by kernel_rfl)
def R5 (L:Fn)(f:Fn):Ex:=zp (zS 2 (qL (zR 1 [] (qj (zJ L (zc zo zl))) (zG 0) zU (zN (zi zD zo zI))))) (zp (zS 3 (zZ (zc (zB zl) zl))) (zp (jL (qR (mQ qZ (qw zL))) (zG 4) (zp (zS 5 (zZ zl)) (zp (jL (qj zX) (zG 6) (zp (yK (yx JF jj (qL (zR 1 [6] (Qo (jf yr jD) yA) (zG 0) zU (zN (zi qh zw (zB (zc zo zl)))))))) zA)) (zp (zS 3 jj) zA)))) (zp (Qx (zB (zc yi (zc yi zl))) (jx 7 8)) (zp (jL (qj zX) (zG 6) (zp (zS 9 (zJ f (zc zL (zc kS zl)))) (zp (qy (zi kF (mQ yj (zR 1 [9] (qj zw) (zG 0) zU (zN (zi zD zw zo)))) zI) (zp (zS 10 (zi qh zM (zi wQ (zi zD X0 zI) (mQ gU (zR 1 [9] (qj zw) (zG 0) zU (zN (zi yT zI (zi zD zw zo)))))))) (zp (qy (kE (zi (wH false) Zy yi) (zi kF Wg Zy)) (zp (Wl 7 8 kS Wg) zA) zA) zA)) zA) zA))) (zp (qF wm) zA)))))
abbrev Ph:Stmt:=top 68
def R0:qX ["_law_state_here","_law_table"] ["_law_state_here"] (qp Ph):=jg (by kernel_rfl)
def VP (g:Fn)(H:Fn):Ex:=zp (zS 1 (zJ H (zc zo zl))) (zp (qy (zi kF (zJ g (zc zw zl)) Y5) (zp (qF zw) zA) zA) (zp (qF (mQ jU (zR 1 [] (qR yA) (zG 0) zU (zN (mQ jU (zR 1 [0] (qR yA) (zG 0) zU (zN (zi zD (zZ (zc zI (zc zM (zc zM (zc ql zl))))) (zi gk zw zo))))))))) zA))
abbrev Qr:Stmt:=top 69
def Q6:qX ["_law_script","_law_k","_law_state_here","_law_table","_law_kinds_here","_law_bad","_law_none","_law_odd","_law_wide"] ["_law_script"] (qp Qr):=jg (by kernel_rfl)
noncomputable abbrev jh:Str:=(("law":Str)++(".<locals>.":Str))++("<lambda>":Str)
def Yy (q:Fn):Lm:=ZY (Wt (Wi (Wc (YV (YV ((kZ Qr).getD 0 Qm) 3) 0))) 0) ["_law_table","_law_kinds_here"] [3,4] (zJ q (zc zo (zc zw zl)))
def Yw (q:Fn):Lm:=ZY (Wt (Wi (Wc (YV ((kZ Qr).getD 0 Qm) 7))) 0) ["_law_bad","_law_odd"] [5,7] (zJ q (zc zo (zc zw zl)))
def YA (q:Fn):Lm:=ZY (Wt (Wi (Wc (YV ((kZ Qr).getD 0 Qm) 8))) 0) ["_law_none","_law_odd"] [6,7] (zJ q (zc zo (zc zw zl)))
def Yv (q:Fn):Lm:=ZY (Wt (Wi (Wc (YV ((kZ Qr).getD 0 Qm) 9))) 0) ["_law_odd","_law_wide"] [7,8] (zJ q (zc zw (zc zo zl)))
def Ys (q:Fn):Lm:=ZY (Wt (Wi (gp (Wc (YV ((kZ Qr).getD 0 Qm) 10)) 1)) 0) ["_law_table","_law_odd"] [3,7] (zJ q (zc zo (zc zw zl)))
def yH (q:Fn):List Lm:=[Yy q,Yw q,YA q,Yv q,Ys q]
def CW {K:Frag}{k:Nat}(T:Bu mg){q:Fn}(J:∀base,yC P w K mg base k "best_mix" 2 q):ZX P w K mg k jh (Yy q):=
 ⟨⟨rfl,rfl,rfl,Kv (by kernel_rfl)⟩,λ_ _ _ _=>rfl,λbase cl a c A outer s H E h x=>yE (QO x (J base) h (zj (zh 0) (zj (zh 1) zy)))⟩
def D6 {K:Frag}{k:Nat}(T:Bu mg){q:Fn}(J:∀base,yC P w K mg base k "best_mix" 2 q):ZX P w K mg k jh (Yw q):=
 ⟨⟨rfl,rfl,rfl,Kv (by kernel_rfl)⟩,λ_ _ _ _=>rfl,λbase cl a c A outer s H E h x=>yE (QO x (J base) h (zj (zh 0) (zj (zh 1) zy)))⟩
def Bg {K:Frag}{k:Nat}(T:Bu mg){q:Fn}(J:∀base,yC P w K mg base k "best_mix" 2 q):ZX P w K mg k jh (YA q):=
 ⟨⟨rfl,rfl,rfl,Kv (by kernel_rfl)⟩,λ_ _ _ _=>rfl,λbase cl a c A outer s H E h x=>yE (QO x (J base) h (zj (zh 0) (zj (zh 1) zy)))⟩
def Ct {K:Frag}{k:Nat}(T:Bu mg){q:Fn}(J:∀base,yC P w K mg base k "best_mix" 2 q):ZX P w K mg k jh (Yv q):=
 ⟨⟨rfl,rfl,rfl,Kv (by kernel_rfl)⟩,λ_ _ _ _=>rfl,λbase cl a c A outer s H E h x=>yE (QO x (J base) h (zj (zh 1) (zj (zh 0) zy)))⟩
def DZ {K:Frag}{k:Nat}(T:Bu mg){q:Fn}(J:∀base,yC P w K mg base k "best_mix" 2 q):ZX P w K mg k jh (Ys q):=
 ⟨⟨rfl,rfl,rfl,Kv (by kernel_rfl)⟩,λ_ _ _ _=>rfl,λbase cl a c A outer s H E h x=>yE (QO x (J base) h (zj (zh 0) (zj (zh 1) zy)))⟩
def hG {K:Frag}{k:Nat}(T:Bu mg){q:Fn}(J:∀base,yC P w K mg base k "best_mix" 2 q):∀t∈yH q,ZX P w K mg k jh t:=
 all_cons (CW T J) (all_cons (D6 T J) (all_cons (Bg T J) (all_cons (Ct T J) (all_cons (DZ T J) all_nil))))
def Ti (J:Fn)(a:Fn)(b:Fn)(e:Fn)(g:Fn)(w:Fn)(Z:Fn)(d:Fn)(c:Fn)(L:Fn)(f:Fn)(q:Fn)(RF:Nat->List W->Hx->R W)(P:Addr)(PF:j3):Ex:=zp (jL (qR (zi U7 zM (zi Xc (mQ qZ (qw zo)) ql))) (zG 1) (zp (zS 2 (zJ d (zc zo (zc zw zl)))) (zp (zS 3 (zJ e (zc zL zl))) (zp (zS 4 (zJ c (zc zL (zc zX zl)))) (zp (qy (zi jv qB (zB zl)) (zp (qy (zi jb (wy (yH q) PF (wA RF) (zc (kD 1 jh P 0 (PF 0)) zl)) (zZ (zc Z5 zl))) yB zA) zA) (zp (qy (yf (zJ Z (zc (zJ f (zc zX (zc qB zl))) (zc (zJ b (zc zX (zc qB zl))) zl)))) yB zA) zA)) (zp (Qx (zB (zc (zJ J (zc zL zl)) (zc (zJ L (zc zL zl)) zl))) (jx 5 6)) (zp (zS 7 (zJ a (zc zL (zc (zJ g (zc zX zl)) (zc qB zl))))) (zp (zS 8 (mQ jU (zR 1 [] (qR yV) (zG 0) zU (zN (mQ jU (zR 1 [0] (qR yV) (zG 0) zU (zN (zi gk zw zo)))))))) (zp (qy (zi jb (wy (yH q) PF (wA RF) (zc (kD 1 jh P 1 (PF 1)) zl)) (zZ (zc zI zl))) yB zA) (zp (qy (zi jb (wy (yH q) PF (wA RF) (zc (kD 1 jh P 2 (PF 2)) zl)) (zZ (zc zM zl))) yB zA) (zp (qy (zi jb (wy (yH q) PF (wA RF) (zc (kD 1 jh P 3 (PF 3)) zl)) (zZ (zc (zW (.int 11)) zl))) yB zA) (zp (qy (ym (yf (zJ w (zc wm (zc zM (zc (zi yT (zJ g (zc zX zl)) zM) zl))))) (zi jb (wy (yH q) PF (wA RF) (zc (kD 1 jh P 4 (PF 4)) zl)) (zZ (zc Z5 zl)))) yB zA) zA)))))))))))) (zp (qF zU) zA)
def o_law {K:Frag}{k:Nat}(T:Bu mg)(F:gv K "law" "law" Qr f fd)(hn:nsIn K mainGlobals "law"=some (some (.ref f)))(u:tabIn K "law"=some (c,Pt))(B:BMain mg base)(C:CodeHd base c Pt){J:Fn}(Jo:zP P w K mg base k "_law_bad_table" 1 J){i:Fn}(Jn:zP P w K mg base k "_law_bent_rising" 3 i){l:Fn}(Js:zP P w K mg base k "_law_best" 2 l){p:Fn}(Jv:zP P w K mg base k "_law_few" 1 p){g:Fn}(kT:zP P w K mg base k "_law_kinds" 1 g){e:Fn}(gL:zP P w K mg base k "_law_rising" 3 e){Z:Fn}(Ze:zP P w K mg base k "_law_same" 2 Z){o:Fn}(Yf:zP P w K mg base k "_law_state" 2 o){n:Fn}(Jr:zP P w K mg base k "_law_told" 2 n){L:Fn}(Jp:zP P w K mg base k "_law_unsteady" 1 L){r:Fn}(Ju:zP P w K mg base k "best_mix" 2 r){Q:Fn}{RF:Nat->List W->Hx->R W}(b:kk<=k)(a:∀t∈yH Q,ZX P w K mg j jh t)(d:∀base PG,(∀k,JM P w K mg base (j+1) (PG k) (yS (yH Q) k))->zP P w K mg base kk "_law_refused" 1 (Jh PG RF)):kh P w K mg base g8 (k+1) f fd ["_law_script"] (spT K 1 λPF=>qU 9 (Ti J i l p g e Z o n L r Q RF Pt PF)):=
 gV (ls:=yH Q) F hn u Q6 λA outer s H E h=>zx (yW PassesOwn.never rfl (jG rfl T.jn (DO rfl T.Qs zu (ON rfl T.Xm (kL T.kO (yb (zh 0))) zu))) (qm 1 Q6.nd) (zx (qt 2 Q6.nd (qu Yf h (zj (zh 0) (zj (zh 1) zy)))) (zx (qt 3 Q6.nd (qu Jv h (zj (zh 2) zy))) (zx (qt 4 Q6.nd (qu Jr h (zj (zh 2) (zj (zh 3) zy)))) (zx (jq (jw (kz h) (zh 4) (z0 zy zF)) (zx (jq (jw (kN h) (KA (q:=jh) (λ_=>rfl) a (Wy (by kernel_rfl)) d KH (h.mono b) (zj (KJ (ls:=yH Q) (t:=Yy Q) rfl (by kernel_rfl) B rfl C rfl rfl) zy) (zm zF)) (ja (zj zu zy) (zm zF))) (zx (qo yF) zH) zH) zH) (zx (jq (gN (gz (qu Ze h (zj (qu Ju h (zj (zh 3) (zj (zh 4) zy))) (zj (qu Js h (zj (zh 3) (zj (zh 4) zy))) zy))))) (zx (qo yF) zH) zH) zH)) (zx (UE (z0 (zj (qu Jo h (zj (zh 2) zy)) (zj (qu Jp h (zj (zh 2) zy)) zy)) (zm (zm zF))) (wL 5 6 rfl Q6.nd)) (zx (qt 7 Q6.nd (qu Jn h (zj (zh 2) (zj (qu kT h (zj (zh 3) zy)) (zj (zh 4) zy))))) (zx (qt 8 Q6.nd (w6 T.yO (j0 (qQ (N:=["_law_a"]) 1 [] (jG rfl T.jn zu) (λ_ _ _=>⟨qm 0 (qC (by kernel_rfl)),qJ,qH (w6 T.yO (j0 (qQ (N:=["_law_b","_law_a"]) 1 [0] (jG rfl T.jn zu) (λ_ _ _=>⟨qm 0 (qC (by kernel_rfl)),qJ,qH (GU (zh 1) (zh 0))⟩))))⟩))))) (zx (jq (jw (kN h) (KA (q:=jh) (λ_=>rfl) a (Wy (by kernel_rfl)) d KH (h.mono b) (zj (KJ (ls:=yH Q) (t:=Yw Q) rfl (by kernel_rfl) B rfl C rfl rfl) zy) (zm zF)) (ja (zj zu zy) (zm zF))) (zx (qo yF) zH) zH) (zx (jq (jw (kN h) (KA (q:=jh) (λ_=>rfl) a (Wy (by kernel_rfl)) d KH (h.mono b) (zj (KJ (ls:=yH Q) (t:=YA Q) rfl (by kernel_rfl) B rfl C rfl rfl) zy) (zm zF)) (ja (zj zu zy) (zm zF))) (zx (qo yF) zH) zH) (zx (jq (jw (kN h) (KA (q:=jh) (λ_=>rfl) a (Wy (by kernel_rfl)) d KH (h.mono b) (zj (KJ (ls:=yH Q) (t:=Yv Q) rfl (by kernel_rfl) B rfl C rfl rfl) zy) (zm zF)) (ja (zj zu zy) (zm zF))) (zx (qo yF) zH) zH) (zx (jq (Qc (Uj (gN (gz (qu gL h (zj (zh 7) (zj zu (zj (Qf (qu kT h (zj (zh 3) zy)) zu) zy)))))) (V4 (jw (kN h) (KA (q:=jh) (λ_=>rfl) a (Wy (by kernel_rfl)) d KH (h.mono b) (zj (KJ (ls:=yH Q) (t:=Ys Q) rfl (by kernel_rfl) B rfl C rfl rfl) zy) (zm zF)) (ja (zj zu zy) (zm zF)))))) (zx (qo yF) zH) zH) zH)))))))))))) (zx (qo yF) zH)
def Ge:Fn:=qU 1 Pr
def QN:Fn :=  Ge
def VG:Fn:=qU 1 RT
def W8:Fn :=  VG
def Oa:Fn:=qU 5 PL
def VV:Fn:=iso Oa
def Sa:Fn:=qU 2 T9
def X7:Fn:=iso Sa
def Ra:Fn:=qU 1 Ri
def ZH:Fn:=iso Ra
def Vp:Fn:=qU 6 Rc
def Ye:Fn:=iso Vp
def Rb:Fn:=qU 3 Rl
def WW:Fn:=iso Rb
def RA:Fn:=qU 3 Rm
def Vr:Fn:=iso RA
def SN:Fn:=qU 2 Vl
def WO:Fn :=  SN
def Ko:Fn:=qU 4 VF
def yN:Fn:=Z0 Ko
def Vy:Fn:=qU 2 RH
def W2:Fn :=  Vy
def RJ:Fn:=qU 1 RG
def kT:Fn:=iso RJ
def VC:Fn:=qU 1 RB
def Km:Fn :=  VC
def VD:Fn:=qU 7 Pa
def Yj:Fn :=  VD
def W7:Fn:=qU 2 (VE QN)
def Yh:Fn :=  W7
def Si:Fn:=qU 3 (Sg QN)
def Ka:Fn:=iso Si
def SK:Fn:=qU 7 (SU ZH)
def ZG:Fn:=iso SK
def VQ:Fn:=qU 3 (Pl WW)
def Kq:Fn :=  VQ
def RS:Fn:=qU 3 (Vz WO)
def Yf:Fn :=  RS
def Vd:Fn:=qU 4 (Sn yN)
def Yb:Fn :=  Vd
def VA:Fn:=qU 11 (Vx yN)
def W3:Fn :=  VA
def Rp:Fn:=qU 6 (Ro kT)
def Kh:Fn:=iso Rp
def VH:Fn:=qU 2 (RY kT yN)
def Jr:Fn :=  VH
def X9:Fn:=qU 6 (Sf yN)
def Jn:Fn :=  X9
def WY:Fn:=qU 3 (Vu Km)
def gL:Fn :=  WY
def Vf:Fn:=qU 2 (Sz yN)
def Jp:Fn :=  Vf
def Vc:Fn:=qU 2 (Ss yN)
def Jo:Fn :=  Vc
def WI:Fn:=qU 3 (Vb Yh)
def QG:Fn :=  WI
def WH:Fn:=qU 3 (X8 W8 Ka)
def Zd:Fn :=  WH
def Rx:Fn:=qU 3 (Rz ZH ZG Ye)
def Vq:Fn:=iso Rx
def Vm:Fn:=qU 9 (SY ZG Ye)
def WQ:Fn:=iso Vm
def Vw:Fn:=qU 6 (Rj Kq)
def Ki:Fn :=  Vw
def WZ:Fn:=qU 4 (RM Yb W2 W3)
def Kk:Fn:=Z0 WZ
def Vh:Fn:=qU 5 (S7 kT Kh)
def Kf:Fn :=  Vh
def IZ:Fn:=qU 2 (QJ (λ_ _=>.bad))
def RL:Fn :=  IZ
def HC:Fn:=qU 2 (QJ RL)
def RK:Fn :=  HC
def R7:Fn:=qU 2 (QJ RK)
def Ze:Fn :=  R7
def Kr:Fn:=qU 2 (Gi VV QG X7)
def ZJ:Fn :=  Kr
def Y9:Fn:=Zv 2 (X6 ZH Zd)
def Pb:Fn:=qU 11 (R5 Kf Yj)
def Js:Fn:=iso Pb
def VS:Fn:=qU 2 (VP kT Kk)
def Jv:Fn :=  VS
def Kc:Fn:=Zv 1 (Ve ZJ)
def Ya:Fn:=Zv 1 (WK WQ Kc)
def jM:Fn:=Zv 7 (Jw ZH Ki Vq Vr Ya Y9)
def Ju:Fn:=iso (λws A=>(jM ws A).nox)
structure Tx (K:Frag):Prop where
 Fw:FD K "is_whole" Pj
 HY:FD K "is_rising" R4
 Dk:FD K "is_even" Of
 M7:FD K "leaves_no_kind_out" T7
 IF:FD K "count_kinds" Rg
 Iq:FD K "first_pairs" S9
 IP:FD K "multiply_at" Rv
 II:FD K "small_mixes" Rh
 L6:FD K "_law_cell_at" SV
 Fc:FD K "_law_take" Pd
 Hk:FD K "_law_named" RQ
 Ho:FD K "_law_kinds" RN
 Hn:FD K "_law_whole" RR
 Fp:FD K "_law_sums" Pc
 HP:FD K "is_wholes" RU
 Lq:FD K "is_whole_between" Sd
 L5:FD K "count_shares" SO
 FO:FD K "multiply" PC
 IV:FD K "_law_state" RD
 LK:FD K "_law_mixed_row" Sr
 Hd:FD K "_law_plain" RO
 IQ:FD K "_law_shares" Rn
 HX:FD K "_law_told" RZ
 Lr:FD K "_law_bent_rising" Se
 ID:FD K "_law_rising" S8
 LR:FD K "_law_unsteady" SD
 LI:FD K "_law_bad_table" Su
 Lv:FD K "is_wholes_below" Sj
 Li:FD K "is_rising_wholes" Sh
 IK:FD K "kind_shares" Rq
 Ih:FD K "search_break" SR
 IM:FD K "count_shown" Rw
 Hw:FD K "_law_known" RC
 Ib:FD K "_law_by_kind" SX
 VI:FD K "_law_same" VL
 F5:FD K "is_table" Py
 La:FD K "require_told_kinds" T8
 Fo:FD K "_law_best" RW
 F1:FD K "_law_few" Ph
 LO:FD K "require_table" SH
 LG:FD K "require_steady" Sx
 Fq:FD K "best_mix" Pp
 Ia:FD K "_law_refused" Vk
 zdw:FD K "law" Qr
 Hl:nsIn K mainGlobals "ValueError"=some none
 zcy:nsIn K mainGlobals "abs"=some none
 zcV:nsIn K mainGlobals "all"=some none
 zbb:nsIn K mainGlobals "bool"=some none
 H9:nsIn K mainGlobals "enumerate"=some none
 zc4:nsIn K mainGlobals "int"=some none
 IX:nsIn K mainGlobals "isinstance"=some none
 zcG:nsIn K mainGlobals "len"=some none
 zcc:nsIn K mainGlobals "list"=some none
 zdg:nsIn K mainGlobals "max"=some none
 zc3:nsIn K mainGlobals "min"=some none
 zag:nsIn K mainGlobals "range"=some none
 zdr:nsIn K mainGlobals "set"=some none
 C7:nsIn K mainGlobals "sorted"=some none
 zco:nsIn K mainGlobals "sum"=some none
 Al:nsIn K mainGlobals "tuple"=some none
 zdn:nsIn K mainGlobals "zip"=some none
 IS:CD K "MOST_KINDS" 4
 IL:CD K "MOST_PLACES" 8
 Br:CD K "SMALL" 3
 zcJ:je.all (Xa K "NearError" ·)=true
 zdc:UY K "NearError"=true
 zcp:Gz.all (Q5 K je)=true
section
variable {K:Frag}
def bu (X:K.In h)(G:h.Ns mainGlobals mg)(T:Tx K):Bu mg:=⟨a7 X G T.Hl,a7 X G T.zcy,a7 X G T.zcV,a7 X G T.zbb,a7 X G T.H9,a7 X G T.zc4,a7 X G T.IX,a7 X G T.zcG,a7 X G T.zcc,a7 X G T.zdg,a7 X G T.zc3,a7 X G T.zag,a7 X G T.zdr,a7 X G T.C7,a7 X G T.zco,a7 X G T.Al,a7 X G T.zdn,(let ⟨t,e⟩:=T.IS;⟨t,aW X G e⟩),(let ⟨t,e⟩:=T.IL;⟨t,aW X G e⟩),(let ⟨t,e⟩:=T.Br;⟨t,aW X G e⟩)⟩
def cl (T:Tx K):gq K je "NearError":=fT T.zcJ T.zdc
structure Zz (K:Frag)(h:Heap)(mg:b8):Prop where
 X:K.In h
 G:h.Ns mainGlobals mg
 T:Tx K
 B:Bu mg
 C:gq K je "NearError"
def zz (X:K.In h)(G:h.Ns mainGlobals mg)(T:Tx K):Zz K h mg:=⟨X,G,T,bu X G T,cl T⟩
def Pe (Z:Zz K h mg):zP P w K mg base 1 "is_whole" 1 QN:=by
 obtain⟨f,fd,F,a⟩:=Z.T.Fw;exact(jt F (aW Z.X Z.G a) HN (λ_ _ _ _ _ _=>yM λ_=>rfl) λc A outer s H E r=>zx (qo (Qd (gf .int Z.B.jS Z.B.JT (by rfl) (zh 0)) (QV (OY (gf .bl Z.B.jS Z.B.G7 (by rfl) (zh 0)))))) (zH):zP P w K mg base 1 "is_whole" 1 Ge)
def HQ (Z:Zz K h mg):zP P w K mg base 1 "is_rising" 1 W8:=by
 obtain⟨f,fd,F,a⟩:=Z.T.HY;exact(jt F (aW Z.X Z.G a) Hu (λ_ _ _ _ _ _=>yM λ_=>rfl) λc A outer s H E r=>zx (qo (JC rfl Z.B.JP (j0 (qQ (N:=["one","other"]) 2 [] (KY rfl Z.B.Wb (zh 0) (QX (zh 0) (QU zu) Q3)) (λ_ _ _=>⟨wL 0 1 rfl (qC (by kernel_rfl)),qJ,qH (gX JW (zh 0) (zh 1))⟩))))) (zH):zP P w K mg base 1 "is_rising" 1 VG)
def EH (Z:Zz K h mg):zP P w K mg base 1 "is_even" 1 VV:=by
 obtain⟨f,fd,F,a⟩:=Z.T.Dk;exact(jt F (aW Z.X Z.G a) VR (λ_ _ _ _ _ _=>yM λ_=>rfl) λc A outer s H E r=>zx (yW PassesOwn.never rfl (Yn rfl Z.B.Yi (zh 0)) (wL 1 2 rfl VR.nd) (zx (yW PassesOwn.never rfl (Yn rfl Z.B.Yi (zh 2)) (wL 3 4 rfl VR.nd) (zx (jq (Qc (YG (jw (kN r) (gX (kz r) (zh 4) zu) (gX (kz r) (zh 1) (zh 3))) (YB (jw (kN r) (qM (qM (zh 0) (zh 3)) (zh 1)) (zh 4))))) (zx (qo yF) zH) zH) zH)) zH)) (zx (qo yF) zH):zP P w K mg base 1 "is_even" 1 Oa).iso
def M8 (Z:Zz K h mg):zP P w K mg base 1 "leaves_no_kind_out" 1 X7:=by
 obtain⟨f,fd,F,a⟩:=Z.T.M7;exact(jt F (aW Z.X Z.G a) T6 (λ_ _ _ _ _ _=>yM λ_=>rfl) λc A outer s H E r=>zx (qt 1 T6.nd (yn (qQ (N:=["row","kind"]) 2 [] (jK (zh 0)) (λ_ _ _=>⟨qm 0 (qC (by kernel_rfl)),qJ,Ur (λ_ _ z=>z) rfl rfl (by intro _ h;cases h<;>rfl) (jK (zh 0)) (qm 1 (qC (by kernel_rfl))) qJ (qH (zh 1))⟩)))) (zx (qo (JC rfl Z.B.JP (j0 (qQ (N:=["kind","standing"]) 1 [1] (jG rfl Z.B.jn (QR rfl Z.B.Qs (yb (zh 1)))) (λ_ _ _=>⟨qm 0 (qC (by kernel_rfl)),qJ,qH (fB Mh (zh 0) (zh 1))⟩))))) zH):zP P w K mg base 1 "leaves_no_kind_out" 1 Sa).iso
def Kj (Z:Zz K h mg):zP P w K mg base 1 "count_kinds" 1 ZH:=by
 obtain⟨f,fd,F,a⟩:=Z.T.IF;exact(jt F (aW Z.X Z.G a) Ij (λ_ _ _ _ _ _=>yM λ_=>rfl) λc A outer s H E r=>zx (qo (jH (QR rfl Z.B.Qs (j0 (qQ (N:=["row"]) 1 [] (jK (zh 0)) (λ_ _ _=>⟨qm 0 (qC (by kernel_rfl)),qJ,qH (QR rfl Z.B.Qs (yb (zh 0)))⟩)))) zu)) (zH):zP P w K mg base 1 "count_kinds" 1 Ra).iso
def Rt (Z:Zz K h mg):zP P w K mg base 1 "first_pairs" 1 Ye:=by
 obtain⟨f,fd,F,a⟩:=Z.T.Iq;exact(jt F (aW Z.X Z.G a) WR (λ_ _ _ _ _ _=>yM λ_=>rfl) λc A outer s H E r=>zx (qt 1 WR.nd UC) (zx (yW PassesOwn.never rfl (Yn rfl Z.B.Yi (zh 0)) (wL 2 3 rfl WR.nd) (zx (yW PassesOwn.never rfl (Yn rfl Z.B.Yi (zh 3)) (wL 4 5 rfl WR.nd) (zx (Zh (FI (zh 1) (zh 5) (z0 (zj (zh 2) (zj (zh 4) zy)) (zm (zm zF))))) zH)) zH)) (zx (qo (zh 1)) zH)):zP P w K mg base 1 "first_pairs" 1 Vp).iso
def Iv (Z:Zz K h mg):zP P w K mg base 1 "multiply_at" 3 WW:=by
 obtain⟨f,fd,F,a⟩:=Z.T.IP;exact(jt F (aW Z.X Z.G a) LW (λ_ _ _ _ _ _=>Z7 λ_ _ _=>rfl) λc A outer s H E r=>zx (qo (Um rfl Z.B.Xi (j0 (qQ (N:=["first","row","second","many","other"]) 4 [2] (KY rfl Z.B.Wb (zh 1) (zh 0)) (λ_ _ _=>⟨wL 0 1 rfl (qC (by kernel_rfl)),qJ,Ur (λ_ _ z=>z) rfl rfl (by intro _ h;cases h<;>rfl) (KY rfl Z.B.Wb (zh 4) (zh 1)) (wL 2 3 rfl (qC (by kernel_rfl))) qJ (qH (kK (kK (zh 0) (zh 2)) (zh 3)))⟩))))) (zH):zP P w K mg base 1 "multiply_at" 3 Rb).iso
def Ip (Z:Zz K h mg):zP P w K mg base 1 "small_mixes" 1 Vr:=by
 obtain⟨f,fd,F,a⟩:=Z.T.II;exact(jt F (aW Z.X Z.G a) WT (λ_ _ _ _ _ _=>yM λ_=>rfl) λc A outer s H E r=>zx (qt 1 WT.nd (ja (zj (z0 zy zF) zy) (zm zF))) (zx (yW PassesOwn.never rfl (jG rfl Z.B.jn (zh 0)) (qm 2 WT.nd) (zx (Yg 1 (N:=["mix","part"]) 2 [] WT.nd rfl (cps (by kernel_rfl)) (by kernel_rfl) (jK (zh 1)) (λ_ _ _=>⟨qm 0 (qC (by kernel_rfl)),qJ,Ur (λ_ _ z=>z) rfl rfl (by intro _ h;cases h<;>rfl) (Ua rfl Z.B.jn (QT (Gx rfl Z.B.O5.choose_spec)) (jH (Gx rfl Z.B.O5.choose_spec) zu)) (qm 1 (qC (by kernel_rfl))) qJ (qH (jH (zh 0) (z0 (zj (zh 1) zy) (zm zF))))⟩)) zH)) (zx (qo (zh 1)) zH)):zP P w K mg base 1 "small_mixes" 1 RA).iso
def LX (Z:Zz K h mg):zP P w K mg base 1 "_law_cell_at" 2 WO:=by
 obtain⟨f,fd,F,a⟩:=Z.T.L6;exact(jt F (aW Z.X Z.G a) LP (λ_ _ _ _ _ _=>g9 λ_ _=>rfl) λc A outer s H E r=>zx (jq (jw JW (zh 1) (kL Z.B.kO (yb (zh 0)))) (zx (qo (qM (zh 0) (zh 1))) zH) zH) (zx (qo zu) zH):zP P w K mg base 1 "_law_cell_at" 2 SN)
def wZ (Z:Zz K h mg):zP P w K mg base 1 "_law_take" 2 yN:=by
 obtain⟨f,fd,F,a⟩:=Z.T.Fc;exact(jt F (aW Z.X Z.G a) W4 (λ_ _ _ _ _ _=>g9 λ_ _=>rfl) λc A outer s H E r=>zx (jq (gz (qM (zh 0) zu)) (zx (qt 2 W4.nd (JA (qM (zh 0) zu) (zh 1))) (zx (OW (QQ (qM (zh 0) zu) (zh 1)) (zh 0) zu) (zx (qo (zh 2)) zH))) zH) (zx (OW (JA (jH (kK (qM (zh 0) zu) zu) zu) zu) (zh 0) zu) (zx (qt 3 W4.nd (JA (jH (jH (kK (qM (zh 0) zu) (qM (zh 0) zu)) (kK zu (qM (zh 0) zu))) zu) zu)) (zx (qt 3 W4.nd (JA (jH (kK (zh 3) (zh 3)) (kK zu (zh 3))) zu)) (zx (qo (JA (QQ (zh 3) zu) (zh 1))) zH)))):zP P w K mg base 1 "_law_take" 2 Ko).Z0
def Hf (Z:Zz K h mg):zP P w K mg base 1 "_law_named" 1 W2:=by
 obtain⟨f,fd,F,a⟩:=Z.T.Hk;exact(jt F (aW Z.X Z.G a) Ru (λ_ _ _ _ _ _=>yM λ_=>rfl) λc A outer s H E r=>zx (qt 1 Ru.nd (HU rfl Z.B.Om Z.B.N9 (Bf rfl Z.B.Xi (yn (qQ (N:=["_law_row"]) 1 [] (jK (zh 0)) (λ_ _ _=>⟨qm 0 (qC (by kernel_rfl)),qJ,qH (Gs Z.B.Qk (yb (zh 0)))⟩))) (ja zy zF)))) (zx (qo (w6 Z.B.yO (j0 (qQ (N:=["_law_row","_law_some"]) 1 [1] (jK (zh 0)) (λ_ _ _=>⟨qm 0 (qC (by kernel_rfl)),qJ,qH (w6 Z.B.yO (j0 (qQ (N:=["_law_kind","_law_some"]) 1 [1] (jK (zh 0)) (λ_ _ _=>⟨qm 0 (qC (by kernel_rfl)),qJ,qH (Dc r (zh 1) (zh 0))⟩))))⟩))))) zH):zP P w K mg base 1 "_law_named" 1 Vy)
def Kl (Z:Zz K h mg):zP P w K mg base 1 "_law_kinds" 1 kT:=by
 obtain⟨f,fd,F,a⟩:=Z.T.Ho;exact(jt F (aW Z.X Z.G a) IE (λ_ _ _ _ _ _=>yM λ_=>rfl) λc A outer s H E r=>zx (qo (jH zu (QR rfl Z.B.Qs (j0 (qQ (N:=["_law_row"]) 1 [] (jK (zh 0)) (λ_ _ _=>⟨qm 0 (qC (by kernel_rfl)),qJ,qH (QR rfl Z.B.Qs (yb (zh 0)))⟩)))))) (zH):zP P w K mg base 1 "_law_kinds" 1 RJ).iso
def HE (Z:Zz K h mg):zP P w K mg base 1 "_law_whole" 1 Km:=by
 obtain⟨f,fd,F,a⟩:=Z.T.Hn;exact(jt F (aW Z.X Z.G a) IH (λ_ _ _ _ _ _=>yM λ_=>rfl) λc A outer s H E r=>zx (qo (Qd (gf .int Z.B.jS Z.B.JT (by rfl) (zh 0)) (QV (OY (gf .bl Z.B.jS Z.B.G7 (by rfl) (zh 0)))))) (zH):zP P w K mg base 1 "_law_whole" 1 VC)
def Fi (Z:Zz K h mg):zP P w K mg base 1 "_law_sums" 2 Yj:=by
 obtain⟨f,fd,F,a⟩:=Z.T.Fp;exact(jt F (aW Z.X Z.G a) Jq (λ_ _ _ _ _ _=>g9 λ_ _=>rfl) λc A outer s H E r=>zx (qt 2 Jq.nd (ja zy zF)) (zx (yW PassesOwn.never rfl (jK (zh 0)) (qm 3 Jq.nd) (zx (qt 4 Jq.nd zu) (zx (yW PassesOwn.never rfl (jG rfl Z.B.jn (kL Z.B.kO (yb (zh 1)))) (qm 5 Jq.nd) (zx (qt 6 Jq.nd (qM (zh 3) (zh 5))) (zx (qt 4 Jq.nd (jH (zh 4) (kK (qM (zh 1) (zh 5)) (Um rfl Z.B.Xi (j0 (qQ (N:=["_law_j","_law_mix","_law_row"]) 1 [1,6] (jG rfl Z.B.jn (kL Z.B.kO (yb (zh 1)))) (λ_ _ _=>⟨qm 0 (qC (by kernel_rfl)),qJ,qH (kK (qM (zh 1) (zh 0)) (qM (zh 2) (zh 0)))⟩))))))) zH))) (zx (Zh (Yk (zh 2) (zh 4))) zH)))) (zx (qo (zh 2)) zH)):zP P w K mg base 1 "_law_sums" 2 VD)
def HW (Z:Zz K h mg):zP P w K mg base 2 "is_wholes" 2 Yh:=by
 obtain⟨f,fd,F,a⟩:=Z.T.HP;exact(jt F (aW Z.X Z.G a) IT (λ_ _ _ _ _ _=>g9 λ_ _=>rfl) λc A outer s H E r=>zx (qo (Qd (gf .tup Z.B.jS Z.B.yO (by rfl) (zh 0)) (Qd (gX (kz r) (kL Z.B.kO (yb (zh 0))) (zh 1)) (QV (JC rfl Z.B.JP (j0 (qQ (N:=["part"]) 1 [] (jK (zh 0)) (λ_ _ _=>⟨qm 0 (qC (by kernel_rfl)),qJ,qH (qu (Pe Z).up r (zj (zh 0) zy))⟩)))))))) (zH):zP P w K mg base 2 "is_wholes" 2 W7)
def Lh (Z:Zz K h mg):zP P w K mg base 2 "is_whole_between" 3 Ka:=by
 obtain⟨f,fd,F,a⟩:=Z.T.Lq;exact(jt F (aW Z.X Z.G a) Ld (λ_ _ _ _ _ _=>Z7 λ_ _ _=>rfl) λc A outer s H E r=>zx (qo (Qd (qu (Pe Z).up r (zj (zh 0) zy)) (QV (NO Ji Ji (zh 1) (zh 0) (zh 2))))) (zH):zP P w K mg base 2 "is_whole_between" 3 Si).iso
def Vi (Z:Zz K h mg):zP P w K mg base 2 "count_shares" 3 ZG:=by
 obtain⟨f,fd,F,a⟩:=Z.T.L5;exact(jt F (aW Z.X Z.G a) WM (λ_ _ _ _ _ _=>Z7 λ_ _ _=>rfl) λc A outer s H E r=>zx (qt 3 WM.nd (qu (Kj Z).up r (zj (zh 0) zy))) (zx (Yg 4 (N:=["kind","many"]) 1 [3] WM.nd rfl (cps (by kernel_rfl)) (by kernel_rfl) (jG rfl Z.B.jn (zh 3)) (λ_ _ _=>⟨qm 0 (qC (by kernel_rfl)),qJ,qH (kK (ja (zj zu zy) (zm zF)) (zh 1))⟩)) (zx (yW PassesOwn.never rfl (KY rfl Z.B.Wb (qM (zh 0) (zh 1)) (qM (zh 0) (zh 2))) (wL 5 6 rfl WM.nd) (zx (Oi (qM (zh 4) (zh 5)) (zh 6) zu) zH)) (zx (qo (w6 Z.B.yO (j0 (qQ (N:=["row"]) 1 [] (jK (zh 4)) (λ_ _ _=>⟨qm 0 (qC (by kernel_rfl)),qJ,qH (w6 Z.B.yO (yb (zh 0)))⟩))))) zH))):zP P w K mg base 2 "count_shares" 3 SK).iso
def FJ (Z:Zz K h mg):zP P w K mg base 2 "multiply" 3 Kq:=by
 obtain⟨f,fd,F,a⟩:=Z.T.FO;exact(jt F (aW Z.X Z.G a) HR (λ_ _ _ _ _ _=>Z7 λ_ _ _=>rfl) λc A outer s H E r=>zx (qo (w6 Z.B.yO (j0 (qQ (N:=["by_kind","one","other"]) 1 [1,2] (jK (zh 0)) (λ_ _ _=>⟨qm 0 (qC (by kernel_rfl)),qJ,qH (qu (Iv Z).up r (zj (zh 0) (zj (zh 1) (zj (zh 2) zy))))⟩))))) (zH):zP P w K mg base 2 "multiply" 3 VQ)
def HB (Z:Zz K h mg):zP P w K mg base 2 "_law_state" 2 Yf:=by
 obtain⟨f,fd,F,a⟩:=Z.T.IV;exact(jt F (aW Z.X Z.G a) Ry (λ_ _ _ _ _ _=>g9 λ_ _=>rfl) λc A outer s H E r=>zx (qt 2 Ry.nd (qu (LX Z).up r (zj (zh 0) (zj (zh 1) zy)))) (zx (jq (jw eJ (zh 2) (Ul zu zu)) (zx (qo (ja (zj (Qf (zh 2) (Ul zu zu)) (zj yF zy)) (zm (zm zF)))) zH) zH) (zx (qo (ja (zj (JA (zh 2) zu) (zj yF zy)) (zm (zm zF)))) zH)):zP P w K mg base 2 "_law_state" 2 RS)
def Sy (Z:Zz K h mg):zP P w K mg base 2 "_law_mixed_row" 2 Yb:=by
 obtain⟨f,fd,F,a⟩:=Z.T.LK;exact(jt F (aW Z.X Z.G a) Va (λ_ _ _ _ _ _=>g9 λ_ _=>rfl) λc A outer s H E r=>zx (qt 2 Va.nd (Gs Z.B.Qk (yb (zh 1)))) (zx (qt 3 Va.nd (ja zy zF)) (zx (Ec 1000 PassesOwn.never (jw (kN r) (zh 2) (ja zy zF)) (zx (Zh (Yk (zh 3) (EV (zh 2) (qu (wZ Z).up r (zj (zh 0) (zj (kL Z.B.kO (yb (zh 2))) zy)))))) zH)) (zx (qo (zh 3)) zH))):zP P w K mg base 2 "_law_mixed_row" 2 Vd)
def Ha (Z:Zz K h mg):zP P w K mg base 2 "_law_plain" 1 W3:=by
 obtain⟨f,fd,F,a⟩:=Z.T.Hd;exact(jt F (aW Z.X Z.G a) wY (λ_ _ _ _ _ _=>yM λ_=>rfl) λc A outer s H E r=>zx (qt 1 wY.nd (qu (wZ Z).up r (zj (zh 0) (zj zu zy)))) (zx (qt 2 wY.nd (qM (ja (zj zu (zj zu (zj zu (zj zu (zj zu (zj zu (zj zu (zj zu zy)))))))) (zm (zm (zm (zm (zm (zm (zm (zm zF))))))))) (qu (wZ Z).up r (zj (zh 0) (zj zu zy))))) (zx (jq (jw (kz r) (zh 1) zu) (zx (qo (yn (qQ (N:=["_law_a","_law_many"]) 1 [2] (jG rfl Z.B.jn (zh 2)) (λ_ _ _=>⟨qm 0 (qC (by kernel_rfl)),qJ,qH (yn (qQ (N:=["_law_b","_law_a","_law_many"]) 1 [0,1] (jG rfl Z.B.jn (zh 1)) (λ_ _ _=>⟨qm 0 (qC (by kernel_rfl)),qJ,qH (ON rfl Z.B.Xm (Uk Z.B.Ta (Qf (zh 1) (zh 0))) (Qf (zh 2) (Uk Z.B.Ta (Qf (zh 1) (zh 0)))))⟩)))⟩)))) zH) zH) (zx (jq (jw (kz r) (zh 1) zu) (zx (qt 2 wY.nd (qM (ja (zj zu (zj zu (zj zu zy))) (zm (zm (zm zF)))) (qu (wZ Z).up r (zj (zh 0) (zj zu zy))))) (zx (qo (yn (qQ (N:=["_law_a","_law_many"]) 1 [2] (jG rfl Z.B.jn (zh 2)) (λ_ _ _=>⟨qm 0 (qC (by kernel_rfl)),qJ,qH (yn (qQ (N:=["_law_b","_law_a"]) 1 [0] (jG rfl Z.B.jn (zh 1)) (λ_ _ _=>⟨qm 0 (qC (by kernel_rfl)),qJ,qH (qM (ja (zj zu (zj zu (zj zu (zj zu (zj zu (zj zu (zj zu (zj zu zy)))))))) (zm (zm (zm (zm (zm (zm (zm (zm zF))))))))) (GU (zh 1) (zh 0)))⟩)))⟩)))) zH)) zH) (zx (jq (jw (kz r) (zh 1) zu) (zx (qo (yn (qQ (N:=["_law_a","_law_many"]) 1 [2] (jG rfl Z.B.jn (zh 2)) (λ_ _ _=>⟨qm 0 (qC (by kernel_rfl)),qJ,qH (yn (qQ (N:=["_law_b","_law_a"]) 1 [0] (jG rfl Z.B.jn (zh 1)) (λ_ _ _=>⟨qm 0 (qC (by kernel_rfl)),qJ,qH (Kz Z.B.JT (gX (kN r) (zh 1) (zh 0)))⟩)))⟩)))) zH) zH) (zx (jq (jw (kz r) (zh 1) zu) (zx (UE (qM (ja (zj (z0 (zj zu (zj zu zy)) (zm (zm zF))) (zj (z0 (zj zu (zj zu zy)) (zm (zm zF))) (zj (z0 (zj zu (zj zu zy)) (zm (zm zF))) (zj (z0 (zj zu (zj zu zy)) (zm (zm zF))) (zj (z0 (zj zu (zj zu zy)) (zm (zm zF))) zy))))) (zm (zm (zm (zm (zm zF)))))) (qu (wZ Z).up r (zj (zh 0) (zj zu zy)))) (wL 3 4 rfl wY.nd)) (zx (qt 2 wY.nd (kK (zh 3) (zh 4))) (zx (qo (yn (qQ (N:=["_law_a","_law_many","_law_wide"]) 1 [2,3] (jG rfl Z.B.jn (zh 2)) (λ_ _ _=>⟨qm 0 (qC (by kernel_rfl)),qJ,qH (yn (qQ (N:=["_law_b","_law_a","_law_wide"]) 1 [0,2] (jG rfl Z.B.jn (zh 1)) (λ_ _ _=>⟨qm 0 (qC (by kernel_rfl)),qJ,qH (jH (Kz Z.B.JT (gX (kN r) (zh 1) (zh 0))) (Kz Z.B.JT (gX (kN r) (QQ (zh 1) (zh 2)) (QQ (zh 0) (zh 2)))))⟩)))⟩)))) zH))) zH) (zx (jq (jw (kz r) (zh 1) zu) (zx (qt 5 wY.nd (ja (zj (z0 (zj zu (zj zu zy)) (zm (zm zF))) (zj (z0 (zj zu (zj zu zy)) (zm (zm zF))) (zj (z0 (zj zu (zj zu zy)) (zm (zm zF))) (zj (z0 (zj zu (zj zu zy)) (zm (zm zF))) (zj (z0 (zj zu (zj zu zy)) (zm (zm zF))) (zj (z0 (zj zu (zj zu zy)) (zm (zm zF))) zy)))))) (zm (zm (zm (zm (zm (zm zF)))))))) (zx (qo (yn (qQ (N:=["_law_a","_law_some"]) 1 [5] (jK (zh 5)) (λ_ _ _=>⟨qm 0 (qC (by kernel_rfl)),qJ,qH (yn (qQ (N:=["_law_b","_law_a"]) 1 [0] (jK (zh 1)) (λ_ _ _=>⟨qm 0 (qC (by kernel_rfl)),qJ,qH (Qf zu (kL Z.B.kO (j0 (qQ (N:=["_law_one","_law_b"]) 1 [0] (jK (zh 1)) (λ_ _ _=>⟨qm 0 (qC (by kernel_rfl)),KI (Nt Mh (zh 0) (zh 1)),qH (zh 0)⟩)))))⟩)))⟩)))) zH)) zH) (zx (jq (jw (kz r) (zh 1) zu) (zx (qt 2 wY.nd (qM (ja (zj zu (zj zu (zj zu zy))) (zm (zm (zm zF)))) (qu (wZ Z).up r (zj (zh 0) (zj zu zy))))) (zx (qo (yn (qQ (N:=["_law_a","_law_many"]) 1 [2] (jG rfl Z.B.jn (zh 2)) (λ_ _ _=>⟨qm 0 (qC (by kernel_rfl)),qJ,qH (yn (qQ (N:=["_law_b","_law_a"]) 1 [0] (jG rfl Z.B.jn (zh 1)) (λ_ _ _=>⟨qm 0 (qC (by kernel_rfl)),qJ,qH (GU (zh 1) (zh 0))⟩)))⟩)))) zH)) zH) (zx (qt 3 wY.nd (qM (ja (zj zu (zj zu (zj zu zy))) (zm (zm (zm zF)))) (qu (wZ Z).up r (zj (zh 0) (zj zu zy))))) (zx (qt 6 wY.nd (ja (zj zu (zj zu (zj (qM (ja (zj zu (zj zu zy)) (zm (zm zF))) (Kz Z.B.JT (gX (kz r) (zh 3) zu))) (zj zu zy)))) (zm (zm (zm (zm zF)))))) (zx (qt 7 wY.nd (ja zy zF)) (zx (yW PassesOwn.never rfl (jG rfl Z.B.jn (kK zu (zh 3))) (qm 8 wY.nd) (zx (qt 9 wY.nd (yn (qQ (N:=["_law_b","_law_wide","_law_ring","_law_a"]) 1 [3,6,8] (jG rfl Z.B.jn (kK zu (zh 3))) (λ_ _ _=>⟨qm 0 (qC (by kernel_rfl)),qJ,qH (qM (zh 2) (JA (Uk Z.B.Ta (Qf (zh 3) (zh 0))) (zh 1)))⟩)))) (zx (qt 10 wY.nd (yn (qQ (N:=["_law_b","_law_wide","_law_a"]) 1 [3,8] (jG rfl Z.B.jn (kK zu (zh 3))) (λ_ _ _=>⟨qm 0 (qC (by kernel_rfl)),qJ,qH (Kz Z.B.JT (gX (kN r) (QQ (zh 2) (zh 1)) (QQ (zh 0) (zh 1))))⟩)))) (zx (jq (jw (kz r) (zh 1) zu) (zx (Zh (Yk (zh 7) (yn (qQ (N:=["_law_b","_law_near","_law_far"]) 1 [9,10] (jG rfl Z.B.jn (kK zu (zh 3))) (λ_ _ _=>⟨qm 0 (qC (by kernel_rfl)),qJ,qH (jH (kK zu (qM (zh 2) (zh 0))) (qM (zh 1) (zh 0)))⟩))))) zH) (zx (Zh (Yk (zh 7) (yn (qQ (N:=["_law_b","_law_near","_law_far"]) 1 [9,10] (jG rfl Z.B.jn (kK zu (zh 3))) (λ_ _ _=>⟨qm 0 (qC (by kernel_rfl)),qJ,qH (fC (jw (kz r) (qM (zh 2) (zh 0)) zu) zu (qM (zh 1) (zh 0)))⟩))))) zH)) zH)))) (zx (qo (zh 7)) zH)))))))))))):zP P w K mg base 2 "_law_plain" 1 VA)
def Iu (Z:Zz K h mg):zP P w K mg base 2 "_law_shares" 3 Kh:=by
 obtain⟨f,fd,F,a⟩:=Z.T.IQ;exact(jt F (aW Z.X Z.G a) WU (λ_ _ _ _ _ _=>Z7 λ_ _ _=>rfl) λc A outer s H E r=>zx (qt 3 WU.nd (qu (Kl Z).up r (zj (zh 0) zy))) (zx (Yg 4 (N:=["_law_kind","_law_many"]) 1 [3] WU.nd rfl (cps (by kernel_rfl)) (by kernel_rfl) (jG rfl Z.B.jn (zh 3)) (λ_ _ _=>⟨qm 0 (qC (by kernel_rfl)),qJ,qH (kK (ja (zj zu zy) (zm zF)) (zh 1))⟩)) (zx (yW PassesOwn.never rfl (jG rfl Z.B.jn (kL Z.B.kO (yb (zh 0)))) (qm 5 WU.nd) (zx (Oi (qM (zh 4) (qM (qM (zh 0) (zh 1)) (zh 5))) (qM (qM (zh 0) (zh 2)) (zh 5)) zu) zH)) (zx (qo (w6 Z.B.yO (j0 (qQ (N:=["_law_row"]) 1 [] (jK (zh 4)) (λ_ _ _=>⟨qm 0 (qC (by kernel_rfl)),qJ,qH (w6 Z.B.yO (yb (zh 0)))⟩))))) zH))):zP P w K mg base 2 "_law_shares" 3 Rp).iso
def HJ (Z:Zz K h mg):zP P w K mg base 2 "_law_told" 2 Jr:=by
 obtain⟨f,fd,F,a⟩:=Z.T.HX;exact(jt F (aW Z.X Z.G a) Hy (λ_ _ _ _ _ _=>g9 λ_ _=>rfl) λc A outer s H E r=>zx (qo (w6 Z.B.yO (j0 (qQ (N:=["_law_kind","_law_state_here"]) 1 [0] (Ua rfl Z.B.jn zu (qu (Kl Z).up r (zj (zh 1) zy))) (λ_ _ _=>⟨qm 0 (qC (by kernel_rfl)),KI (jw (kz r) (qu (wZ Z).up r (zj (zh 1) (zj zu zy))) zu),qH (zh 0)⟩))))) (zH):zP P w K mg base 2 "_law_told" 2 VH)
def Lk (Z:Zz K h mg):zP P w K mg base 2 "_law_bent_rising" 3 Jn:=by
 obtain⟨f,fd,F,a⟩:=Z.T.Lr;exact(jt F (aW Z.X Z.G a) WE (λ_ _ _ _ _ _=>Z7 λ_ _ _=>rfl) λc A outer s H E r=>zx (qt 3 WE.nd (qu (wZ Z).up r (zj (zh 0) (zj (jH (kL Z.B.kO (yb (zh 2))) zu) zy)))) (zx (qt 4 WE.nd (qM (ja (zj (qu (wZ Z).up r (zj (zh 0) (zj (jH (zh 1) zu) zy))) (zj (zh 1) (zj zu (zj (QT zu) (zj yF (zj wu (zj JD (zj (z0 (zj zu zy) (zm zF)) (zj yF (zj (Ul zu zu) zy)))))))))) (zm (zm (zm (zm (zm (zm (zm (zm (zm (zm zF))))))))))) (qu (wZ Z).up r (zj (zh 0) (zj zu zy))))) (zx (qt 5 WE.nd (ja (zj (jH (jH (QX (zh 2) Q3 (QU (zh 3))) (z0 (zj (zh 4) zy) (zm zF))) (QX (zh 2) (QU (zh 3)) Q3)) (zj (jH (jH (QX (zh 2) Q3 (QU (zh 3))) (z0 (zj (zh 4) zy) (zm zF))) (QX (zh 2) (QU (jH (zh 3) zu)) Q3)) (zj (jH (QX (zh 2) Q3 (QU (zh 3))) (QX (zh 2) (QU (jH (zh 3) zu)) Q3)) (zj (Gs Z.B.Qk (yb (zh 2))) zy)))) (zm (zm (zm (zm zF)))))) (zx (qo (qM (jH (zh 5) (ja (zj (Cd (zh 2) (QT zu)) (zj (jH (zh 2) (QX (zh 2) (QU (QT zu)) Q3)) (zj wu (zj UC (zj zu (zj (z0 (zj (zh 2) zy) (zm zF)) (zj (z0 zy zF) zy))))))) (zm (zm (zm (zm (zm (zm (zm zF))))))))) (qu (wZ Z).up r (zj (zh 0) (zj zu zy))))) zH))):zP P w K mg base 2 "_law_bent_rising" 3 X9)
def Io (Z:Zz K h mg):zP P w K mg base 2 "_law_rising" 3 gL:=by
 obtain⟨f,fd,F,a⟩:=Z.T.ID;exact(jt F (aW Z.X Z.G a) LZ (λ_ _ _ _ _ _=>Z7 λ_ _ _=>rfl) λc A outer s H E r=>zx (jq (Qc (YG (gN (gz (gf .tup Z.B.jS Z.B.yO (by rfl) (zh 0)))) (YB (jw (kN r) (yn (qQ (N:=["_law_one"]) 1 [] (jK (zh 0)) (λ_ _ _=>⟨qm 0 (qC (by kernel_rfl)),KI (gN (gz (qu (HE Z).up r (zj (zh 0) zy)))),qH (zh 0)⟩))) (ja zy zF))))) (zx (qo yF) zH) zH) (zx (jq (jw (kN r) (yn (qQ (N:=["_law_one","_law_low","_law_high"]) 1 [1,2] (jK (zh 0)) (λ_ _ _=>⟨qm 0 (qC (by kernel_rfl)),KI (gN (NP Ji Ji (zh 1) (zh 0) (zh 2))),qH (zh 0)⟩))) (ja zy zF)) (zx (qo yF) zH) zH) (zx (qo (gX (kz r) (Gs Z.B.Qk (yb (zh 0))) (He rfl Z.B.Om Z.B.N9 (zh 0)))) zH)):zP P w K mg base 2 "_law_rising" 3 WY)
def LQ (Z:Zz K h mg):zP P w K mg base 2 "_law_unsteady" 1 Jp:=by
 obtain⟨f,fd,F,a⟩:=Z.T.LR;exact(jt F (aW Z.X Z.G a) Sw (λ_ _ _ _ _ _=>yM λ_=>rfl) λc A outer s H E r=>zx (qt 1 Sw.nd (ja (zj (z0 (zj (z0 (zj zu (zj zu (zj zu zy))) (zm (zm (zm zF)))) (zj (z0 (zj zu (zj zu (zj zu zy))) (zm (zm (zm zF)))) (zj (z0 (zj zu (zj zu (zj zu zy))) (zm (zm (zm zF)))) zy))) (zm (zm (zm zF)))) (zj (z0 (zj (z0 (zj zu (zj zu (zj zu (zj zu zy)))) (zm (zm (zm (zm zF))))) (zj (z0 (zj zu (zj zu (zj zu (zj zu zy)))) (zm (zm (zm (zm zF))))) (zj (z0 (zj zu (zj zu (zj zu (zj zu zy)))) (zm (zm (zm (zm zF))))) (zj (z0 (zj zu (zj zu (zj zu (zj zu zy)))) (zm (zm (zm (zm zF))))) zy)))) (zm (zm (zm (zm zF))))) zy)) (zm (zm zF)))) (zx (Zh (Yk (zh 1) (z0 (zj (z0 (zj zu (zj zu (zj zu (zj zu zy)))) (zm (zm (zm (zm zF))))) (zj (z0 (zj zu (zj zu (zj zu (zj zu zy)))) (zm (zm (zm (zm zF))))) (zj (z0 (zj zu (zj zu (zj zu (zj zu zy)))) (zm (zm (zm (zm zF))))) (zj (z0 (zj zu (zj zu (zj zu (zj zu zy)))) (zm (zm (zm (zm zF))))) zy)))) (zm (zm (zm (zm zF))))))) (zx (qo (qM (zh 1) (qu (wZ Z).up r (zj (zh 0) (zj zu zy))))) zH)):zP P w K mg base 2 "_law_unsteady" 1 Vf)
def LJ (Z:Zz K h mg):zP P w K mg base 2 "_law_bad_table" 1 Jo:=by
 obtain⟨f,fd,F,a⟩:=Z.T.LI;exact(jt F (aW Z.X Z.G a) Kb (λ_ _ _ _ _ _=>yM λ_=>rfl) λc A outer s H E r=>zx (qt 1 Kb.nd (ja (zj wu (zj zu (zj (z0 zy zF) (zj (z0 (zj (z0 zy zF) zy) (zm zF)) (zj (z0 (zj (z0 (zj zu zy) (zm zF)) zy) (zm zF)) (zj (ja (zj (ja (zj zu zy) (zm zF)) zy) (zm zF)) (zj (z0 (zj (ja (zj zu zy) (zm zF)) zy) (zm zF)) (zj (z0 (zj (z0 (zj zu zy) (zm zF)) (zj (z0 (zj zu zy) (zm zF)) zy)) (zm (zm zF))) (zj (z0 (zj (z0 (zj zu (zj zu zy)) (zm (zm zF))) (zj (z0 (zj zu (zj zu zy)) (zm (zm zF))) zy)) (zm (zm zF))) (zj (z0 (zj (z0 (zj zu (zj zu zy)) (zm (zm zF))) (zj (z0 (zj zu (zj zu zy)) (zm (zm zF))) zy)) (zm (zm zF))) (zj UC zy))))))))))) (zm (zm (zm (zm (zm (zm (zm (zm (zm (zm (zm zF))))))))))))) (zx (qt 1 Kb.nd (jH (zh 1) (ja (zj (z0 (zj (z0 (zj zu (zj zu zy)) (zm (zm zF))) (zj (z0 (zj zu (zj zu zy)) (zm (zm zF))) zy)) (zm (zm zF))) (zj (z0 (zj (z0 (zj yF zy) (zm zF)) zy) (zm zF)) (zj (z0 (zj (z0 (zj zu (zj yF zy)) (zm (zm zF))) (zj (z0 (zj yF (zj zu zy)) (zm (zm zF))) zy)) (zm (zm zF))) (zj (z0 (zj (z0 (zj zu (zj (QT zu) zy)) (zm (zm zF))) (zj (z0 (zj (QT zu) (zj zu zy)) (zm (zm zF))) zy)) (zm (zm zF))) (zj (z0 (zj (z0 (zj zu (zj zu zy)) (zm (zm zF))) (zj (z0 (zj zu (zj zu zy)) (zm (zm zF))) (zj (z0 (zj zu (zj zu zy)) (zm (zm zF))) zy))) (zm (zm (zm zF)))) zy))))) (zm (zm (zm (zm (zm zF)))))))) (zx (qt 1 Kb.nd (jH (zh 1) (ja (zj (z0 (zj (z0 (zj zu (zj zu (zj zu zy))) (zm (zm (zm zF)))) (zj (z0 (zj zu (zj zu (zj zu zy))) (zm (zm (zm zF)))) (zj (z0 (zj zu (zj zu (zj zu zy))) (zm (zm (zm zF)))) zy))) (zm (zm (zm zF)))) (zj JD (zj (z0 (zj (z0 (zj zu (zj zu (zj zu zy))) (zm (zm (zm zF)))) (zj (z0 (zj zu (zj zu (zj zu zy))) (zm (zm (zm zF)))) (zj (z0 (zj zu (zj zu (zj zu zy))) (zm (zm (zm zF)))) zy))) (zm (zm (zm zF)))) (zj (z0 (zj (z0 (zj zu zy) (zm zF)) (zj (z0 zy zF) zy)) (zm (zm zF))) (zj (z0 (zj zu zy) (zm zF)) zy))))) (zm (zm (zm (zm (zm zF)))))))) (zx (qt 1 Kb.nd (jH (zh 1) (ja (zj (z0 (zj (z0 (zj wu zy) (zm zF)) zy) (zm zF)) (zj (z0 (zj (z0 (zj zu (zj zu zy)) (zm (zm zF))) (zj (z0 (zj zu (zj zu zy)) (zm (zm zF))) zy)) (zm (zm zF))) zy)) (zm (zm zF))))) (zx (qo (qM (zh 1) (qu (wZ Z).up r (zj (zh 0) (zj zu zy))))) zH)))):zP P w K mg base 2 "_law_bad_table" 1 Vc)
def Lx (Z:Zz K h mg):zP P w K mg base 3 "is_wholes_below" 3 QG:=by
 obtain⟨f,fd,F,a⟩:=Z.T.Lv;exact(jt F (aW Z.X Z.G a) Lp (λ_ _ _ _ _ _=>Z7 λ_ _ _=>rfl) λc A outer s H E r=>zx (qo (Qd (qu (HW Z).up r (zj (zh 0) (zj (zh 1) zy))) (QV (JC rfl Z.B.JP (j0 (qQ (N:=["part","limit"]) 1 [2] (jK (zh 0)) (λ_ _ _=>⟨qm 0 (qC (by kernel_rfl)),qJ,qH (NO Ji JW zu (zh 0) (zh 1))⟩))))))) (zH):zP P w K mg base 3 "is_wholes_below" 3 WI)
def Ln (Z:Zz K h mg):zP P w K mg base 3 "is_rising_wholes" 3 Zd:=by
 obtain⟨f,fd,F,a⟩:=Z.T.Li;exact(jt F (aW Z.X Z.G a) Lc (λ_ _ _ _ _ _=>Z7 λ_ _ _=>rfl) λc A outer s H E r=>zx (jq (gN (gz (gf .tup Z.B.jS Z.B.yO (by rfl) (zh 0)))) (zx (qo yF) zH) zH) (zx (qo (Qd (JC rfl Z.B.JP (j0 (qQ (N:=["part","least","greatest"]) 1 [1,2] (jK (zh 0)) (λ_ _ _=>⟨qm 0 (qC (by kernel_rfl)),qJ,qH (qu (Lh Z).up r (zj (zh 0) (zj (zh 1) (zj (zh 2) zy))))⟩)))) (QV (qu (HQ Z).up r (zj (zh 0) zy))))) zH):zP P w K mg base 3 "is_rising_wholes" 3 WH)
def IJ (Z:Zz K h mg):zP P w K mg base 3 "kind_shares" 1 Vq:=by
 obtain⟨f,fd,F,a⟩:=Z.T.IK;exact(jt F (aW Z.X Z.G a) Vo (λ_ _ _ _ _ _=>yM λ_=>rfl) λc A outer s H E r=>zx (qt 1 Vo.nd (qu (Rt Z).up r (zj (zh 0) zy))) (zx (Yg 2 (N:=["kind","firsts"]) 1 [1] Vo.nd rfl (cps (by kernel_rfl)) (by kernel_rfl) (jG rfl Z.B.jn (qu (Kj Z).up r (zj (zh 0) zy))) (λ_ _ _=>⟨qm 0 (qC (by kernel_rfl)),qJ,qH (EI r (zh 1) (zh 0))⟩)) (zx (qo (yn (qQ (N:=["a","b","table"]) 2 [0] (jK (zh 2)) (λ_ _ _=>⟨wL 0 1 rfl (qC (by kernel_rfl)),qJ,qH (qu (Vi Z).up r (zj (zh 2) (zj (zh 0) (zj (zh 1) zy))))⟩)))) zH)):zP P w K mg base 3 "kind_shares" 1 Rx).iso
def Ie (Z:Zz K h mg):zP P w K mg base 3 "search_break" 1 WQ:=by
 obtain⟨f,fd,F,a⟩:=Z.T.Ih;exact(jt F (aW Z.X Z.G a) Kd (λ_ _ _ _ _ _=>yM λ_=>rfl) λc A outer s H E r=>zx (yW PassesOwn.never rfl (Ew (qu (Rt Z).up r (zj (zh 0) zy))) (Dr 1 2 3 rfl Kd.nd) (zx (qt 4 Kd.nd (qu (Vi Z).up r (zj (zh 0) (zj (zh 2) (zj (zh 3) zy))))) (zx (yW PassesOwn.never rfl (Yn rfl Z.B.Yi (zh 0)) (wL 5 6 rfl Kd.nd) (zx (yW PassesOwn.never rfl (Yn rfl Z.B.Yi (zh 6)) (wL 7 8 rfl Kd.nd) (zx (jq (Qc (Uj (jw (kz r) (zh 8) (zh 1)) (V4 (jw (kN r) (qu (Vi Z).up r (zj (zh 0) (zj (zh 5) (zj (zh 7) zy)))) (zh 4))))) (zx (qo (z0 (zj (zh 2) (zj (zh 3) (zj (zh 5) (zj (zh 7) zy)))) (zm (zm (zm (zm zF)))))) zH) zH) zH)) zH)) zH))) (zx (qo wu) zH):zP P w K mg base 3 "search_break" 1 Vm).iso
def IA (Z:Zz K h mg):zP P w K mg base 3 "count_shown" 3 Ki:=by
 obtain⟨f,fd,F,a⟩:=Z.T.IM;exact(jt F (aW Z.X Z.G a) WS (λ_ _ _ _ _ _=>Z7 λ_ _ _=>rfl) λc A outer s H E r=>zx (qt 3 WS.nd (yn (qQ (N:=["mix","shares"]) 1 [0] (jK (zh 2)) (λ_ _ _=>⟨qm 0 (qC (by kernel_rfl)),qJ,qH (qu (FJ Z).up r (zj (zh 1) (zj (zh 0) (zj (zh 0) zy))))⟩)))) (zx (qt 4 WS.nd (yn (qQ (N:=["kind","squares"]) 1 [3] (jG rfl Z.B.jn (kL Z.B.kO (yb (zh 0)))) (λ_ _ _=>⟨qm 0 (qC (by kernel_rfl)),qJ,qH (Um rfl Z.B.Xi (j0 (qQ (N:=["numbers","kind"]) 1 [0] (jK (zh 1)) (λ_ _ _=>⟨qm 0 (qC (by kernel_rfl)),qJ,qH (qM (zh 0) (zh 1))⟩))))⟩)))) (zx (qt 5 WS.nd (DF rfl Z.B.Xm (j0 (qQ (N:=["kind","summed"]) 1 [4] (jK (zh 1)) (λ_ _ _=>⟨qm 0 (qC (by kernel_rfl)),qJ,qH (QT (qM (zh 1) (zh 0)))⟩))))) (zx (jq (jw Ji (zh 5) zu) (zx (qo wu) zH) zH) (zx (qo (jH (QQ (qM (zh 4) zu) (zh 5)) zu)) zH)))):zP P w K mg base 3 "count_shown" 3 Vw)
def HA (Z:Zz K h mg):zP P w K mg base 3 "_law_known" 1 Kk:=by
 obtain⟨f,fd,F,a⟩:=Z.T.Hw;exact(jt F (aW Z.X Z.G a) WX (λ_ _ _ _ _ _=>yM λ_=>rfl) λc A outer s H E r=>zx (qt 1 WX.nd (qu (Hf Z).up r (zj (qu (Ha Z).up r (zj (zh 0) zy)) zy))) (zx (qt 2 WX.nd (qu (Sy Z).up r (zj (zh 0) (zj (FK rfl Z.B.Qk Z.B.jn (kL Z.B.kO (yb (zh 1)))) zy)))) (zx (qt 3 WX.nd (jH (ja (zj zu zy) (zm zF)) (qu (Sy Z).up r (zj (zh 0) (zj (FA rfl Z.B.Qk Z.B.jn zu (jH zu (QR rfl Z.B.Qs (j0 (qQ (N:=["_law_row"]) 1 [] (jK (zh 1)) (λ_ _ _=>⟨qm 0 (qC (by kernel_rfl)),qJ,qH (QR rfl Z.B.Qs (yb (zh 0)))⟩)))))) zy))))) (zx (qo (w6 Z.B.yO (j0 (qQ (N:=["_law_a","_law_rows","_law_order","_law_kinds_here"]) 1 [1,2,3] (jK (zh 2)) (λ_ _ _=>⟨qm 0 (qC (by kernel_rfl)),qJ,qH (w6 Z.B.yO (j0 (qQ (N:=["_law_b","_law_a","_law_rows","_law_kinds_here"]) 1 [0,1,3] (jK (zh 2)) (λ_ _ _=>⟨qm 0 (qC (by kernel_rfl)),qJ,qH (qM (zh 3) (qM (qM (zh 2) (zh 1)) (zh 0)))⟩))))⟩))))) zH))):zP P w K mg base 3 "_law_known" 1 WZ).Z0
def Ii (Z:Zz K h mg):zP P w K mg base 3 "_law_by_kind" 1 Kf:=by
 obtain⟨f,fd,F,a⟩:=Z.T.Ib;exact(jt F (aW Z.X Z.G a) Ke (λ_ _ _ _ _ _=>yM λ_=>rfl) λc A outer s H E r=>zx (Yg 1 (N:=["_law_kind"]) 1 [] Ke.nd rfl (cps (by kernel_rfl)) (by kernel_rfl) (jG rfl Z.B.jn (qu (Kl Z).up r (zj (zh 0) zy))) (λ_ _ _=>⟨qm 0 (qC (by kernel_rfl)),qJ,qH (ja zy zF)⟩)) (zx (yW PassesOwn.never rfl (jG rfl Z.B.jn (kL Z.B.kO (yb (zh 0)))) (qm 2 Ke.nd) (zx (yW PassesOwn.never rfl (jG rfl Z.B.jn (kL Z.B.kO (yb (zh 0)))) (qm 3 Ke.nd) (zx (qt 4 Ke.nd (qu (Iu Z).up r (zj (zh 0) (zj (zh 2) (zj (zh 3) zy))))) (zx (jq (Nt (CJ r) (zh 4) (qM (zh 1) (qM (qM (zh 0) (zh 2)) (zh 3)))) (zx (Zh (Yk (qM (zh 1) (qM (qM (zh 0) (zh 2)) (zh 3))) (zh 4))) zH) zH) zH))) zH)) (zx (qo (zh 1)) zH)):zP P w K mg base 3 "_law_by_kind" 1 Vh)
def Hs (Z:Zz K h mg):zP P w K mg base 1 "_law_same" 2 RL:=by
 obtain⟨f,fd,F,a⟩:=Z.T.VI;exact(VJ (k:=0) Z.B F (aW Z.X Z.G a) (fY (ps:=["_law_found","_law_due"]) F (aW Z.X Z.G a) (λ_ _ _ _ _ _=>g9 λ_ _=>rfl)))
def I9 (Z:Zz K h mg):zP P w K mg base 2 "_law_same" 2 RK:=by
 obtain⟨f,fd,F,a⟩:=Z.T.VI;exact(VJ (k:=1) Z.B F (aW Z.X Z.G a) (Hs Z))
def Fb (Z:Zz K h mg):zP P w K mg base 3 "_law_same" 2 Ze:=by
 obtain⟨f,fd,F,a⟩:=Z.T.VI;exact(VJ (k:=2) Z.B F (aW Z.X Z.G a) (I9 Z))
def FH (Z:Zz K h mg):zP P w K mg base 4 "is_table" 1 ZJ:=by
 obtain⟨f,fd,F,a⟩:=Z.T.F5;exact(jt F (aW Z.X Z.G a) RX (λ_ _ _ _ _ _=>yM λ_=>rfl) λc A outer s H E r=>zx (jq (Qc (YG (gN (gz (gf .tup Z.B.jS Z.B.yO (by rfl) (zh 0)))) (YB (gN (NP Ji Ji zu (kL Z.B.kO (yb (zh 0))) (Gx rfl Z.B.IG.choose_spec)))))) (zx (qo yF) zH) zH) (zx (qt 1 RX.nd (kL Z.B.kO (yb (zh 0)))) (zx (jq (gN (gz (JC rfl Z.B.JP (j0 (qQ (N:=["row","many"]) 1 [1] (jK (zh 0)) (λ_ _ _=>⟨qm 0 (qC (by kernel_rfl)),qJ,qH (qu (Lx Z).up r (zj (zh 0) (zj (zh 1) (zj (zh 1) zy))))⟩)))))) (zx (qo yF) zH) zH) (zx (qo (Qd (qu (EH Z).up r (zj (zh 0) zy)) (QV (qu (M8 Z).up r (zj (zh 0) zy))))) zH))):zP P w K mg base 4 "is_table" 1 Kr)
def M5 (Z:Zz K h mg):yC P w K mg base 4 "require_told_kinds" 2 Y9:=by
 obtain⟨f,fd,F,a⟩:=Z.T.La;exact(Xv F (aW Z.X Z.G a) M4 (λ_ _ _ _ _ _=>g9 λ_ _=>rfl) λc A outer s H E r x=>zx (jq (KW (gN (gz (qu (Ln Z).up r (zj (zh 1) (zj zu (zj (Qf (qu (Kj Z).up r (zj (zh 0) zy)) zu) zy))))))) (zx (Ku x (Z.C.exc "NoKinds" (by decide +kernel)) (zj JD zy) (zm zF)) zH) zH) (zH):yC P w K mg base 4 "require_told_kinds" 2 Y9)
def HK (Z:Zz K h mg):zP P w K mg base 4 "_law_best" 2 Js:=by
 obtain⟨f,fd,F,a⟩:=Z.T.Fo;exact(jt F (aW Z.X Z.G a) gM (λ_ _ _ _ _ _=>g9 λ_ _=>rfl) λc A outer s H E r=>zx (Yg 2 (N:=["_law_some"]) 1 [] gM.nd rfl (cps (by kernel_rfl)) (by kernel_rfl) (jK (qu (Ii Z).up r (zj (zh 0) zy))) (λ_ _ _=>⟨qm 0 (qC (by kernel_rfl)),qJ,qH (qM (zh 0) zu)⟩)) (zx (qt 3 gM.nd (ja (zj (z0 zy zF) zy) (zm zF))) (zx (yW PassesOwn.never rfl (jG rfl Z.B.jn (kL Z.B.kO (yb (zh 2)))) (qm 4 gM.nd) (zx (qt 5 gM.nd (ja zy zF)) (zx (yW PassesOwn.never rfl (jK (zh 3)) (qm 6 gM.nd) (zx (Zh (Fy (zh 5) (yn (qQ (N:=["_law_one","_law_mix"]) 1 [6] (Ua rfl Z.B.jn (QT zu) zu) (λ_ _ _=>⟨qm 0 (qC (by kernel_rfl)),qJ,qH (jH (zh 1) (z0 (zj (zh 0) zy) (zm zF)))⟩))))) zH)) (zx (qt 3 gM.nd (zh 5)) zH)))) (zx (UE (z0 (zj wu (zj wu zy)) (zm (zm zF))) (wL 7 8 rfl gM.nd)) (zx (yW PassesOwn.never rfl (jK (zh 3)) (qm 6 gM.nd) (zx (qt 9 gM.nd (qu (Fi Z).up r (zj (zh 2) (zj (zh 6) zy)))) (zx (jq (jw JW (QR rfl Z.B.Qs (j0 (qQ (N:=["_law_kind","_law_found"]) 1 [9] (jK (zh 1)) (λ_ _ _=>⟨qm 0 (qC (by kernel_rfl)),qJ,qH (qM (zh 1) (zh 0))⟩)))) zu) (zx (qt 10 gM.nd (jH zu (QQ (qM (zh 9) zu) (DQ rfl Z.B.Xm (j0 (qQ (N:=["_law_kind","_law_found"]) 1 [9] (jK (zh 1)) (λ_ _ _=>⟨qm 0 (qC (by kernel_rfl)),qJ,qH (Qf zu (qM (zh 1) (zh 0)))⟩))))))) (zx (jq (Qc (YG (jw Mg (zh 8) wu) (YB (jw JW (zh 10) (zh 8))))) (zx (AJ 7 8 rfl gM.nd (zh 6) (zh 10)) zH) zH) zH)) zH) zH))) (zx (qo (zh 7)) zH))))):zP P w K mg base 4 "_law_best" 2 Pb).iso
def F4 (Z:Zz K h mg):zP P w K mg base 4 "_law_few" 1 Jv:=by
 obtain⟨f,fd,F,a⟩:=Z.T.F1;exact(jt F (aW Z.X Z.G a) R0 (λ_ _ _ _ _ _=>yM λ_=>rfl) λc A outer s H E r=>zx (qt 1 R0.nd (qu (HA Z).up r (zj (zh 0) zy))) (zx (jq (jw JW (qu (Kl Z).up r (zj (zh 1) zy)) zu) (zx (qo (zh 1)) zH) zH) (zx (qo (w6 Z.B.yO (j0 (qQ (N:=["_law_a"]) 1 [] (jG rfl Z.B.jn zu) (λ_ _ _=>⟨qm 0 (qC (by kernel_rfl)),qJ,qH (w6 Z.B.yO (j0 (qQ (N:=["_law_b","_law_a"]) 1 [0] (jG rfl Z.B.jn zu) (λ_ _ _=>⟨qm 0 (qC (by kernel_rfl)),qJ,qH (qM (ja (zj zu (zj zu (zj zu (zj zu zy)))) (zm (zm (zm (zm zF))))) (GU (zh 1) (zh 0)))⟩))))⟩))))) zH)):zP P w K mg base 4 "_law_few" 1 VS)
def LN (Z:Zz K h mg):yC P w K mg base 5 "require_table" 1 Kc:=by
 obtain⟨f,fd,F,a⟩:=Z.T.LO;exact(Xv F (aW Z.X Z.G a) LM (λ_ _ _ _ _ _=>yM λ_=>rfl) λc A outer s H E r x=>zx (jq (KW (gN (gz (qu (FH Z).up r (zj (zh 0) zy))))) (zx (Ku x (Z.C.exc "NoTable" (by decide +kernel)) (zj JD zy) (zm zF)) zH) zH) (zH):yC P w K mg base 5 "require_table" 1 Kc)
def Lz (Z:Zz K h mg):yC P w K mg base 6 "require_steady" 1 Ya:=by
 obtain⟨f,fd,F,a⟩:=Z.T.LG;exact(Xv F (aW Z.X Z.G a) LD (λ_ _ _ _ _ _=>yM λ_=>rfl) λc A outer s H E r x=>zx (Zh (QO x (LN Z).up r (zj (zh 0) zy))) (zx (jq (KW (jw O2 (qu (Ie Z).up r (zj (zh 0) zy)) wu)) (zx (Ku x (Z.C.exc "NotSteady" (by decide +kernel)) (zj JD zy) (zm zF)) zH) zH) zH):yC P w K mg base 6 "require_steady" 1 Ya)
def R9 (Z:Zz K h mg):yC P w K mg base 7 "best_mix" 2 jM:=by
 obtain⟨f,fd,F,a⟩:=Z.T.Fq;exact(Xv F (aW Z.X Z.G a) QL (λ_ _ _ _ _ _=>g9 λ_ _=>rfl) λc A outer s H E r x=>zx (Zh (QO x (Lz Z).up r (zj (zh 0) zy))) (zx (jq (KW (jw eI (qu (Kj Z).up r (zj (zh 0) zy)) (Gx rfl Z.B.Hj.choose_spec))) (zx (Ku x (Z.C.exc "TooMany" (by decide +kernel)) (zj JD zy) (zm zF)) zH) zH) (zx (Zh (QO x (M5 Z).up r (zj (zh 0) (zj (zh 1) zy)))) (zx (jq (KW (jw (kz r) (zh 1) (z0 zy zF))) (zx (Ku x (Z.C.exc "NoKinds" (by decide +kernel)) (zj JD zy) (zm zF)) zH) zH) (Cg (zx (qt 2 QL.nd (qu (IJ Z).up r (zj (zh 0) zy))) (zx (qt 3 QL.nd wu) (zx (qt 4 QL.nd wu) (zx (yW PassesOwn.never rfl (jK (qu (Ip Z).up r (zj (qu (Kj Z).up r (zj (zh 0) zy)) zy))) (qm 5 QL.nd) (zx (qt 6 QL.nd (qu (IA Z).up r (zj (zh 2) (zj (zh 1) (zj (z0 (zj (zh 5) zy) (zm zF)) zy))))) (zx (jq (Qc (Uj (jw O2 (zh 6) wu) (V4 (Qc (YG (jw Mg (zh 4) wu) (YB (jw JW (zh 6) (zh 4)))))))) (zx (qt 3 QL.nd (zh 5)) (zx (qt 4 QL.nd (zh 6)) zH)) zH) zH))) (zx (qo (zh 3)) zH))))))))):yC P w K mg base 7 "best_mix" 2 jM)
def FV (Z:Zz K h mg):zP P w K mg base 7 "best_mix" 2 Ju:=(R9 Z).m.iso
end
end G
namespace Mi
open PySem L2
section
variable {m:Ev}
def Yu (h:m ρ A=.ok (.tup ws) A1):qj m ρ A=.ok ⟨λA i=>(qb (.tup ws) A).map λws=>ws[i]?,ws.length⟩ A1:=by
 unfold qj Xx;rw[h,zV]
 rfl
def QS (h:m ρ A=.ok (.tup ws) A)(H:ws.length<=zY){g:W->W}(he:∀w∈ws,me (some w::cap.map λi=>(ρ[i]?).join) A=.ok (g w) A):
  zR 1 cap (qj m) (zG 0) (zW (.bl true)) (zN me) ρ A=.ok (ws.map g) A:=by
 have e:=w5 (cap:=cap) (me:=me) (ρ:=ρ) (A:=A) (N:=ws.length) (item:=λi=>ws.getD i .non) (g:=λi=>g (ws.getD i .non)) (Yu h) rfl H
  (λi hi=>by show some ws[i]? =_;rw[aa hi,ae,aa hi];rfl)
  (by show some ws[ws.length]? =_;rw[aF (av _)])
  (λi hi=>by
   have:ws.getD i .non=ws[i]:=by rw[ae,aa hi];rfl
   rw[this];exact he _ (aN hi))
 rw[e]
 congr 1
 apply bC
 ·simp
 ·intro i b a
  have hi:i<ws.length:=by simpa using a
  simp[ae,aa hi]
theorem Gm (p:α->Bool):∀l:List α,Zl (l.map λx=>W.bl (p x))=some (l.map p)
 |[]=>rfl|x::l=>by
  show(match Wd (.bl (p x)),Zl (l.map λx=>W.bl (p x)) with|some k,some K=>some (k::K)|_,_=>none)=_
  rw[Gm p l];rfl
def KU {p:α->Bool}{l:List α}(h:∀x∈l,p x=true):Z2 (l.map λx=>W.bl (p x)) A=.ok (.bl true) A:=by
 show Zp (λK=>K.all id) _ A=_;unfold Zp;rw[Gm];dsimp only
 have:(l.map p).all id=true:=by
  rw[all_map];exact cx.mpr λx H=>h x H
 rw[this]
theorem GL {f:α->W}(h:∀x,(f x).nr=true):∀l:List α,ji (l.map f)=true
 |[]=>rfl|x::l=>by
  show((f x).nr&&ji (l.map f))=true;rw[h x,GL h l];rfl
def Y4 (i j:Int)(A:Hx):jv (.int i) (.int j) A=.ok (.bl (decide (i=j))) A:=by
 show R.ok (W.bl (PyData.eqv (.int i) (.int j))) A=_;simp[PyData.eqv]
 rfl
def My (i j:Int)(A:Hx):jb (.int i) (.int j) A=.ok (.bl (!decide (i=j))) A:=by
 show R.ok (W.bl (!PyData.eqv (.int i) (.int j))) A=_;simp[PyData.eqv]
 rfl
def ML (i j:Bool)(A:Hx):jb (.bl i) (.bl j) A=.ok (.bl (!(i==j))) A:=by
 cases i<;>cases j<;>rfl
end
noncomputable def zr (r:bQ):W:=.tup (r.map W.int)
def zt (t:bP):W:=.tup (t.map zr)
def QZ (r:bQ):(zr r).nr=true:=by
 show ji (r.map W.int)=true;exact GL (λ_=>rfl) r
def QY (t:bP):(zt t).nr=true:=by
 show ji (t.map zr)=true;exact GL QZ t
def P6 {j:jV}{st:W->Ex}{N:Nat}{item:Nat->W}{I:En->Prop}(t:∀i,i<N->j.at_ A i=some (some (item i)))(H:j.at_ A N=some none)
  (s:∀i,i<N->∀ρ,I ρ->∃a,st (item i) ρ A=.ok (.nx a) A/\I a):∀(n i:Nat)(ρ:En),i+n=N->I ρ->∃a,yI j st n i ρ A=.ok (.nx a) A/\I a:=by
 intro n
 induction n with
 |zero=>
  intro i ρ h c
  have:i=N:=by omega
  subst this;exact⟨ρ,Px H,c⟩
 |succ n d=>
  intro i ρ h c;obtain⟨ρ1,E,g⟩:=s i (by omega) ρ c
  obtain⟨b,e,f⟩:=d (i+1) ρ1 (by omega) g
  exact⟨b,(Ou (t i (by omega)) E).trans e,f⟩
def Yl {m:Ev}(h:m ρ A=.ok (.tup ws) A1):wB m ρ A=.ok (kR (.tup ws) ws.length) A1:=by
 unfold wB;rw[h,zV]
 rfl
def YO {w:W}(h:ws[i]? =some w):(kR (.tup ws) ws.length).at_ A i=some (some (.tup [.int i,w])):=by
 show atEnd ws i _=_;unfold atEnd;rw[h]
def YF:(kR (.tup ws) ws.length).at_ A ws.length=some none:=by
 show atEnd ws _ _=_;unfold atEnd;rw[aF (av _)];exact ah rfl
noncomputable def at2 (t:bP)(a b:Nat):Int:=(t.getD a []).getD b 0
structure qA (t:bP):Prop where
 n1:1<=t.length
 n8:t.length<=8
 sq:∀r∈t,r.length=t.length
 lo:∀r∈t,∀v∈r,0<=v/\v<(t.length:Int)
 dg:∀a b,a<t.length->b<t.length->(at2 t a b=0↔a=b)
 sy:∀a b,a<t.length->b<t.length->at2 t a b=at2 t b a
 fu:∀k:Nat,(∃v∈t.flatten,(k:Int)<v)->(k:Int)∈t.flatten
section
variable {a b:Nat}
def K5 (h:a<t.length):(t.map zr)[a]? =some (zr (t.getD a [])):=by
 rw[aw,ae,aa h];rfl
def yX (h:a<t.length):t.getD a []∈t:=by
 rw[ae,aa h];exact aN h
def Q4 (h:a<t.length):zD (zt t) (.int a) A=.ok (zr (t.getD a [])) A:=by
 unfold zD;show(match gr (t.map zr) (a:Int) with|some w=>R.ok w A|none=>R.bad)=_
 rw[GQ (K5 h)]
def int_at {r:bQ}(h:b<r.length):(r.map W.int)[b]? =some (.int (r.getD b 0)):=by
 rw[aw,ae,aa h];rfl
def Qj {r:bQ}(h:b<r.length):zD (zr r) (.int b) A=.ok (.int (r.getD b 0)) A:=by
 unfold zD;show(match gr (r.map W.int) (b:Int) with|some w=>R.ok w A|none=>R.bad)=_
 rw[GQ (v:=.int (r.getD b 0)) (by rw[aw,ae,aa h];rfl)]
end
section
def D4 {j:jV}{c:Option W}(a:∀i,i<ws.length->j.at_ A i=some (some (ws.getD i .non)))(H:j.at_ A ws.length=some none)(he:∀w,me [c,some w] A=.ok w A):
  ∀(f i:Nat)(x:Option W)(acc:List W),i+f=ws.length->acc.length+f<=zY->∃y,jB j (zG 1) (zW (.bl true)) (zN me) f i [c,x] acc A=.ok ([c,y],acc++ws.drop i) A:=by
 intro f
 induction f with
 |zero=>
  intro i x acc h l
  have:i=ws.length:=by omega
  subst this;refine⟨x,?_⟩;unfold jB;rw[H,bO,bH]
 |succ f I=>
  intro i x acc h l;have hi:i<ws.length:=by omega
  have E:ws.getD i .non=ws[i]:=by rw[ae,aa hi];rfl
  obtain⟨y,e⟩:=I (i+1) (some ws[i]) (acc++[ws[i]]) (by omega) (by rw[aq,aV];omega)
  refine⟨y,?_⟩;rw[jB,a i hi,E];dsimp only[zG,List.set,zW];rw[zV];dsimp only;have b:zN me [c,some ws[i]] acc A=.ok ([c,some ws[i]],acc++[ws[i]]) A:=by
   unfold zN;rw[he,zV,ah (by omega)]
  rw[b,zV];rw[e,aQ]
  congr 3
  rw[List.singleton_append,<- br hi]
def Eh {j:jV}(b:∀i,i<t.length->j.at_ A i=some (some (zr (t.getD i []))))(H:j.at_ A t.length=some none):
  ∀(f i:Nat)(x y:Option W)(acc:List W),i+f=t.length->acc.length+(t.drop i).flatten.length<=zY->
   ∃ρ,jB j (zG 0) (zW (.bl true)) (Zn (qj (qd 0)) (zG 1) (zW (.bl true)) (zN (qd 1))) f i [x,y] acc A=.ok (ρ,acc++(t.drop i).flatten.map W.int) A:=by
 intro f
 induction f with
 |zero=>
  intro i x y acc h l
  have:i=t.length:=by omega
  subst this;refine⟨[x,y],?_⟩;unfold jB;rw[H,bO];simp
 |succ f I=>
  intro i x y acc h l;have hi:i<t.length:=by omega
  have r:t.getD i []=t[i]:=by rw[ae,aa hi];rfl
  have e:t.drop i=t[i]::t.drop (i+1):=br hi;rw[e,a5,aq]at l;obtain⟨z,E⟩:=D4 (A:=A) (j:=⟨λA i_1=>(qb (zr t[i]) A).map λws=>ws[i_1]?,(t[i].map W.int).length⟩) (me:=qd 1) (ws:=t[i].map W.int) (c:=some (zr t[i]))
   (λk a=>by
    show some (t[i].map W.int)[k]? =_;rw[ae,aa a];rfl)
   (by show some (t[i].map W.int)[(t[i].map W.int).length]? =_;rw[aF (av _)])
   (λw=>zq rfl) (t[i].map W.int).length 0 y acc (by omega) (by rw[ag];omega)
  rw[List.drop_zero]at E;obtain⟨ρ,g⟩:=I (i+1) (some (zr t[i])) z (acc++t[i].map W.int) (by omega) (by rw[aq,ag];omega)
  refine⟨ρ,?_⟩;rw[jB,b i hi,r];dsimp only[zG,List.set,zW];rw[zV];dsimp only;have d:Zn (qj (qd 0)) (zG 1) (zW (.bl true)) (zN (qd 1)) [some (zr t[i]),y] acc A=.ok ([some (zr t[i]),z],acc++t[i].map W.int) A:=by
   unfold Zn;rw[Yu (ws:=t[i].map W.int) (A1:=A) (zq (i:=0) rfl),zV];exact E
  rw[d,zV];rw[g,e,a5,aO,aQ]
def A9 {m:Ev}(h:m ρ A=.ok (zt t) A)(H:t.flatten.length<=zY):
  zR 2 [] (qj m) (zG 0) (zW (.bl true)) (Zn (qj (qd 0)) (zG 1) (zW (.bl true)) (zN (qd 1))) ρ A=.ok (t.flatten.map W.int) A:=by
 have hlen:(t.map zr).length=t.length:=ag ..;obtain⟨a,e⟩:=Eh (t:=t) (A:=A) (j:=⟨λA i=>(qb (zt t) A).map λws=>ws[i]?,(t.map zr).length⟩) (λi hi=>by show some (t.map zr)[i]? =_;rw[K5 hi])
  (by show some (t.map zr)[t.length]? =_;rw[aF (by omega)]) t.length 0 none none [] (by omega) (by simpa using H)
 unfold zR;rw[Yu (ws:=t.map zr) h,zV];show R.bind (R.nox (jB ⟨λA i=>(qb (zt t) A).map λws=>ws[i]?,(t.map zr).length⟩ _ _ _ (t.map zr).length 0 [none,none] [] A)) _=_;rw[hlen]at e ⊢;rw[e];simp
 rfl
end
theorem QK:∀l:bQ,intsOf (l.map W.int)=some l
 |[]=>rfl|i::l=>by
  show(match intsOf (l.map W.int) with|some is=>some (i::is)|none=>none)=_
  rw[QK l]
theorem V5:∀(l:bQ)(m:Int),yz l m=m∨yz l m∈l
 |[],_=>.inl rfl|i::l,m=>by
  show yz l (if i > m then i else m)=m∨yz l (if i > m then i else m)∈i::l;rcases V5 l (if i > m then i else m) with e|e
  ·by_cases h:i > m
   ·rw[ah h]at e ⊢;exact .inr (by rw[e];exact ax ..)
   ·rw[ar h]at e ⊢;exact .inl e
  ·exact .inr (ao _ e)
end Mi
namespace G
open PySem L2 Mi
def CB (h:qA t):t.flatten.length<=64:=by
 have:∀l:bP,(∀r∈l,r.length<=8)->l.flatten.length<=8 * l.length:=by
  intro l
  induction l with
  |nil=>intro _;simp|cons r l i=>
   intro H;have e:=H r (ax ..);have d:=i λb a=>H b (ao _ a);rw[a5,aq,a9];omega
 have c:=h.n8
 have:=this t λr H=>by rw[h.sq r H];exact h.n8
 omega
section
def wK (h:n<1000000):jP (n:Int)=true:=by
 unfold jP;simp;omega
end
def Qg {m:Ev}(h:m ρ A=.ok (.ref n) A1)(H:A1[n]? =some (.lst ws)):qj m ρ A=.ok ⟨λA i=>(qb (.ref n) A).map λws=>ws[i]?,ws.length⟩ A1:=by
 unfold qj Xx;rw[h,zV];have e:qb (.ref n) A1=some ws:=by unfold qb;dsimp only;rw[H]
 rw[e]
def Q0 (h:A[n]? =some (.lst ws)):((qb (.ref n) A).map λws=>ws[i]?)=some ws[i]?:=by
 have e:qb (.ref n) A=some ws:=by unfold qb;dsimp only;rw[h]
 rw[e];rfl
def wc:List Int->Int
 |[]=>0|i::is=>yz is i
def Uw {r:bQ}(h:r≠[]):yj (r.map W.int) A=.ok (.int (wc r)) A:=by
 unfold yj;rw[QK];cases r with
 |nil=>exact absurd rfl h|cons i is=>rfl
def KL {r:bQ}(h:r≠[]):wc r∈r:=by
 cases r with
 |nil=>exact absurd rfl h|cons i is=>
  rcases V5 is i with e|e
  ·show yz is i∈_;rw[e];exact ax ..
  ·exact ao _ e
def qI (t:bP):Int:=wc (t.map wc)+1
section
def _root_.Mi.qA.row_ne (h:qA t){r:bQ}(H:r∈t):r≠[]:=λe=>by
 have a:=h.sq r H;have b:=h.n1;rw[e,length_nil]at a;omega
def _root_.Mi.qA.map_ne (h:qA t):t.map wc≠[]:=λe=>by
 have:=h.n1
 rw[List.map_eq_nil_iff]at e;rw[e]at this;simp at this
def kP (h:qA t):1<=qI t/\qI t<=8:=by
 obtain⟨r,H,e⟩:=cw.mp (KL h.map_ne)
 have:=h.lo r H _ (KL (h.row_ne H))
 have:=h.n8
 unfold qI;rw[<- e];omega
def Je (h:qA t){a b:Nat}(H:a<t.length)(d:b<t.length):0<=at2 t a b/\at2 t a b<8:=by
 have c:=h.sq _ (yX H)
 have:(t.getD a []).getD b 0∈t.getD a []:=by
  rw[ae (l:=t.getD a []),aa (by omega)];exact aN _
 have e:=h.lo _ (yX H) _ this
 have:=h.n8
 unfold at2;omega
def gO (h:q ρ A=.ok ws A1):mQ jU q ρ A=.ok (.tup ws) A1:=(j6 h).trans rfl
end
end G
namespace Mi
open PySem L2
def wM {w:W}{s:Nat}(h:A[n]? =some (.lst ws))(H:ws[s]? =some w):zD (.ref n) (.int (s:Int)) A=.ok w A:=by
 unfold zD;have e:qb (.ref n) A=some ws:=by unfold qb;dsimp only;rw[h]
 rw[e];dsimp only;rw[GQ H]
def jO {u:O}(h:A[n]? =some o):(A++[u])[n]? =some o:=by
 have:=(cq.mp h).1
 rw[ai this];exact h
def qY {u:O}:(A++[u])[A.length]? =some u:=by simp
noncomputable def JZ (μ:Nat->Nat->Int)(a b:Nat)(k:Int):Nat->Nat->Int:=λi j=>if i=a/\j=b then k else μ i j
structure Mu (n:Nat)(μ:Nat->Nat->Int)(c:Nat)(done:Nat->Nat->Prop):Prop where
 dg:∀i,μ i i=0
 sy:∀i j,μ i j=μ j i
 dn:∀i j,i<j->j<n->done i j->1<=μ i j/\μ i j<=(c:Int)
 un:∀i j,i<j->j<n->¬done i j->μ i j=0
 fu:∀k:Nat,1<=k->k<=c->∃i j,i<n/\j<n/\μ i j=(k:Int)
noncomputable def yk (n:Nat)(μ:Nat->Nat->Int):bP:=(List.range n).map λi=>(List.range n).map (μ i)
def KO (hi:i<n)(h:j<n):at2 (yk n μ) i j=μ i j:=by
 unfold at2 yk;rw[ae (l:=(List.range n).map λi=>(List.range n).map (μ i)),aw,aU hi];show((List.range n).map (μ i)).getD j 0=_;rw[ae,aw,aU h]
 rfl
def Mu.tab {c:Nat}{d:Nat->Nat->Prop}(h:Mu n μ c d)(all:∀i j,i<j->j<n->d i j)(n1:1<=n)(n8:n<=8)(y:n=1∨c<n):qA (yk n μ):=by
 have len:(yk n μ).length=n:=by unfold yk;simp
 have val:∀i j,i<n->j<n->i≠j->1<=μ i j/\μ i j<=(c:Int):=λi j hi H ne=>by
  rcases Nat.lt_or_gt_of_ne ne with q|q
  ·exact h.dn i j q H (all i j q H)
  ·rw[h.sy];exact h.dn j i q hi (all j i q hi)
 have mem:∀r∈yk n μ,∀v∈r,∃i j,i<n/\j<n/\v=μ i j:=λr f v o=>by
  unfold yk at f;obtain⟨i,hi,rfl⟩:=cw.mp f;obtain⟨j,H,rfl⟩:=cw.mp o;exact⟨i,j,cu.mp hi,cu.mp H,rfl⟩
 have I:∀i j,i<n->j<n->μ i j∈(yk n μ).flatten:=λi j hi H=>List.mem_flatten.mpr ⟨_,cw.mpr ⟨i,cu.mpr hi,rfl⟩,cw.mpr ⟨j,cu.mpr H,rfl⟩⟩;refine⟨by rw[len];exact n1,by rw[len];exact n8,λr f=>?_,λr f v o=>?_,λa b l g=>?_,λa b l g=>?_,λk x=>?_⟩
 ·rw[len]
  unfold yk at f;obtain⟨i,hi,rfl⟩:=cw.mp f;simp
 ·rw[len]
  obtain⟨i,j,hi,H,rfl⟩:=mem r f v o
  by_cases q:i=j
  ·subst q;rw[h.dg];omega
  ·have:=val i j hi H q
   omega
 ·rw[len]at l g
  rw[KO l g]
  constructor
  ·intro e
   by_cases q:a=b
   ·exact q
   ·have:=val a b l g q;omega
  ·intro e;subst e;exact h.dg a
 ·rw[len]at l g
  rw[KO l g,KO g l];exact h.sy a b
 ·obtain⟨v,o,t⟩:=x
  obtain⟨r,f,p⟩:=List.mem_flatten.mp o;obtain⟨i,j,hi,H,rfl⟩:=mem r f v p
  by_cases k0:k=0
  ·subst k0
   have:=I 0 0 (by omega) (by omega)
   rw[h.dg]at this;exact this
  ·by_cases q:i=j
   ·subst q;rw[h.dg]at t;omega
   ·have:=val i j hi H q
    obtain⟨w,J,u,s,e⟩:=h.fu k (by omega) (by omega)
    have:=I w J u s
    rw[e]at this;exact this
end Mi
namespace G
open PySem L2 Mi
def K6 {i j:Int}(H:-(2 ^ 64)<i)(h:i<2 ^ 64):qT (.int i) (.int j) A=.ok (.int (i * j)) A:=by
 unfold qT;dsimp only;rw[ah];unfold J1;rw[bx,ak,aj,aj];exact .inl ⟨H,h⟩
def YE {i j:Int}(h:0<j):gD (.int i) (.int j) A=.ok (.int (i%j)) A:=by
 unfold gD QB;dsimp only;rw[ah];unfold Xz;exact aB h
def G9 {i j:Int}(h:0<j)(H:j<1152921504606846976):wQ (.int i) (.int j) A=.ok (.int (i/j)) A:=by
 unfold wQ QB;dsimp only;rw[ah];unfold Xg;rw[ak,aj,aj];exact⟨h,H⟩
def hH {c m:Int}(h:0<m)(H:m<1000000000000000):Ko [.ref 0,.int m] [.lst [.int c,.bl true]]=.ok (.int (c%m)) [.lst [.int (c/m),.bl true]]:=by
 refine qO ?_;unfold VF;refine qx (A1:=[.lst [.int (c/m),.bl true]]) ?_;refine(yo (A1:=[.lst [.int c,.bl true]]) rfl).trans ?_;refine(zE (ρ1:=[some (.ref 0),some (.int m),some (.int (c%m)),none]) (A1:=[.lst [.int c,.bl true]]) ?_).trans ?_
 ·refine(qz (w:=.int (c%m)) (A1:=[.lst [.int c,.bl true]]) ?_).trans rfl
  exact(zO (x:=.int c) (y:=.int m) (A1:=[.lst [.int c,.bl true]]) (A2:=[.lst [.int c,.bl true]]) rfl rfl).trans (YE h)
 ·refine(zE (ρ1:=[some (.ref 0),some (.int m),some (.int (c%m)),none]) (A1:=[.lst [.int (c/m),.bl true]]) ?_).trans rfl
  have e:zi wQ (zi zD zo zI) zw [some (.ref 0),some (.int m),some (.int (c%m)),none] [.lst [.int c,.bl true]]=.ok (.int (c/m)) [.lst [.int c,.bl true]]:=
   (zO (x:=.int c) (y:=.int m) (A1:=[.lst [.int c,.bl true]]) (A2:=[.lst [.int c,.bl true]]) rfl rfl).trans (G9 h (by omega))
  unfold YH;rw[e,zV]
  rfl
noncomputable def Jl (c:Int):Int:=(c * 48271+29)%2147483647
noncomputable def g7 (d:Int):Int:=(d * d+39373 * d+7)%2147483629
noncomputable def ZE (e:Int):Int:=(e * e+16807 * e)%2147483587
def Td (c:Int):0<=Jl c/\Jl c<2147483647:=⟨emod_nonneg _ (by decide),bL _ (by decide)⟩
def hJ (c:Int):0<=g7 c/\g7 c<2147483629:=⟨emod_nonneg _ (by decide),bL _ (by decide)⟩
def hU {c m:Int}(i:0<=c)(h:c<2147483647)(H:0<m)(j:m<1000000000000000):Ko [.ref 0,.int m] [.lst [.int c,.bl false]]=.ok (.int (ZE (g7 (Jl c))/8%m)) [.lst [.int (Jl c),.bl false]]:=by
 have l:=Td c;refine qO ?_;unfold VF;refine(zE (ρ1:=[some (.ref 0),some (.int m),none,none]) (A1:=[.lst [.int c,.bl false]]) ((jA (A1:=[.lst [.int c,.bl false]]) rfl).trans rfl)).trans ?_;have g:zi gD (zi qh (zi qT (zi zD zo zI) (zW (.int 48271))) (zW (.int 29))) (zW (.int 2147483647)) [some (.ref 0),some (.int m),none,none] [.lst [.int c,.bl false]]=.ok (.int (Jl c)) [.lst [.int c,.bl false]]:=by
  have em:zi qT (zi zD zo zI) (zW (.int 48271)) [some (.ref 0),some (.int m),none,none] [.lst [.int c,.bl false]]=.ok (.int (c * 48271)) [.lst [.int c,.bl false]]:=
   (zO (x:=.int c) (y:=.int 48271) (A1:=[.lst [.int c,.bl false]]) (A2:=[.lst [.int c,.bl false]]) rfl rfl).trans (K6 (by omega) (by omega))
  refine(zO (x:=.int (c * 48271+29)) (y:=.int 2147483647) (A1:=[.lst [.int c,.bl false]]) (A2:=[.lst [.int c,.bl false]]) ((zO em rfl).trans rfl) rfl).trans ?_;exact YE (by decide)
 refine(zE (ρ1:=[some (.ref 0),some (.int m),none,none]) (A1:=[.lst [.int (Jl c),.bl false]]) ?_).trans ?_
 ·unfold YH
  rw[g,zV]
  rfl
 generalize Jl c=d at*;have b:zi gD (zi qh (zi qh (zi qT (zi zD zo zI) (zi zD zo zI)) (zi qT (zW (.int 39373)) (zi zD zo zI))) Z5) (zW (.int 2147483629)) [some (.ref 0),some (.int m),none,none] [.lst [.int d,.bl false]]=
   .ok (.int (g7 d)) [.lst [.int d,.bl false]]:=by
  have em:zi qT (zi zD zo zI) (zi zD zo zI) [some (.ref 0),some (.int m),none,none] [.lst [.int d,.bl false]]=.ok (.int (d * d)) [.lst [.int d,.bl false]]:=
   (zO (x:=.int d) (y:=.int d) (A1:=[.lst [.int d,.bl false]]) (A2:=[.lst [.int d,.bl false]]) rfl rfl).trans (K6 (by omega) (by omega))
  have E:zi qT (zW (.int 39373)) (zi zD zo zI) [some (.ref 0),some (.int m),none,none] [.lst [.int d,.bl false]]=.ok (.int (39373 * d)) [.lst [.int d,.bl false]]:=
   (zO (x:=.int 39373) (y:=.int d) (A1:=[.lst [.int d,.bl false]]) (A2:=[.lst [.int d,.bl false]]) rfl rfl).trans (K6 (by decide) (by decide))
  have s:zi qh (zi qT (zi zD zo zI) (zi zD zo zI)) (zi qT (zW (.int 39373)) (zi zD zo zI)) [some (.ref 0),some (.int m),none,none] [.lst [.int d,.bl false]]=.ok (.int (d * d+39373 * d)) [.lst [.int d,.bl false]]:=
   (zO em E).trans rfl
  refine(zO (x:=.int (d * d+39373 * d+7)) (y:=.int 2147483629) (A1:=[.lst [.int d,.bl false]]) (A2:=[.lst [.int d,.bl false]]) ((zO s rfl).trans rfl) rfl).trans ?_;exact YE (by decide)
 refine(zE (qz b)).trans ?_;have B:=hJ d;generalize g7 d=e at*;have a:zi gD (zi qh (zi qT zX zX) (zi qT (zW (.int 16807)) zX)) (zW (.int 2147483587)) [some (.ref 0),some (.int m),none,some (.int e)] [.lst [.int d,.bl false]]=.ok (.int (ZE e)) [.lst [.int d,.bl false]]:=by
  have em:zi qT zX zX [some (.ref 0),some (.int m),none,some (.int e)] [.lst [.int d,.bl false]]=.ok (.int (e * e)) [.lst [.int d,.bl false]]:=
   (zO (x:=.int e) (y:=.int e) (A1:=[.lst [.int d,.bl false]]) (A2:=[.lst [.int d,.bl false]]) rfl rfl).trans (K6 (by omega) (by omega))
  have E:zi qT (zW (.int 16807)) zX [some (.ref 0),some (.int m),none,some (.int e)] [.lst [.int d,.bl false]]=.ok (.int (16807 * e)) [.lst [.int d,.bl false]]:=
   (zO (x:=.int 16807) (y:=.int e) (A1:=[.lst [.int d,.bl false]]) (A2:=[.lst [.int d,.bl false]]) rfl rfl).trans (K6 (by decide) (by decide))
  refine(zO (x:=.int (e * e+16807 * e)) (y:=.int 2147483587) (A1:=[.lst [.int d,.bl false]]) (A2:=[.lst [.int d,.bl false]]) ((zO em E).trans rfl) rfl).trans ?_;exact YE (by decide)
 refine(zE (qz a)).trans ?_;generalize ZE e=f at*;refine qx (qW ?_);refine(zO (x:=.int (f/8)) (y:=.int m) (A1:=[.lst [.int d,.bl false]]) (A2:=[.lst [.int d,.bl false]]) ?_ rfl).trans (YE H);exact(zO (x:=.int f) (y:=.int 8) (A1:=[.lst [.int d,.bl false]]) (A2:=[.lst [.int d,.bl false]]) rfl rfl).trans (G9 (by decide) (by decide))
def ju (n:Nat)(A:Hx):Prop:=∃c b,A[n]? =some (.lst [.int c,.bl b])/\0<=c/\(b=false->c<2147483647)
def Nw (h:ju n A){m:Int}(H:0<m)(g:m<1000000000000000):∃r o,yN [.ref n,.int m] A=.ok (.int r) (A.set n o)/\0<=r/\r<m/\ju n (A.set n o):=by
 obtain⟨c,b,f,d,i⟩:=h;have hn:n<A.length:=(cq.mp f).1;have fin:∀(r C:Int),Ko [.ref 0,.int m] [.lst [.int c,.bl b]]=.ok (.int r) [.lst [.int C,.bl b]]->yN [.ref n,.int m] A=.ok (.int r) (A.set n (.lst [.int C,.bl b])):=λr C e=>by
  unfold yN Z0;dsimp only;rw[f];dsimp only;have a:(ji [W.int c,W.bl b]&&ji [W.int m])=true:=rfl;rw[ah a,e]
  rfl
 cases b with
 |true=>
  refine⟨c%m,_,fin _ _ (hH H g),emod_nonneg _ (by omega),bL _ H,c/m,true,aL hn,Int.ediv_nonneg d (by omega),λz=>nomatch z⟩
 |false=>
  exact⟨_,_,fin _ _ (hU d (i rfl) H g),emod_nonneg _ (by omega),bL _ H,Jl c,false,aL hn,(Td c).1,λ_=>(Td c).2⟩
end G
namespace Mi
open PySem L2
def Gu {k:Nat}{xs ys:List W}(h:A[n]? =some (.lst xs))(a:A[k]? =some (.lst ys))(H:xs.length+ys.length<=zY):qh (.ref n) (.ref k) A=.ok (.ref A.length) (A++[.lst (xs++ys)]):=by
 unfold qh;dsimp only;rw[h,a];dsimp only;rw[ah H]
def Ext (A a:Hx):Prop:=∃l,a=A++l
def Ext.refl:Ext A A:=⟨[],by simp⟩
def Ext.trans {C:Hx}(a:Ext A B)(b:Ext B C):Ext A C:=let ⟨l,e⟩:=a;let ⟨k,f⟩:=b;⟨l++k,by rw[f,e,aQ]⟩
def Ext.one:Ext A (A++[o]):=⟨[o],rfl⟩
def Ext.at {a:Hx}(x:Ext A a)(h:A[n]? =some o):a[n]? =some o:=by
 obtain⟨l,rfl⟩:=x
 have:=(cq.mp h).1
 rw[ai this];exact h
def Ue {j:jV}{ifs:Ev}{N:Nat}
  (H:∀i ρ acc A,i<N->I i ρ acc A->∃w ρ1,j.at_ A i=some (some w)/\tw w ρ=some ρ1/\((∃A1 c a A2,ifs ρ1 A=.ok (.bl true) A1/\em ρ1 acc A1=.ok (c,a) A2/\I (i+1) c a A2)∨(∃A1,ifs ρ1 A=.ok (.bl false) A1/\I (i+1) ρ1 acc A1)))
  (e:∀ρ acc A,I N ρ acc A->j.at_ A N=some none):
  ∀(f i:Nat)(ρ:En)(acc:List W)(A:Hx),i+f=N->I i ρ acc A->∃d b o,jB j tw ifs em f i ρ acc A=.ok (d,b) o/\I N d b o:=by
 intro f
 induction f with
 |zero=>
  intro i ρ acc A h g
  have:i=N:=by omega
  subst this;refine⟨ρ,acc,A,?_,g⟩;unfold jB;rw[e _ _ _ g]
 |succ f n=>
  intro i ρ acc A h g;obtain⟨w,ρ1,r,q,p⟩:=H i ρ acc A (by omega) g
  rw[jB,r];dsimp only;rw[q];dsimp only;rcases p with ⟨A1,c,a,A2,l,s,E⟩|⟨A1,l,E⟩
  ·rw[l,zV]
   dsimp only;rw[s,zV];exact n (i+1) _ _ _ (by omega) E
  ·rw[l,zV]
   dsimp only;exact n (i+1) _ _ _ (by omega) E
def ZK {nl:Nat}{j:jV}{ifs:Ev}{N:Nat}(hm:mi ρ A=.ok j A1)(g:j.len=N)
  (h:∀i ρ acc A,i<N->I i ρ acc A->∃w ρ1,j.at_ A i=some (some w)/\tw w ρ=some ρ1/\((∃A1 d b A2,ifs ρ1 A=.ok (.bl true) A1/\em ρ1 acc A1=.ok (d,b) A2/\I (i+1) d b A2)∨(∃A1,ifs ρ1 A=.ok (.bl false) A1/\I (i+1) ρ1 acc A1)))
  (H:∀ρ acc A,I N ρ acc A->j.at_ A N=some none)(h0:I 0 (JL nl cap ρ) [] A1):∃c a f,zR nl cap mi tw ifs em ρ A=.ok a f/\I N c a f:=by
 obtain⟨c,a,f,e,l⟩:=Ue h H N 0 _ _ _ (by omega) h0
 refine⟨c,a,f,?_,l⟩;unfold zR;rw[hm,zV,g,e]
 rfl
def kU {j:jV}{st:W->Ex}{N:Nat}{I:Nat->En->Hx->Prop}
  (H:∀i ρ A,i<N->I i ρ A->∃w ρ1 A1,j.at_ A i=some (some w)/\st w ρ A=.ok (.nx ρ1) A1/\I (i+1) ρ1 A1)(d:∀ρ A,I N ρ A->j.at_ A N=some none):
  ∀(f i:Nat)(ρ:En)(A:Hx),i+f=N->I i ρ A->∃a c,yI j st f i ρ A=.ok (.nx a) c/\I N a c:=by
 intro f
 induction f with
 |zero=>
  intro i ρ A h b
  have:i=N:=by omega
  subst this;exact⟨ρ,A,Px (d _ _ b),b⟩
 |succ f e=>
  intro i ρ A h b;obtain⟨w,ρ1,A1,n,l,g⟩:=H i ρ A (by omega) b
  rw[Ou n l];exact e (i+1) _ _ (by omega) g
def Zf {acc:List W}{y:W}(h:me ρ A=.ok y A1)(H:acc.length<zY):zN me ρ acc A=.ok (ρ,acc++[y]) A1:=by
 unfold zN;rw[h,zV,ah H]
theorem take_succ {l:List α}(h:i<l.length):l.take (i+1)=l.take i++[l[i]]:=by
 rw[List.take_succ,aa h];rfl
theorem Ext.set (x:Ext A B)(h:A.length<=n):Ext A (B.set n o):=by
 obtain⟨l,rfl⟩:=x;exact⟨l.set (n-A.length) o,by rw[List.set_append_right _ _ h]⟩
def Ext.app {l:Hx}(x:Ext A B):Ext A (B++l):=x.trans ⟨l,rfl⟩
def Ext.len (x:Ext A B):A.length<=B.length:=by obtain⟨l,rfl⟩:=x;simp
def Zg (h:A[n]? =some o):n<A.length:=(cq.mp h).1
end Mi
namespace G
open PySem L2 Mi
def Ql {w:W}(H:A[n]? =some (.lst ws))(h:ws[i]? =some w):((qb (.ref n) A).map λws=>ws[i]?)=some (some w):=by
 rw[Q0 H,h]
def Qi (H:A[n]? =some (.lst ws))(h:ws.length<=i):((qb (.ref n) A).map λws=>ws[i]?)=some none:=by
 rw[Q0 H,aF h]
theorem GP:∀(l:bQ)(m:Int),m<=yz l m/\∀x∈l,x<=yz l m
 |[],m=>⟨Int.le_refl _,λx h=>by cases h⟩|y::l,m=>by
  unfold yz
  split
  ·rename_i c
   obtain⟨b,a⟩:=GP l y;refine⟨by omega,λx H=>?_⟩
   rcases cn.mp H with rfl|H
   ·exact b
   ·exact a x H
  ·rename_i c
   obtain⟨b,a⟩:=GP l m;refine⟨b,λx H=>?_⟩;rcases cn.mp H with rfl|H
   ·omega
   ·exact a x H
theorem Pu:∀{l:List α}{k:Nat}{w:α},l[k]? =some w->l.Perm (w::l.eraseIdx k)
 |[],_,_,h=>by simp at h|x::l,0,w,h=>by
  simp at h;subst h;simp
 |x::l,k+1,w,h=>by
  rw[List.getElem?_cons_succ]at h;rw[List.eraseIdx_cons_succ];exact((Pu h).cons x).trans (List.Perm.swap w x _)
def Fz {k:Nat}{i:Int}{w:W}(h:A[n]? =some (.lst ws))(hw:ws[k]? =some w)(H:jP i=true)(e:seqIndex? i ws.length=some k):ZQ (.ref n) (.int i) A=.ok w (A.set n (.lst (ws.eraseIdx k))):=by
 unfold ZQ;dsimp only;rw[h];dsimp only;rw[ah H,e];dsimp only;rw[hw]
def hV {k:Nat}(h:k<n):seqIndex? (k:Int) n=some k:=by
 have:=PySem.StrLaws.seqIndex_nonneg (i:=(k:Int)) (n:=n) (by omega) (by omega)
 rw[aG]at this;exact this
def Ej {k:Nat}{w:W}(h:A[n]? =some (.lst ws))(hw:ws[k]? =some w)(H:k<1000000):ZQ (.ref n) (.int (k:Int)) A=.ok w (A.set n (.lst (ws.eraseIdx k))):=
 Fz h hw (G.wK H) (hV (cq.mp hw).1)
theorem P9 {β:Type}(f:α->β):∀(l:List α)(k:Nat),(l.map f).eraseIdx k=(l.eraseIdx k).map f
 |[],_=>rfl|_::_,0=>rfl|a::l,k+1=>by
  rw[aX,List.eraseIdx_cons_succ,List.eraseIdx_cons_succ,aX,P9 f l k]
def Jz {a b:Ev}{y:W}(c:a ρ A=.ok (.ref n) A)(d:A[n]? =some (.lst ws))(H:b ρ A=.ok y A1):yx g a b ρ A=g (.ref n) y A1:=by
 unfold yx;have h:Y3 (.ref n) A=true:=by unfold Y3;dsimp only;rw[d]
 rw[c,zV,ah h,H,zV]
def Gj {y:W}(h:A[n]? =some (.lst ws))(H:ws.length<1000):wa (.ref n) y A=.ok .non (A.set n (.lst (ws++[y]))):=by
 unfold wa;dsimp only;rw[h];dsimp only;rw[ah (by unfold zY;omega)]
def AS {f:Fn}{us:List W}{c C:Int}{b B:Bool}{w:W}(a:A[n]? =some (.lst [.int c,.bl b]))(H:ji us=true)(h:f (.ref 0::us) [.lst [.int c,.bl b]]=.ok w A1)(g:A1[0]? =some (.lst [.int C,.bl B]))(hw:w.nr=true):Z0 f (.ref n::us) A=.ok w (A.set n (.lst [.int C,.bl B])):=by
 unfold Z0;dsimp only;rw[a];dsimp only;have e:(ji [W.int c,W.bl b]&&ji us)=true:=by rw[H];rfl
 rw[ah e,h];dsimp only;rw[List.head?_eq_getElem?,g];dsimp only;have d:(ji [W.int C,W.bl B]&&w.nr)=true:=by rw[hw];rfl
 rw[ah d]
noncomputable abbrev iL (l:bU):List W:=l.map λ(a:Nat)=>W.int (a:Int)
def Dn {m:Ev}(h:m ρ A=.ok (.int (n:Int)) A1)(hn:n<=100):KR m ρ A=.ok (.ref A1.length) (A1++[.lst (iL (List.range n))]):=by
 unfold KR;rw[h,zV];dsimp only;rw[wK (by omega),aG,aB (by unfold zY;omega)]
 rfl
def Bb {m:Ev}{o:List α}{f:α->W}{G:α->W}(h:m ρ A=.ok (.tup (o.map f)) A)(H:o.length<=zY)(he:∀a∈o,me (some (f a)::cap.map λi=>(ρ[i]?).join) A=.ok (G a) A):
  zR 1 cap (qj m) (zG 0) zU (zN me) ρ A=.ok (o.map G) A:=by
 by_cases h0:o=[]
 ·subst h0
  have e:=w5 (cap:=cap) (me:=me) (ρ:=ρ) (A:=A) (N:=0) (item:=λ_=>.non) (g:=λ_=>.non) (Yu h) rfl (by unfold zY;omega) (λi hi=>by omega) rfl (λi hi=>by omega)
  exact e
 ·obtain⟨x,c⟩:∃x,x∈o:=List.exists_mem_of_ne_nil o h0
  have e:=w5 (cap:=cap) (me:=me) (ρ:=ρ) (A:=A) (N:=o.length) (item:=λi=>f (o.getD i x)) (g:=λi=>G (o.getD i x)) (Yu h) (ag ..) H
   (λi hi=>by show some (o.map f)[i]? =_;rw[aw,aa hi,ae,aa hi];rfl)
   (by show some (o.map f)[o.length]? =_;rw[aF (by rw[ag];exact av _)])
   (λi hi=>by
    have:o.getD i x=o[i]:=by rw[ae,aa hi];rfl
    rw[this];exact he _ (aN hi))
  rw[e]
  congr 1
  apply bC
  ·simp
  ·intro i d b
   have hi:i<o.length:=by simpa using b
   simp[ae,aa hi]
def Yd {β:Type}(o:List α)(x:α)(f:α->β):o.map f=(List.range o.length).map λi=>f (o.getD i x):=by
 apply bC
 ·simp
 ·intro i h H
  have hi:i<o.length:=by simpa using h
  simp[ae,aa hi]
def OV (q:∀r∈t,r.length=t.length){v:Int}(h:v∈t.flatten):∃a b,a<t.length/\b<t.length/\at2 t a b=v:=by
 obtain⟨r,H,e⟩:=List.mem_flatten.mp h;obtain⟨a,d,g⟩:=bM H;obtain⟨b,c,f⟩:=bM e;refine⟨a,b,d,by rw[<- q r H];exact c,?_⟩
 unfold at2;have E:t.getD a []=r:=by rw[ae,aa d];exact g
 rw[E,ae,aa c];exact f
def AH (q:∀r∈t,r.length=t.length){a b:Nat}(e:a<t.length)(d:b<t.length):∃r∈t,at2 t a b∈r/\at2 t a b∈t.flatten:=by
 have H:t.getD a []∈t:=yX e;have c:at2 t a b∈t.getD a []:=by
  unfold at2;have h:b<(t.getD a []).length:=by rw[q _ H];exact d
  rw[ae (l:=t.getD a []),aa h];exact aN _
 exact⟨_,H,c,List.mem_flatten.mpr ⟨_,H,c⟩⟩
def Uv {r:bQ}{x:Int}(h:x∈r):x<=wc r:=by
 cases r with
 |nil=>cases h|cons i is=>
  show x<=yz is i;rcases cn.mp h with rfl|h
  ·exact(GP is x).1
  ·exact(GP is i).2 x h
section
def G8 (h:qA t){a b:Nat}(d:a<t.length)(c:b<t.length):at2 t a b<qI t:=by
 obtain⟨r,H,e,_⟩:=AH h.sq d c;have f:=Uv e;have E:=Uv (cw.mpr ⟨r,H,rfl⟩:wc r∈t.map wc);unfold qI;omega
def Us (h:qA t):qI t-1∈t.flatten:=by
 obtain⟨r,H,e⟩:=cw.mp (KL h.map_ne)
 have:qI t-1=wc r:=by unfold qI;omega
 rw[this];exact List.mem_flatten.mpr ⟨r,H,KL (h.row_ne H)⟩
def hW (h:qA t):qI t<=(t.length:Int):=by
 obtain⟨r,a,H⟩:=List.mem_flatten.mp (Us h)
 have:=h.lo r a _ H
 omega
def G4 (h:qA t){v:Nat}(H:(v:Int)<qI t):∃a b,a<t.length/\b<t.length/\at2 t a b=(v:Int):=by
 by_cases e:(v:Int)=qI t-1
 ·rw[e];exact OV h.sq (Us h)
 ·exact OV h.sq (h.fu v ⟨_,Us h,by omega⟩)
noncomputable def jC (p:bU):bQ:=0::p.map λ(k:Nat)=>1+(k:Int)
def gh (t:bP)(p o:bU):bP:=o.map λa=>o.map λb=>(jC p).getD (at2 t a b).toNat 0
def YC {p:bU}{v:Nat}(H:1<=v)(h:v<=p.length):(jC p).getD v 0=1+((p[v-1]'(by omega):Nat):Int):=by
 obtain⟨v,rfl⟩:∃u,v=u+1:=⟨v-1,by omega⟩
 unfold jC;rw[ae,List.getElem?_cons_succ,aw,aa (by omega)]
 rfl
def PV (h:qA t){p o:bU}(n:p.Perm (List.range (qI t-1).toNat))(f:o.Perm (List.range t.length)):qA (gh t p o)/\(gh t p o).length=t.length:=by
 have l:o.length=t.length:=by rw[f.length_eq,aJ]
 have N:=kP h;have K:=hW h;have A:p.length=(qI t-1).toNat:=by rw[n.length_eq,aJ]
 have n1:=h.n1;have H:∀i,o.getD i 0<t.length:=λi=>by
  by_cases hi:i<o.length
  ·rw[ae,aa hi]
   exact cu.mp (f.mem_iff.mp (aN hi))
  ·rw[ae,aF (by omega)]
   exact n1
 have u:o.Nodup:=(f.nodup_iff).mpr List.nodup_range;have r:∀a,a<t.length->∃i,i<t.length/\o.getD i 0=a:=λa y=>by
  obtain⟨i,hi,e⟩:=bM (f.mem_iff.mpr (cu.mpr y));exact⟨i,by omega,by rw[ae,aa hi];exact e⟩
 have c:∀q (g:q<p.length),p[q]<p.length:=λq g=>by
  have:=cu.mp (n.mem_iff.mp (aN g))
  omega
 have M:Mu t.length (λi j=>(jC p).getD (at2 t (o.getD i 0) (o.getD j 0)).toNat 0) p.length (λ_ _=>True):=by
  refine⟨λi=>?_,λi j=>?_,λi j B z _=>?_,λi j _ _ hn=>absurd trivial hn,λk k1 L=>?_⟩
  ·show(jC p).getD (at2 t (o.getD i 0) (o.getD i 0)).toNat 0=0
   rw[(h.dg _ _ (H i) (H i)).mpr rfl]
   rfl
  ·show(jC p).getD (at2 t (o.getD i 0) (o.getD j 0)).toNat 0=(jC p).getD (at2 t (o.getD j 0) (o.getD i 0)).toNat 0
   rw[h.sy _ _ (H i) (H j)]
  ·show 1<=(jC p).getD (at2 t (o.getD i 0) (o.getD j 0)).toNat 0/\(jC p).getD (at2 t (o.getD i 0) (o.getD j 0)).toNat 0<=(p.length:Int)
   have s:o.getD i 0≠o.getD j 0:=by
    have x:i<o.length:=by omega
    have w:j<o.length:=by omega
    rw[ae,aa x,ae,aa w];intro e;have J:o[i]=o[j]:=e
    have:=(getElem_inj u).mp J
    omega
   have d:=h.dg _ _ (H i) (H j);have S:=Je h (H i) (H j);have Q:=G8 h (H i) (H j);have P:at2 t (o.getD i 0) (o.getD j 0)≠0:=λe=>s (d.mp e);rw[YC (by omega) (by omega)]
   have:=c ((at2 t (o.getD i 0) (o.getD j 0)).toNat-1) (by omega)
   omega
  ·obtain⟨q,g,e⟩:=bM (n.mem_iff.mpr (cu.mpr (by omega:k-1<(qI t-1).toNat)))
   obtain⟨a,b,y,C,I⟩:=G4 h (v:=q+1) (by omega)
   obtain⟨i,hi,D⟩:=r a y;obtain⟨j,z,E⟩:=r b C;refine⟨i,j,hi,z,?_⟩;show(jC p).getD (at2 t (o.getD i 0) (o.getD j 0)).toNat 0=(k:Int);rw[D,E,I,aG,YC (by omega) (by omega)]
   have:p[q+1-1]'(by omega)=k-1:=e
   rw[this];omega
 have T:gh t p o=yk t.length (λi j=>(jC p).getD (at2 t (o.getD i 0) (o.getD j 0)).toNat 0):=by
  unfold gh yk;rw[Yd o 0,l]
  congr 1
  funext i
  rw[Yd o 0 (λb=>(jC p).getD (at2 t (o.getD i 0) b).toNat 0),l]
 refine⟨?_,by unfold gh;rw[ag,l]⟩
 rw[T];exact M.tab (λ_ _ _ _=>trivial) n1 h.n8 (.inr (by omega))
end
end G
namespace Mi
open PySem L2
def BW {r b:Nat}{v:W}(h:A[r]? =some (.lst ws))(H:b<ws.length):gF (.ref r) (.int (b:Int)) v A=.ok () (A.set r (.lst (ws.set b v))):=by
 have e:Zb ws.length (b:Int)=some b:=by unfold Zb;rw[ah (by omega),ah (by omega),aG]
 unfold gF;dsimp only;rw[h];dsimp only;rw[e]
structure Kp (n:Nat)(A B:Hx):Prop where
 len:A.length<=B.length
 at_:∀i,i<A.length->i≠n->B[i]? =A[i]?
section
variable {C:Hx}
def Kp.refl:Kp n A A:=⟨av _,λ_ _ _=>rfl⟩
theorem Kp.trans (a:Kp n A B)(b:Kp n B C):Kp n A C:=⟨bq a.len b.len,λi H h=>(b.at_ i (aE H a.len) h).trans (a.at_ i H h)⟩
theorem Kp.set:Kp n A (A.set n o):=⟨by rw[length_set];exact av _,λi _ h=>aI (Ne.symm h)⟩
def Kp.ext (x:Ext A B):Kp n A B:=by
 obtain⟨l,rfl⟩:=x;exact⟨by simp,λi h _=>ai h⟩
def Kp.put (a:Kp n A B){k:Nat}(h:A.length<=k):Kp n A (B.set k o):=⟨by rw[length_set];exact a.len,λi b H=>by rw[aI (by omega)];exact a.at_ i b H⟩
def Kp.get (a:Kp n A B)(h:A[i]? =some o)(hn:i≠n):B[i]? =some o:=by rw[a.at_ i (Zg h) hn];exact h
end
def V2:(yk n μ).length=n:=by unfold yk;simp
def BH:∀r∈yk n μ,r.length=(yk n μ).length:=λr h=>by
 obtain⟨i,_,rfl⟩:=cw.mp h;rw[V2];simp
end Mi
namespace G
open PySem L2 Mi
section
abbrev Sq (t:bP):Prop:=∀r∈t,r.length=t.length
end
def Tw (t:bP):Bool:=decide (1<=t.length)&&(decide (t.length<=8)&&((t.all λr=>r.length==t.length&&r.all λv=>decide (0<=v)&&decide (v<(t.length:Int)))&&
 (((List.range t.length).all λa=>(List.range t.length).all λb=>(decide (at2 t a b=0)==decide (a=b))&&decide (at2 t a b=at2 t b a))&&(List.range 8).all λk=>!(t.flatten.any λv=>decide ((k:Int)<v)) || t.flatten.contains (k:Int))))
def Yt (h:Tw t=true):qA t:=by
 unfold Tw at h;rw[ak,ak,ak,ak,aj,aj]at h;obtain⟨n1,n8,i,s,hf⟩:=h;have rw_:∀r∈t,r.length=t.length/\∀v∈r,0<=v/\v<(t.length:Int):=λr hm=>by
  have:=cx.mp i r hm
  rw[ak,aM]at this;refine⟨this.1,λv d=>?_⟩
  have:=cx.mp this.2 v d
  rw[ak,aj,aj]at this;exact this
 have at_:∀a b,a<t.length->b<t.length->(decide (at2 t a b=0)==decide (a=b))=true/\at2 t a b=at2 t b a:=λa b c H=>by
  have:=cx.mp (cx.mp s a (cu.mpr c)) b (cu.mpr H)
  rw[ak,aj]at this;exact this
 refine⟨n1,n8,λr hm=>(rw_ r hm).1,λr hm=>(rw_ r hm).2,λa b c H=>?_,λa b c H=>(at_ a b c H).2,λk j=>?_⟩
 ·have:=aM.mp (at_ a b c H).1
  by_cases q:a=b
  ·rw[aB q]at this;exact⟨λ_=>q,λ_=>of_decide_eq_true this⟩
  ·rw[az q]at this;exact⟨λz=>absurd z (of_decide_eq_false this),λz=>absurd z q⟩
 ·obtain⟨v,d,f⟩:=j
  obtain⟨r,hm,e⟩:=List.mem_flatten.mp d
  have:=(rw_ r hm).2 v e
  have g:=cx.mp hf k (cu.mpr (by omega))
  rw[bx]at g;rcases g with z|z
  ·exfalso
   have:(t.flatten.any λv=>decide ((k:Int)<v))=true:=List.any_eq_true.mpr ⟨v,d,aB f⟩
   rw[this]at z;cases z
  ·exact List.contains_iff_mem.mp z
def Zx (t:bP):((zt t).nr&&true)=true:=by rw[QY];rfl
noncomputable def ZF:W->Bool
 |.int _=>true|_=>false
def ZS {m:Ev}{w:W}{ty c:Ty}(h:m ρ A=.ok w A1)(H:jY w A1=some ty):yJ c m ρ A=.ok (.bl (kA ty c)) A1:=by
 unfold yJ;rw[h,zV,H]
def Xd (h:ρ[i]? =some (some (.tup ws))):mQ qZ (qw (qd i)) ρ A=.ok (.int ws.length) A:=by
 rw[j6 (kY (w:=.tup ws) (A1:=A) (zq h) rfl)]
 rfl
def Fs (i:Int)(A:Hx):QN [.int i] A=.ok (.bl true) A:=by
 unfold QN Ge;exact qO (w:=.bl true) (A1:=A) rfl
def Be {r:bQ}(h:r.length<=8)(A:Hx):Yh [zr r,.int r.length] A=.ok (.bl true) A:=by
 unfold Yh W7;refine qO ?_;unfold VE;refine qx (qW ?_);refine(gB (A1:=A) rfl).trans ?_;have e:mQ qZ (qw zo) [some (zr r),some (.int r.length)] A=.ok (.int r.length) A:=by
  rw[j6 (kY (w:=zr r) (A1:=A) (zq rfl) rfl)];unfold qZ;rw[ag]
 refine(gB (A1:=A) ((zO e (zq (i:=1) rfl)).trans ((Y4 _ _ _).trans (by rw[aB rfl])))).trans ?_
 have E:=QS (cap:=[]) (A:=A) (ρ:=[some (zr r),some (.int r.length)]) (ws:=r.map W.int) (me:=zJ QN (zc zo zl)) (g:=λ_=>.bl true) (zq (i:=0) rfl) (by rw[ag];unfold zY;omega) (λw hw=>by
  obtain⟨i,_,rfl⟩:=cw.mp hw;exact(qg (ws:=[.int i]) (A1:=A) rfl).trans (Fs i A))
 exact(j6 E).trans (KU (p:=λ_=>true) λ_ _=>rfl)
def BC {r:bQ}(l:r.length<=8)(H:∀v∈r,0<=v/\v<r.length)(A:Hx):QG [zr r,.int r.length,.int r.length] A=.ok (.bl true) A:=by
 unfold QG WI;refine qO ?_;unfold Vb;refine qx (qW ?_);refine(gB (A1:=A) ((qg (ws:=[zr r,.int r.length]) (A1:=A) rfl).trans (Be l A))).trans ?_;have e:=QS (cap:=[2]) (A:=A) (ρ:=[some (zr r),some (.int r.length),some (.int r.length)]) (ws:=r.map W.int) (me:=yZ kG kF (zW (.int 0)) (qd 0) (qd 1)) (g:=λ_=>.bl true) (zq (i:=0) rfl) (by rw[ag];unfold zY;omega) (λw hw=>by
  obtain⟨v,h,rfl⟩:=cw.mp hw;obtain⟨b,a⟩:=H v h;unfold yZ;rw[qE,zV,zq (i:=0) (w:=.int v) rfl,zV];show R.bind (R.ok (W.bl (decide ((0:Int)<=v))) A) _=_;rw[aB b,zV];dsimp only;rw[zq (i:=1) (w:=.int r.length) rfl,zV];show R.ok (W.bl (decide (v<(r.length:Int)))) A=_;rw[aB a])
 exact(j6 e).trans (KU (p:=λ_=>true) λ_ _=>rfl)
def hX (h:qA t)(A:Hx):VV [zt t] A=.ok (.bl true) A:=by
 refine gR (A1:=[]) (Zx t) rfl (qO ?_);unfold PL;obtain⟨d,e,_⟩:=P6 (A:=[]) (N:=t.length) (item:=λi=>.tup [.int i,zr (t.getD i [])]) (I:=λρ=>∃n g Y y,ρ=[some (zt t),n,g,Y,y])
  (j:=kR (zt t) (t.map zr).length) (st:=turn (jx 1 2) (zp (jL (wB zL) (jx 3 4) (zp (qy (kE (zi jb (zi jv qB zI) (zi jv zw zX)) (zi jb (zi zD (zi zD zo zX) zw) qB)) yB zA) zA)) zA))
  (λi hi=>YO (K5 hi)) (by have:=YF (A:=[]) (ws:=t.map zr);rw[ag]at this;rw[ag];exact this) (λa f ρ H=>by
   obtain⟨n,g,Y,y,rfl⟩:=H;have l:=h.sq _ (yX f);obtain⟨o,E,p,Z,r⟩:=P6 (A:=[]) (N:=t.length) (item:=λi=>.tup [.int i,.int ((t.getD a []).getD i 0)]) (I:=λρ=>∃Y y,ρ=[some (zt t),some (.int a),some (zr (t.getD a [])),Y,y])
    (j:=kR (zr (t.getD a [])) ((t.getD a []).map W.int).length) (st:=turn (jx 3 4) (zp (qy (kE (zi jb (zi jv qB zI) (zi jv zw zX)) (zi jb (zi zD (zi zD zo zX) zw) qB)) yB zA) zA))
    (λi hi=>YO (int_at (by omega)))
    (by have:=YF (A:=[]) (ws:=(t.getD a []).map W.int);rw[ag,l]at this;rw[ag,l];exact this)
    (λb c ρ H=>by
     obtain⟨Y,y,rfl⟩:=H;refine⟨[some (zt t),some (.int a),some (zr (t.getD a [])),some (.int b),some (.int ((t.getD a []).getD b 0))],?_,_,_,rfl⟩;refine(kq rfl).trans ?_;refine(zE ((jA (A1:=[]) ?_).trans rfl)).trans rfl;have v:zi jb (zi jv qB zI) (zi jv zw zX) [some (zt t),some (.int a),some (zr (t.getD a [])),some (.int b),some (.int ((t.getD a []).getD b 0))] []=.ok (.bl false) []:=by
      refine(zO ((zO (zq (i:=4) rfl) (qE (w:=.int 0))).trans (Y4 _ _ _)) ((zO (zq (i:=1) rfl) (zq (i:=3) rfl)).trans (Y4 _ _ _))).trans ((ML _ _ _).trans ?_);have hd:(t.getD a []).getD b 0=0↔a=b:=h.dg a b f c
      have:decide ((t.getD a []).getD b 0=0)=decide ((a:Int)=(b:Int)):=by
       by_cases q:a=b
       ·rw[aB (hd.mpr q),aB (by omega)]
       ·rw[az (λz=>q (hd.mp z)),az (by omega)]
      rw[this];simp
     have E:zi jb (zi zD (zi zD zo zX) zw) qB [some (zt t),some (.int a),some (zr (t.getD a [])),some (.int b),some (.int ((t.getD a []).getD b 0))] []=.ok (.bl false) []:=by
      have u:=h.sq _ (yX c);refine(zO ((zO ((zO (zq (i:=0) rfl) (zq (i:=3) rfl)).trans (Q4 c)) (zq (i:=1) rfl)).trans (Qj (by omega))) (zq (i:=4) rfl)).trans ((My _ _ _).trans ?_)
      have s:(t.getD b []).getD a 0=(t.getD a []).getD b 0:=(h.sy a b f c).symm;rw[s,aB rfl]
      rfl
     exact(YQ v).trans E) t.length 0 [some (zt t),some (.int a),some (zr (t.getD a [])),Y,y] (by omega) ⟨_,_,rfl⟩
   refine⟨[some (zt t),some (.int a),some (zr (t.getD a [])),p,Z],?_,_,_,_,_,rfl⟩;refine(kq rfl).trans ?_;rw[r]at E;have hlen:((t.getD a []).map W.int).length=t.length:=by rw[ag,l]
   refine(zE ((wt (Yl (zq (i:=2) rfl))).trans ?_)).trans rfl;show yI (kR (zr (t.getD a [])) ((t.getD a []).map W.int).length) _ ((t.getD a []).map W.int).length 0 _ _=_;rw[hlen]at E ⊢;exact E) t.length 0 [some (zt t),none,none,none,none] (by omega) ⟨_,_,_,_,rfl⟩
 refine(zE (ρ1:=d) (A1:=[]) ((wt (Yl (zq (i:=0) rfl))).trans ?_)).trans (qx rfl);show yI (kR (zt t) (t.map zr).length) _ (t.map zr).length 0 _ _=_;have hlen:(t.map zr).length=t.length:=ag ..;rw[hlen]at e ⊢;exact e
def AM (h:qA t)(A:Hx):X7 [zt t] A=.ok (.bl true) A:=by
 have f:=CB h;have c:t.flatten≠[]:=by
  intro e;have u:=h.n1;have b:=h.sq _ (yX (t:=t) (a:=0) (by omega))
  have:t.getD 0 []=[]:=by
   have:=List.flatten_eq_nil_iff.mp e _ (yX (t:=t) (a:=0) (by omega))
   exact this
  rw[this]at b;simp at b;omega
 obtain⟨v0,l,E⟩:=List.exists_cons_of_ne_nil c;refine gR (A1:=[.lst (t.flatten.map W.int)]) (Zx t) rfl (qO ?_);unfold T9;refine(zE (qz (kJ (A9 (zq rfl) (by unfold zY;omega))))).trans (qx (qW ?_))
 generalize o:[O.lst (t.flatten.map W.int)]=B;have s:qb (.ref 0) B=some (t.flatten.map W.int):=by rw[<- o];rfl
 have em:mQ yj (qw zw) [some (zt t),some (.ref 0)] B=.ok (.int (yz l v0)) B:=by
  rw[j6 (kY (w:=.ref 0) (A1:=B) (zq rfl) s)];unfold yj;rw[QK,E]
 have H:yz l v0∈t.flatten:=by
  rw[E];rcases V5 l v0 with e|e
  ·rw[e];exact ax ..
  ·exact ao _ e
 have d:0<=yz l v0/\yz l v0<8:=by
  obtain⟨r,b,v⟩:=List.mem_flatten.mp H
  have:=h.lo r b _ v
  have:=h.n8
  omega
 generalize yz l v0=M at em H d;obtain⟨K,rfl⟩:=aY d.1;have q:=w5 (cap:=[1]) (me:=zi XT zo zw) (ρ:=[some (zt t),some (.ref 0)]) (A:=B) (N:=K) (j:=yd 0 K) (item:=λi=>.int (0+i)) (g:=λ_=>.bl true)
  ((gy em (by unfold jP;simp;omega)).trans (by rw[aG])) rfl (by unfold zY;omega) (λi hi=>yQ hi) (yP (by omega))
  (λi hi=>by
   refine(zO (zq (i:=0) (w:=.int (0+i)) rfl) (zq (i:=1) (w:=.ref 0) rfl)).trans ?_;show J0 false _ _ _=_;unfold J0;rw[s];dsimp only;have hf:(gT (.int (0+(i:Int)))&&(t.flatten.map W.int).all gT)=true:=by
    have:(t.flatten.map W.int).all gT=true:=cx.mpr λw hw=>by obtain⟨x,_,rfl⟩:=cw.mp hw;rfl
    rw[this];rfl
   rw[ah hf];have n:Y6 (.int (0+(i:Int))) (t.flatten.map W.int)=true:=by
    unfold Y6;refine List.any_eq_true.mpr ⟨.int i,cw.mpr ⟨(i:Int),h.fu i ⟨_,H,by omega⟩,rfl⟩,?_⟩
    show((i:Int)==0+(i:Int))=true;rw[bo];exact bE _
   rw[n]
   rfl)
 refine(j6 q).trans ?_;exact KU (p:=λ_=>true) λ_ _=>rfl
def AL (h:qA t)(A:Hx):ZJ [zt t] A=.ok (.bl true) A:=by
 have n1:=h.n1;have n8:=h.n8;unfold ZJ Kr;refine qO ?_;unfold Gi;have e:∀ρ:En,mQ qZ (qw (qd 0)) (some (zt t)::ρ) A=.ok (.int t.length) A:=λρ=>by
  rw[j6 (kY (w:=zt t) (A1:=A) (zq rfl) rfl)];unfold qZ;rw[ag]
 refine(zE (ρ1:=[some (zt t),none]) (A1:=A) ((jA (A1:=A) ?_).trans rfl)).trans ?_
 ·refine(YQ (A1:=A) rfl).trans ?_
  refine yY (k:=true) ?_;show yZ kG kG (zW (.int 1)) (mQ qZ (qw (qd 0))) (zW (.int 8)) [some (zt t),none] A=_;unfold yZ;rw[qE,zV,e,zV];show R.bind (R.ok (W.bl (decide ((1:Int)<=t.length))) A) _=_;rw[aB (by omega),zV]
  dsimp only;rw[qE,zV];show R.ok (W.bl (decide ((t.length:Int)<=8))) A=_;rw[aB (by omega)]
 refine(zE (qz (e _))).trans ?_;have E:=QS (cap:=[1]) (A:=A) (ρ:=[some (zt t),some (.int t.length)]) (ws:=t.map zr) (me:=zJ QG (zc (qd 0) (zc (qd 1) (zc (qd 1) zl)))) (g:=λ_=>.bl true) (zq (i:=0) rfl) (by rw[ag];unfold zY;omega) (λw hw=>by
  obtain⟨r,H,rfl⟩:=cw.mp hw;have l:=h.sq r H;refine(qg (ws:=[zr r,.int t.length,.int t.length]) (A1:=A) rfl).trans ?_;rw[<- l];exact BC (by omega) (λv a=>by have:=h.lo r H v a;omega) A)
 refine(zE (ρ1:=[some (zt t),some (.int t.length)]) (A1:=A) ((jA (A1:=A) (yY (k:=true) ((j6 E).trans (KU (p:=λ_=>true) λ_ _=>rfl)))).trans rfl)).trans (qx (qW ?_));refine(gB (A1:=A) ((qg (ws:=[zt t]) (A1:=A) rfl).trans (hX h A))).trans ?_;exact(qg (ws:=[zt t]) (A1:=A) rfl).trans (AM h A)
end G
namespace Mi
open PySem L2
theorem W5:∀(l m:bQ),PyData.eqvAll (l.map PyData.int) (m.map PyData.int)=decide (l=m)
 |[],[]=>by simp[PyData.eqvAll]|[],_::_=>by simp[PyData.eqvAll]|_::_,[]=>by simp[PyData.eqvAll]|a::l,b::m=>by
  simp only[aX,PyData.eqvAll,W5 l m,PyData.eqv];rw[Bool.eq_iff_iff];simp
theorem PK:∀l:bQ,yu (qk A n) (l.map W.int)=some (l.map PyData.int)
 |[]=>rfl|i::l=>by
  have:qk A n (.int i)=some (.int i):=by cases n<;>rfl
  show(match qk A n (.int i),yu (qk A n) (l.map W.int) with|some d,some ds=>some (d::ds)|_,_=>none)=_
  rw[this,PK l]
  rfl
def K4 {r:Nat}(h:A[r]? =some (.lst (l.map W.int))):qk A 8 (.ref r)=some (.list (l.map PyData.int)):=by
 show(match qb (.ref r) A with|some ws=>(yu (qk A 7) ws).map PyData.list|none=>none)=_
 have:qb (.ref r) A=some (l.map W.int):=by unfold qb;dsimp only;rw[h]
 rw[this];dsimp only;rw[PK]
 rfl
def hZ {r s:Nat}{m:bQ}(h:A[r]? =some (.lst (l.map W.int)))(H:A[s]? =some (.lst (m.map W.int))):jv (.ref r) (.ref s) A=.ok (.bl (decide (l=m))) A:=by
 show wD false _ _ A=_;unfold wD;rw[K4 h,K4 H];dsimp only;rw[PyData.eqv,W5]
 rfl
def Ky (A B:Hx):Prop:=∀w ty,jY w A=some ty->jY w B=some ty
def Ext.ky (x:Ext A B):Ky A B:=λw ty h=>by
 cases w with
 |ref n=>
  unfold jY at h ⊢;dsimp only at h ⊢;cases e:A[n]? with
  |none=>rw[e]at h;cases h|some o=>rw[e]at h;rw[x.at e];exact h
 |_=>exact h
def Ky.trans {C:Hx}(a:Ky A B)(b:Ky B C):Ky A C:=λw ty h=>b w ty (a w ty h)
section
def UK:jY (.ref A.length) (A++[.lst ws])=some .lst:=by
 unfold jY;dsimp only;rw[qY]
end
structure Kn (n:Nat)(A B:Hx):Prop where
 kp:Kp n A B
 st:G.ju n B
def _root_.G.ju.ty (h:G.ju n A):jY (.ref n) A=some .lst:=by
 obtain⟨c,b,e,_⟩:=h;unfold jY;dsimp only;rw[e]
def _root_.G.ju.lt (h:G.ju n A):n<A.length:=by
 obtain⟨c,b,e,_⟩:=h;exact Zg e
def _root_.G.ju.ext (h:G.ju n A)(x:Ext A B):G.ju n B:=by
 obtain⟨c,b,e,r⟩:=h;exact⟨c,b,x.at e,r⟩
def _root_.G.ju.put {k:Nat}(h:G.ju n A)(H:k≠n):G.ju n (A.set k o):=by
 obtain⟨c,b,e,r⟩:=h;exact⟨c,b,by rw[aI H];exact e,r⟩
def Kn.ky (s:G.ju n A)(k:Kn n A B):Ky A B:=λw ty h=>by
 cases w with
 |ref i=>
  by_cases q:i=n
  ·subst q
   rw[s.ty]at h;rw[k.st.ty];exact h
  ·unfold jY at h ⊢
   dsimp only at h ⊢
   by_cases z:i<A.length
   ·rw[k.kp.at_ i z q];exact h
   ·rw[aF (by omega)]at h;cases h
 |_=>exact h
theorem Kn.trans {C:Hx}(a:Kn n A B)(b:Kn n B C):Kn n A C:=⟨a.kp.trans b.kp,b.st⟩
theorem Kn.ext (s:G.ju n A)(x:Ext A B):Kn n A B:=⟨Kp.ext x,s.ext x⟩
end Mi
namespace G
open PySem L2 Mi
def Nq (h:ju n A){m:Int}(c:0<m)(H:m<1000000000000000):∃(r:Nat) (B:Hx),yN [.ref n,.int m] A=.ok (.int r) B/\(r:Int)<m/\Kn n A B/\B.length=A.length:=by
 obtain⟨r,o,e,a,b,s⟩:=Nw h c H;exact⟨r.toNat,A.set n o,by rw[e,Int.toNat_of_nonneg a],by omega,⟨Kp.set,s⟩,length_set ..⟩
def JE {m:Int}(h:ju n A)(h0:ρ[0]? =some (some (.ref n)))(hm:me ρ A=.ok (.int m) A)(b:0<m)(H:m<1000000000000000):∃(r:Nat) (B:Hx),zJ yN (zc zo (zc me zl)) ρ A=.ok (.int r) B/\(r:Int)<m/\Kn n A B/\B.length=A.length:=by
 obtain⟨r,B,e,a⟩:=Nq h b H;exact⟨r,B,(qg (zQ (zq h0) (zQ hm qc))).trans e,a⟩
def Tj {ty:Ty}(h:ty≠.tup):kA ty .tup=false:=by
 cases ty<;>first|rfl|exact absurd rfl h
def gm (A:Hx)(w:W):Prop:=∀B,Ky A B->ZJ [w] B=.ok (.bl false) B
def gm.mono {w:W}(k:Ky A B)(h:gm A w):gm B w:=λC q=>h C (k.trans q)
def Mc {w:W}{ty:Ty}(h:jY w A=some ty)(hn:ty≠.tup):gm A w:=λB k=>by
 unfold ZJ Kr;refine qO ?_;unfold Gi;have e:yJ .tup zo [some w,none] B=.ok (.bl false) B:=(ZS (zq rfl) (k _ _ h)).trans (by rw[Tj hn])
 have E:kE (yf (yJ .tup zo)) (yf (yZ kG kG zM (mQ qZ (qw zo)) yV)) [some w,none] B=.ok (.bl true) B:=by
  unfold kE;rw[yY e,zV]
  rfl
 exact qx ((yo E).trans (qx (qW qE)))
def h7 (h:jY (.ref j) A=some .lst):gm A (.tup [.ref j]):=λB k=>by
 unfold ZJ Kr;refine qO ?_;unfold Gi;have H:=k _ _ h;have e:Yh [.ref j,.int 1] B=.ok (.bl false) B:=by
  unfold Yh W7;refine qO ?_;unfold VE;exact qx (qW (Q8 ((ZS (zq rfl) H).trans rfl)))
 have b:QG [.ref j,.int 1,.int 1] B=.ok (.bl false) B:=by
  unfold QG WI;refine qO ?_;unfold Vb;exact qx (qW (Q8 ((qg (ws:=[.ref j,.int 1]) (A1:=B) rfl).trans e)))
 have E:=QS (cap:=[1]) (A:=B) (ρ:=[some (.tup [.ref j]),some (.int 1)]) (ws:=[.ref j]) (me:=zJ QG (zc zo (zc zw (zc zw zl)))) (g:=λ_=>.bl false) (zq (i:=0) rfl) (by simp[zY]) (λw hw=>by
  rw[cy.mp hw];exact(qg (ws:=[.ref j,.int 1,.int 1]) (A1:=B) rfl).trans b)
 refine(zE (ρ1:=[some (.tup [.ref j]),none]) (A1:=B) rfl).trans ((zE (ρ1:=[some (.tup [.ref j]),some (.int 1)]) (A1:=B) rfl).trans ?_);exact qx ((yo (yY (k:=false) ((j6 E).trans rfl))).trans (qx (qW qE)))
def ET (m:Ev)(ρ:En):Prop:=∀A,∃w A1,m ρ A=.ok w A1/\Ext A A1/\gm A1 w
def AT (a:Ea)(ρ:En)(k:Nat):Prop:=∀A,∃ws A1,a ρ A=.ok ws A1/\Ext A A1/\ws.length=k/\∀w∈ws,gm A1 w
section
variable {m:Ev}{a:Ea}{k:Nat}{w:W}
def G3:AT zl ρ 0:=λA=>⟨[],A,rfl,Ext.refl,rfl,λ_ h=>by cases h⟩
def yD (h:ET m ρ)(t:AT a ρ k):AT (zc m a) ρ (k+1):=λA=>by
 obtain⟨w,A1,E,x1,c⟩:=h A;obtain⟨ws,A2,e,x2,l,b⟩:=t A1;refine⟨w::ws,A2,zQ E e,x1.trans x2,by rw[a9,l],λy H=>?_⟩
 rcases cn.mp H with rfl|H
 ·exact c.mono x2.ky
 ·exact b y H
def ka (h:∀A,m ρ A=.ok w A)(hf:∀B,ZJ [w] B=.ok (.bl false) B:=by intro B;kernel_rfl):ET m ρ:=λA=>⟨w,A,h A,Ext.refl,λB _=>hf B⟩
def h9:ET Jk ρ:=λA=>⟨.ref A.length,A++[.dct []],rfl,Ext.one,Mc (ty:=.dct) (by unfold jY;dsimp only;rw[qY]) (by decide)⟩
end
section
variable {a:Ea}{k:Nat}
structure TL (A:Hx)(r k:Nat)(B:Hx):Prop where
 at_:∃ws,B[r]? =some (.lst ws)/\ws.length=k/\∀w∈ws,gm B w
 nw:A.length<=r
 ext:Ext A B
def ia (h:AT a ρ k)(A:Hx):∃r B,zZ a ρ A=.ok (.ref r) B/\TL A r k B:=by
 obtain⟨ws,A1,e,x,l,hw⟩:=h A;exact⟨_,_,j9 e,⟨ws,qY,l,λw H=>(hw w H).mono Ext.one.ky⟩,x.len,x.app⟩
def UP {r:Nat}(t:TL A r j B)(h:AT a ρ k)(hi:ρ[i]? =some (some (.ref r)))(d:j+k<=100):∃b C,zi qh (qd i) (zZ a) ρ B=.ok (.ref b) C/\TL A b (j+k) C:=by
 obtain⟨ws,e,l,hw⟩:=t.at_;obtain⟨us,c,E,x1,L,u⟩:=h B;have x2:Ext B (c++[.lst us]):=x1.app;refine⟨_,_,(zO (zq hi) (j9 E)).trans (Gu (x2.at e) qY (by unfold zY;omega)),⟨ws++us,qY,by rw[aq,l,L],λw H=>?_⟩,?_,(t.ext.trans x2).app⟩
 ·rcases List.mem_append.mp H with q|q
  ·exact(hw w q).mono (x2.app).ky
  ·exact(u w q).mono (Ext.one.trans Ext.one).ky
 ·have:=t.ext.len
  have:=x2.len
  omega
def BO {r:Nat}{m:Int}{mm:Ev}(s:ju n A)(t:TL A r k B)(hi:ρ[i]? =some (some (.ref r)))(h0:ρ[0]? =some (some (.ref n)))(hm:∀A,mm ρ A=.ok (.int m) A)(b:(k:Int)=m)(a:0<m)(d:m<1000):∃w C,zi zD (qd i) (zJ yN (zc zo (zc mm zl))) ρ B=.ok w C/\gm C w/\Kn n A C:=by
 obtain⟨ws,e,l,hw⟩:=t.at_;have sB:=s.ext t.ext;obtain⟨j,C,E,c,K,_⟩:=JE sB h0 (hm B) a (by omega)
 have h:j<ws.length:=by omega
 have H:r≠n:=by have:=s.lt;have:=t.nw;omega
 refine⟨ws[j],C,(zO (zq hi) E).trans (wM (K.kp.get e H) (aa h)),(hw _ (aN h)).mono (K.ky sB),(Kn.ext s t.ext).trans K⟩
end
def ib (s:ju n A):∃w B,Jo [.ref n] A=.ok w B/\gm B w/\Kn n A B:=by
 unfold Jo Vc;unfold Ss;have E:∀ρ,ET (zZ (zc (zZ (zc zI zl)) zl)) ρ:=λρ A=>⟨_,_,j9 (zQ (j9 (zQ qE qc)) qc),Ext.one.app,Mc UK (by decide)⟩
 have e:∀ρ,ET (zB (zc (zZ (zc zI zl)) zl)) ρ:=λρ A=>⟨_,_,Zk (zQ (j9 (zQ qE qc)) qc),Ext.one,h7 UK⟩;obtain⟨d,u,l,t1⟩:=ia (k:=11) (ρ:=[some (.ref n),none]) (a:=zc yi (zc zI (zc (zB zl) (zc (zB (zc (zB zl) zl)) (zc (zB (zc (zB (zc zM zl)) zl)) (zc (zZ (zc (zZ (zc zI zl)) zl)) (zc (zB (zc (zZ (zc zI zl)) zl)) (zc (zB (zc (zB (zc zI zl)) (zc (zB (zc zI zl)) zl))) (zc (zB (zc (zB (zc zI (zc zM zl))) (zc (zB (zc ql (zc zI zl))) zl))) (zc (zB (zc (zB (zc zI (zc ql zl))) (zc (zB (zc ql (zc zI zl))) zl))) (zc Jk zl))))))))))) (yD (ka (λ_=>rfl)) (yD (ka (λ_=>rfl)) (yD (ka (w:=.tup []) (λ_=>rfl)) (yD (ka (w:=.tup [.tup []]) (λ_=>rfl)) (yD (ka (w:=.tup [.tup [.int 1]]) (λ_=>rfl)) (yD (E _) (yD (e _) (yD (ka (w:=.tup [.tup [.int 0],.tup [.int 0]]) (λ_=>rfl))
  (yD (ka (w:=.tup [.tup [.int 0,.int 1],.tup [.int 2,.int 0]]) (λ_=>rfl)) (yD (ka (w:=.tup [.tup [.int 0,.int 2],.tup [.int 2,.int 0]]) (λ_=>rfl)) (yD h9 G3))))))))))) A
 obtain⟨c,q,j,T⟩:=UP (k:=5) (i:=1) (ρ:=[some (.ref n),some (.ref d)]) (a:=zc (zB (zc (zB (zc zI (zc zM zl))) (zc (zB (zc zM (zc zM zl))) zl))) (zc (zB (zc (zB (zc zU zl)) zl)) (zc (zB (zc (zB (zc zI (zc zU zl))) (zc (zB (zc zU (zc zI zl))) zl))) (zc (zB (zc (zB (zc zI (zc (jf yr zM) zl))) (zc (zB (zc (jf yr zM) (zc zI zl))) zl))) (zc (zB (zc (zB (zc zI (zc zM zl))) (zc (zB (zc zM (zc zI zl))) (zc (zB (zc zM (zc zM zl))) zl)))) zl))))) t1 (yD (ka (w:=.tup [.tup [.int 0,.int 1],.tup [.int 1,.int 1]]) (λ_=>rfl)) (yD (ka (w:=.tup [.tup [.bl true]]) (λ_=>rfl)) (yD (ka (w:=.tup [.tup [.int 0,.bl true],.tup [.bl true,.int 0]]) (λ_=>rfl))
  (yD (ka (w:=.tup [.tup [.int 0,.int (-1)],.tup [.int (-1),.int 0]]) (λ_=>rfl)) (yD (ka (w:=.tup [.tup [.int 0,.int 1],.tup [.int 1,.int 0],.tup [.int 1,.int 1]]) (λ_=>rfl)) G3))))) rfl (by omega)
 obtain⟨b,p,h,t3⟩:=UP (k:=5) (i:=1) (ρ:=[some (.ref n),some (.ref c)]) (a:=zc (zB (zc (zB (zc zI (zc zM (zc ql zl)))) (zc (zB (zc zM (zc zI (zc ql zl)))) (zc (zB (zc ql (zc ql (zc zM zl)))) zl)))) (zc (zW (.str "0")) (zc (zB (zc (zB (zc zI (zc jD (zc jD zl)))) (zc (zB (zc jD (zc zI (zc zM zl)))) (zc (zB (zc jD (zc zM (zc zI zl)))) zl)))) (zc (zB (zc (zB (zc zI zl)) (zc (zB zl) zl))) (zc (zB (zc zI zl)) zl))))) T (yD (ka (w:=.tup [.tup [.int 0,.int 1,.int 2],.tup [.int 1,.int 0,.int 2],.tup [.int 2,.int 2,.int 1]]) (λ_=>rfl)) (yD (ka (λ_=>rfl))
  (yD (ka (w:=.tup [.tup [.int 0,.int 3,.int 3],.tup [.int 3,.int 0,.int 1],.tup [.int 3,.int 1,.int 0]]) (λ_=>rfl)) (yD (ka (w:=.tup [.tup [.int 0],.tup []]) (λ_=>rfl)) (yD (ka (w:=.tup [.int 0]) (λ_=>rfl)) G3))))) rfl (by omega)
 obtain⟨r,o,g,t⟩:=UP (k:=2) (i:=1) (ρ:=[some (.ref n),some (.ref b)]) (a:=zc (zB (zc (zB (zc yi zl)) zl)) (zc (zB (zc (zB (zc zI (zc zI zl))) (zc (zB (zc zI (zc zI zl))) zl))) zl)) t3 (yD (ka (w:=.tup [.tup [.non]]) (λ_=>rfl)) (yD (ka (w:=.tup [.tup [.int 0,.int 0],.tup [.int 0,.int 0]]) (λ_=>rfl)) G3)) rfl (by omega)
 obtain⟨w,C,f,hw,K⟩:=BO (i:=1) (ρ:=[some (.ref n),some (.ref r)]) (mm:=zW (.int 23)) (m:=23) s t rfl rfl (λ_=>rfl) rfl (by decide) (by decide)
 refine⟨w,C,qO ?_,hw,K⟩;refine(zE ((qz l).trans rfl)).trans ((zE ((qz j).trans rfl)).trans ((zE ((qz h).trans rfl)).trans ((zE ((qz g).trans rfl)).trans (qx (qW f)))))
section
def Ar (hi:i<t.length):(B++(t.map λr=>O.lst (r.map W.int))++[O.lst ((List.range t.length).map λi=>W.ref (B.length+i))])[B.length+i]? =some (.lst ((t.getD i []).map W.int)):=by
 rw[ai (by simp;omega),ay (by omega),show B.length+i-B.length=i by omega,aw,ae,aa hi]
 rfl
def Bj:(B++(t.map λr=>O.lst (r.map W.int))++[O.lst ((List.range t.length).map λi=>W.ref (B.length+i))])[B.length+t.length]? =some (.lst ((List.range t.length).map λi=>W.ref (B.length+i))):=by
 have:B.length+t.length=(B++(t.map λr=>O.lst (r.map W.int))).length:=by simp
 rw[this,qY]
end
def Y7 {r s:Nat}{m:bQ}(h:A[r]? =some (.lst (l.map W.int)))(H:A[s]? =some (.lst (m.map W.int))):jb (.ref r) (.ref s) A=.ok (.bl (!decide (l=m))) A:=by
 show wD true _ _ A=_;unfold wD;rw[K4 h,K4 H];dsimp only;rw[PyData.eqv,W5]
 rfl
section
variable {p f:Nat}
def Bd {x:Option W}(X:A.length<=p)(hf:A.length<=f)(hn:n<A.length)(h:p≠f):∀(k fu:Nat)(l fd:bQ)(B:Hx),l.length=k->k<fu->fd.length+l.length<=100->Kn n A B->B[p]? =some (.lst (l.map W.int))->B[f]? =some (.lst (fd.map W.int))->
  ∃(r:Hx) (b:bQ),Qw (zi jb zL (zZ zl)) (zp (yK (yx wa zX (yx ZQ zL (zJ yN (zc zo (zc (mQ qZ (qw zL)) zl)))))) zA) fu [some (.ref n),x,some (.ref p),some (.ref f)] B=.ok (.nx [some (.ref n),x,some (.ref p),some (.ref f)]) r/\Kn n A r/\r[f]? =some (.lst (b.map W.int))/\b.Perm (fd++l):=by
 intro k
 induction k with
 |zero=>
  intro fu l fd B H C _ d s I;obtain⟨fu,rfl⟩:∃L,fu=L+1:=⟨fu-1,by omega⟩
  have:l=[]:=List.length_eq_zero_iff.mp H
  subst this;refine⟨B++[.lst []],fd,?_,d.trans (Kn.ext d.st Ext.one),jO I,by simp⟩
  unfold Qw;have t:zi jb zL (zZ zl) [some (.ref n),x,some (.ref p),some (.ref f)] B=.ok (.bl false) (B++[.lst []]):=(zO (zq (i:=2) rfl) (j9 qc)).trans (Y7 (l:=[]) (m:=[]) (jO s) qY);rw[t,zV]
 |succ k T=>
  intro fu l fd B H C Y d s I;obtain⟨fu,rfl⟩:∃L,fu=L+1:=⟨fu-1,by omega⟩
  have t:zi jb zL (zZ zl) [some (.ref n),x,some (.ref p),some (.ref f)] B=.ok (.bl true) (B++[.lst []]):=by
   refine(zO (zq (i:=2) rfl) (j9 qc)).trans ((Y7 (m:=[]) (jO s) qY).trans ?_);have z:l≠[]:=λe=>by rw[e]at H;cases H
   rw[az z]
   rfl
  have K:=d.trans (Kn.ext d.st (Ext.one (o:=.lst [])));have g1:=jO (u:=.lst []) s;have g2:=jO (u:=.lst []) I;generalize B++[O.lst []]=M at t K g1 g2;have E:mQ qZ (qw zL) [some (.ref n),x,some (.ref p),some (.ref f)] M=.ok (.int (l.length:Int)) M:=by
   rw[j6 (kY (w:=.ref p) (A1:=M) (ws:=l.map W.int) (zq rfl) (by unfold qb;dsimp only;rw[g1]))]
   unfold qZ;rw[ag]
  obtain⟨q,Q,e1,U,k2,_⟩:=JE (ρ:=[some (.ref n),x,some (.ref p),some (.ref f)]) K.st rfl E (by omega) (by omega)
  have y:q<l.length:=by omega
  have j:=k2.kp.get g1 (by omega)
  have J:=k2.kp.get g2 (by omega)
  have hw:(l.map W.int)[q]? =some (.int l[q]):=by rw[aw,aa y];rfl
  have P:=(Jz (g:=ZQ) (a:=qd 2) (zq rfl) g1 e1).trans (Ej j hw (by omega))
  rw[P9]at P;have c:(Q.set p (.lst ((l.eraseIdx q).map W.int)))[f]? =some (.lst (fd.map W.int)):=by rw[aI h];exact J
  have N:=(Jz (g:=wa) (a:=qd 3) (zq rfl) g2 P).trans (Gj c (by rw[ag];omega))
  have D:fd.map W.int++[.int l[q]]=(fd++[l[q]]).map W.int:=by rw[aO];rfl
  rw[D]at N;have hlen:(l.eraseIdx q).length=k:=by rw[List.length_eraseIdx_of_lt y];omega
  have v:Kn n A ((Q.set p (.lst ((l.eraseIdx q).map W.int))).set f (.lst ((fd++[l[q]]).map W.int))):=⟨((K.trans k2).kp.put X).put hf,((k2.st).put (by omega)).put (by omega)⟩
  obtain⟨r,b,e4,s4,a4,S⟩:=T fu (l.eraseIdx q) (fd++[l[q]]) _ hlen (by omega) (by rw[aq,aV];omega) v
   (by rw[aI (Ne.symm h),aL (Zg j)]) (by rw[aL (Zg c)])
  refine⟨r,b,?_,s4,a4,S.trans ?_⟩
  ·unfold Qw
   rw[t,zV];dsimp only;have Z:=(zE (m2:=zA) (w9 N)).trans qD;rw[Z,zV];exact e4
  ·rw[aQ]
   exact List.Perm.append_left fd (Pu (aa y)).symm
def OU {q:Nat}(s:ju n A)(h:A[q]? =some (.lst (l.map W.int)))(H:l.length<=100):∃(r:Nat) (B:Hx) (fd:bQ),Yb [.ref n,.ref q] A=.ok (.ref r) B/\B[r]? =some (.lst (fd.map W.int))/\fd.Perm l/\Kn n A B/\A.length<=r:=by
 unfold Yb Vd;unfold Sn;have a:qL (qw zw) [some (.ref n),some (.ref q),none,none] A=.ok (.ref A.length) (A++[.lst (l.map W.int)]):=kJ (kY (w:=.ref q) (zq rfl) (by unfold qb;dsimp only;rw[h]))
 have x0:Ext A (A++[.lst (l.map W.int)]++[.lst []]):=Ext.one.app;have hlen:(A++[O.lst (l.map W.int)]).length=A.length+1:=by simp
 have a2:(A++[.lst (l.map W.int)]++[.lst []])[A.length+1]? =some (.lst (([]:bQ).map W.int)):=by rw[<- hlen];exact qY
 obtain⟨B,fd,E,K,e,P⟩:=Bd (A:=A) (p:=A.length) (f:=A.length+1) (x:=some (.ref q)) (av _) (by omega) s.lt (by omega) l.length 1000 l [] _ rfl (by omega) (by simp;omega) (Kn.ext s x0) (jO qY) a2
 refine⟨A.length+1,B,fd,qO ?_,e,by simpa using P,K,by omega⟩
 refine(zE ((qz a).trans rfl)).trans ((zE (ρ1:=[some (.ref n),some (.ref q),some (.ref A.length),some (.ref (A.length+1))]) (A1:=A++[.lst (l.map W.int)]++[.lst []]) ?_).trans ((zE (m1:=U2 1000 _ _) E).trans (qx (qW (zq rfl)))));refine(qz (j9 qc)).trans ?_;rw[hlen]
 rfl
end
noncomputable def dist (t:bP):bU:=(List.range 8).filter λi=>decide ((i:Int)∈t.flatten)
def WB (t:bP)(v:Int):Int:=((dist t).idxOf v.toNat:Nat)
def Zm (t:bP):bP:=t.map λr=>r.map (WB t)
def Cu:i∈dist t↔i<8/\(i:Int)∈t.flatten:=by
 unfold dist;rw[mem_filter,mem_range,aj]
theorem VZ:∀{l:bQ},(∀v∈l,0<=v/\v<8)->ZO l=some (l.map Int.toNat)
 |[],_=>rfl|v::l,h=>by
  unfold ZO;rw[ah (h v (ax ..)),VZ λx H=>h x (ao _ H)]
  rfl
theorem Oh:∀{kws:List (Nat×List W)},(∀p∈kws,A[p.1]? =some (.lst p.2))->gQ A (kws.map λ(p:Nat×List W)=>W.ref p.1)=some (kws.map (·.2))
 |[],_=>rfl|p::kws,h=>by
  show(match A[p.1]? with|some (.lst ws)=>(gQ A (kws.map λ(p:Nat×List W)=>W.ref p.1)).map (ws::·)|_=>none)=_
  rw[h p (ax ..)];dsimp only;rw[Oh λx H=>h x (ao _ H)]
  rfl
theorem OQ (v:Nat):∀{l:bU},v∈l->ZU (λz=>PyData.eqv z (.int (v:Int))) (l.map λ(i:Nat)=>PyData.int (i:Int))=some (l.idxOf v)
 |[],h=>by cases h|a::l,h=>by
  rw[aX,ZU,List.idxOf_cons]
  have:PyData.eqv (.int (a:Int)) (.int (v:Int))=(a==v):=by
   rw[PyData.eqv,Bool.eq_iff_iff];simp;omega
  rw[this]
  by_cases q:a=v
  ·subst q
   simp
  ·have Q:(a==v)=false:=by simp[q]
   rw[Q,ar (by simp)]
   rw[OQ v ((cn.mp h).resolve_left (Ne.symm q))]
   rfl
def LL (t:bP)(r:Nat)(B:Hx):Prop:=∃K:bU,B[r]? =some (.lst (K.map W.ref))/\K.length=t.length/\∀i,i<t.length->B[K.getD i 0]? =some (.lst ((t.getD i []).map W.int))
def Gv {m:Ev}{k:Nat}(h:m ρ A=.ok (.ref k) A)(H:A[k]? =some (.lst ws))(l:ws.length<=zY){g:W->W}(he:∀w∈ws,me (some w::cap.map λi=>(ρ[i]?).join) A=.ok (g w) A):
  zR 1 cap (qj m) (zG 0) zU (zN me) ρ A=.ok (ws.map g) A:=by
 have e:=w5 (cap:=cap) (me:=me) (ρ:=ρ) (A:=A) (N:=ws.length) (item:=λi=>ws.getD i .non) (g:=λi=>g (ws.getD i .non)) (Qg h H) rfl l
  (λi hi=>(Q0 H).trans (by rw[aa hi,ae,aa hi];rfl))
  ((Q0 H).trans (by rw[aF (av _)]))
  (λi hi=>by
   have:ws.getD i .non=ws[i]:=by rw[ae,aa hi];rfl
   rw[this];exact he _ (aN hi))
 rw[e]
 congr 1
 apply bC
 ·simp
 ·intro i b a
  have hi:i<ws.length:=by simpa using a
  simp[ae,aa hi]
noncomputable def MN (f:Int->Int):W->W
 |.int v=>.int (f v)|w=>w
def Aq (f:Int->Int)(l:bQ):(l.map W.int).map (MN f)=(l.map f).map W.int:=by
 rw[aP,aP];rfl
section
variable {r:Nat}
def Ez (l:t.length<=8)(L:LL t r B)(h0:ρ[i]? =some (some (.ref r))):qL (zR 1 [] (qj (qd i)) (zG 0) zU (zN (qL (qw zo)))) ρ B=
  .ok (.ref (B.length+t.length)) (B++(t.map λr=>O.lst (r.map W.int))++[O.lst ((List.range t.length).map λi=>W.ref (B.length+i))]):=by
 obtain⟨K,E,d,g⟩:=L;obtain⟨b,f,n,e,⟨z,g1⟩,g2,g3⟩:=ZK (nl:=1) (cap:=[]) (tw:=zG 0) (ifs:=zW (.bl true)) (em:=zN (qL (qw zo))) (ρ:=ρ) (A:=B) (N:=t.length)
  (I:=λp b a C=>(∃z,b=[z])/\C=B++((t.take p).map λr=>O.lst (r.map W.int))/\a=(List.range p).map λi=>W.ref (B.length+i)) (Qg (zq h0) E) (by simp[d])
  (λp b a C H ⟨⟨z,f1⟩,f2,j⟩=>by
   subst f1 f2 j;have x:Ext B (B++((t.take p).map λr=>O.lst (r.map W.int))):=⟨_,rfl⟩;have h:=x.at (g p H);have c:t.getD p []=t[p]:=by rw[ae,aa H];rfl
   rw[c]at h;refine⟨.ref (K.getD p 0),[some (.ref (K.getD p 0))],?_,rfl,.inl ⟨_,_,_,_,rfl,Zf (kJ (kY (w:=.ref (K.getD p 0)) (ws:=t[p].map W.int) (zq rfl) (by unfold qb;dsimp only;rw[h]))) ?_,⟨_,rfl⟩,?_,?_⟩⟩
   ·refine(Q0 (x.at E)).trans ?_
    rw[aw,ae,aa (by omega)];rfl
   ·simp;unfold zY;omega
   ·rw[take_succ H,aO,aQ];rfl
   ·rw[bc,aO,aq,ag,ba,Nat.min_eq_left (bD H)];rfl)
  (λb a C ⟨_,f2,_⟩=>by
   subst f2;exact(Q0 (Ext.at ⟨_,rfl⟩ E)).trans (by rw[aF (by simp[d])])) ⟨⟨none,rfl⟩,by simp,by simp⟩
 rw[kJ e,g2,g3,bI];simp
def LL.mono (x:Ext A B)(h:LL t r A):LL t r B:=by
 obtain⟨K,e,a,H⟩:=h;exact⟨K,x.at e,a,λi hi=>x.at (H i hi)⟩
def Bn (Y:1<=t.length)(I:t.length<=8)(D:Sq t)(s:∀v∈t.flatten,0<=v/\v<8)(L:LL t r A):∃B,W2 [.ref r] A=.ok (zt (Zm t)) B/\Ext A B:=by
 have X:t.flatten.length<=64:=by
  have:∀l:bP,(∀r∈l,r.length<=8)->l.flatten.length<=8 * l.length:=by
   intro l
   induction l with
   |nil=>intro _;simp|cons r l S=>
    intro e;have Y:=e r (ax ..);have h2:=S λQ x=>e Q (ao _ x);rw[a5,aq,a9];omega
  have:=this t λr e=>by rw[D r e];exact I
  omega
 unfold W2 Vy;unfold RH;have P:=Ez (ρ:=[some (.ref r),none]) (i:=0) I L rfl;have x1:Ext A (A++(t.map λr=>O.lst (r.map W.int))++[O.lst ((List.range t.length).map λi=>W.ref (A.length+i))]):=⟨(t.map λr=>O.lst (r.map W.int))++[O.lst ((List.range t.length).map λi=>W.ref (A.length+i))],by rw[aQ]⟩
 have a:∀i,i<t.length->_:=λi hi=>Ar (B:=A) (t:=t) (i:=i) hi;have H:=Bj (B:=A) (t:=t);generalize A++(t.map λr=>O.lst (r.map W.int))++[O.lst ((List.range t.length).map λi=>W.ref (A.length+i))]=b at P x1 a H;have M:zi Qn (qL (zR 1 [] (qj zo) (zG 0) zU (zN (qL (qw zo))))) (zZ zl) [some (.ref r),none] A=.ok (.ref (b.length+1)) (b++[.lst []]++[.lst (t.flatten.map W.int)]):=by
  refine(zO P (j9 qc)).trans ?_;have o:=Oh (A:=b++[.lst []]) (kws:=(List.range t.length).map λi=>(A.length+i,(t.getD i []).map W.int)) (λp T=>by
   obtain⟨i,hi,rfl⟩:=cw.mp T;exact jO (a i (cu.mp hi)))
  rw[aP,aP]at o;have C:((λp:Nat×List W=>W.ref p.1) ∘ λi=>(A.length+i,(t.getD i []).map W.int))=λi=>W.ref (A.length+i):=rfl;have y:((λp:Nat×List W=>p.2) ∘ λi=>(A.length+i,(t.getD i []).map W.int))=λi=>(t.getD i []).map W.int:=rfl;rw[C,y,<- Yd t [] λr=>r.map W.int]at o;have hf:(t.map λr=>r.map W.int).flatten=t.flatten.map W.int:=by rw[List.map_flatten]
  unfold Qn;dsimp only;rw[jO H,qY];dsimp only;rw[o];dsimp only;rw[ah ⟨λz=>(by have:=congrArg List.length z;rw[ag,aJ]at this;exact absurd this (by rw[length_nil];omega)),by rw[hf,ag];unfold zY;omega⟩,hf]
  simp
 have x2:Ext A (b++[.lst []]++[.lst (t.flatten.map W.int)]):=x1.app.app;have f:(b++[.lst []]++[.lst (t.flatten.map W.int)])[b.length+1]? =some (.lst (t.flatten.map W.int)):=by
  have:b.length+1=(b++[O.lst []]).length:=by simp
  rw[this,qY]
 generalize b++[.lst []]++[.lst (t.flatten.map W.int)]=c at M x2 f;have J:GF (zi Qn (qL (zR 1 [] (qj zo) (zG 0) zU (zN (qL (qw zo))))) (zZ zl)) [some (.ref r),none] A=.ok (.ref c.length) (c++[.lst (((dist t).map λ(i:Nat)=>(i:Int)).map W.int)]):=by
  unfold GF;rw[M,zV];unfold Ub;dsimp only;rw[f];dsimp only;rw[QK];dsimp only;rw[VZ s];dsimp only
  have:((List.range 8).filter λi=>decide (i∈t.flatten.map Int.toNat))=dist t:=by
   unfold dist
   apply List.filter_congr
   intro i _;rw[decide_eq_decide]
   constructor
   ·intro z
    obtain⟨v,h,rfl⟩:=cw.mp z;rw[Int.toNat_of_nonneg (s v h).1];exact h
   ·intro z
    exact cw.mpr ⟨_,z,rfl⟩
  rw[this,aP]
  rfl
 have x3:=x2.app (l:=[.lst (((dist t).map λ(i:Nat)=>(i:Int)).map W.int)]);have d:(c++[.lst (((dist t).map λ(i:Nat)=>(i:Int)).map W.int)])[c.length]? =some (.lst (((dist t).map λ(i:Nat)=>(i:Int)).map W.int)):=qY;generalize c++[.lst (((dist t).map λ(i:Nat)=>(i:Int)).map W.int)]=n at J x3 d;obtain⟨K,k0,E,e⟩:=LL.mono x3 L;refine⟨n,qO ((zE ((qz J).trans rfl)).trans (qx (qW ?_))),x3⟩;have idx:∀v,v∈t.flatten->ZN (.ref c.length) (.int v) n=.ok (.int (WB t v)) n:=λv h=>by
  obtain⟨u,rfl⟩:=aY (s v h).1;have hm:u∈dist t:=Cu.mpr ⟨by have:=s _ h;omega,h⟩
  unfold ZN;rw[K4 d];show(match ZU (λz=>PyData.eqv z (.int (u:Int))) (((dist t).map λ(i:Nat)=>(i:Int)).map PyData.int) with|some j=>if j<1000000 then R.ok (W.int (j:Int)) n else .bad|none=>.bad)=_
  have:((dist t).map λ(i:Nat)=>(i:Int)).map PyData.int=(dist t).map λ(i:Nat)=>PyData.int (i:Int):=by rw[aP];rfl
  rw[this,OQ u hm];dsimp only;have o:(dist t).idxOf u<(dist t).length:=List.idxOf_lt_length_of_mem hm;have U:(dist t).length<=8:=by unfold dist;exact bq (List.length_filter_le _ _) (by simp)
  rw[ah (by omega)]
  rfl
 have Z:=w5 (cap:=[1]) (me:=mQ jU (zR 1 [1] (qj zo) (zG 0) zU (zN (yx ZN zw zo)))) (ρ:=[some (.ref r),some (.ref c.length)]) (A:=n) (N:=t.length) (item:=λi=>.ref (K.getD i 0)) (g:=λi=>zr ((t.getD i []).map (WB t))) (Qg (zq (i:=0) rfl) k0) (by simp[E]) (by unfold zY;omega)
  (λj q=>(Q0 k0).trans (by rw[aw,ae,aa (by omega)];rfl)) ((Q0 k0).trans (by rw[aF (by simp[E])]))
  (λj q=>by
   have:=Gv (cap:=[1]) (m:=qd 0) (me:=yx ZN zw zo) (ρ:=[some (.ref (K.getD j 0)),some (.ref c.length)]) (g:=MN (WB t)) (zq rfl) (e j q) (by rw[ag,D _ (yX q)];unfold zY;omega) (λw hw=>by
    obtain⟨v,h,rfl⟩:=cw.mp hw;exact(Jz (g:=ZN) (zq rfl) d (zq (i:=0) rfl)).trans (idx v (List.mem_flatten.mpr ⟨_,yX q,h⟩)))
   rw[Aq]at this;exact gO this)
 refine(gO Z).trans ?_;unfold zt Zm;rw[aP,Yd t [] (zr ∘ λr=>r.map (WB t))]
 rfl
end
noncomputable def wq:Nat->List (bQ)
 |0=>[[0,1,2,3,4,3,2,1],[1,0,1,2,3,4,3,2],[2,1,0,1,2,3,4,3],[3,2,1,0,1,2,3,4],[4,3,2,1,0,1,2,3],[3,4,3,2,1,0,1,2],[2,3,4,3,2,1,0,1],[1,2,3,4,3,2,1,0]]|1=>[[0,1,2,3,3,2,1],[1,0,1,2,3,3,2],[2,1,0,1,2,3,3],[3,2,1,0,1,2,3],[3,3,2,1,0,1,2],[2,3,3,2,1,0,1],[1,2,3,3,2,1,0]]|2=>[[0,1,2,3,2,1],[1,0,1,2,3,2],[2,1,0,1,2,3],[3,2,1,0,1,2],[2,3,2,1,0,1],[1,2,3,2,1,0]]|3=>[[0,1,2,2,1],[1,0,1,2,2],[2,1,0,1,2],[2,2,1,0,1],[1,2,2,1,0]]|4=>[[0,1,2,1],[1,0,1,2],[2,1,0,1],[1,2,1,0]]|5=>[[0,1,1],[1,0,1],[1,1,0]]|6=>[[0,1],[1,0]]|7=>[[0]]|8=>[[0,1,1,2,1,2,2,3],[1,0,2,1,2,1,3,2],[1,2,0,1,2,3,1,2],[2,1,1,0,3,2,2,1],[1,2,2,3,0,1,1,2],[2,1,3,2,1,0,2,1],[2,3,1,2,1,2,0,1],[3,2,2,1,2,1,1,0]]|9=>[[0,1,1,2],[1,0,2,1],[1,2,0,1],[2,1,1,0]]|10=>[[0,1],[1,0]]|11=>[[0,1,1,1,1,1,1,1],[1,0,1,1,1,1,1,1],[1,1,0,1,1,1,1,1],[1,1,1,0,1,1,1,1],[1,1,1,1,0,1,1,1],[1,1,1,1,1,0,1,1],[1,1,1,1,1,1,0,1],[1,1,1,1,1,1,1,0]]|12=>[[0,1,1,1,1,1,1],[1,0,1,1,1,1,1],[1,1,0,1,1,1,1],[1,1,1,0,1,1,1],[1,1,1,1,0,1,1],[1,1,1,1,1,0,1],[1,1,1,1,1,1,0]]|13=>[[0,1,1,1,1,1],[1,0,1,1,1,1],[1,1,0,1,1,1],[1,1,1,0,1,1],[1,1,1,1,0,1],[1,1,1,1,1,0]]|14=>[[0,1,1,1,1],[1,0,1,1,1],[1,1,0,1,1],[1,1,1,0,1],[1,1,1,1,0]]|15=>[[0,1,1,1],[1,0,1,1],[1,1,0,1],[1,1,1,0]]|16=>[[0,1,1],[1,0,1],[1,1,0]]|17=>[[0,1],[1,0]]|18=>[[0]]|19=>[[0,1,2,2,2,2,2,2],[1,0,2,2,2,2,2,2],[2,2,0,1,2,2,2,2],[2,2,1,0,2,2,2,2],[2,2,2,2,0,1,2,2],[2,2,2,2,1,0,2,2],[2,2,2,2,2,2,0,1],[2,2,2,2,2,2,1,0]]|20=>[[0,1,1,1,2,2,2,2],[1,0,1,1,2,2,2,2],[1,1,0,1,2,2,2,2],[1,1,1,0,2,2,2,2],[2,2,2,2,0,1,1,1],[2,2,2,2,1,0,1,1],[2,2,2,2,1,1,0,1],[2,2,2,2,1,1,1,0]]|21=>[[0,1,2,2,2,2],[1,0,2,2,2,2],[2,2,0,1,2,2],[2,2,1,0,2,2],[2,2,2,2,0,1],[2,2,2,2,1,0]]|22=>[[0,1,1,2,2,2],[1,0,1,2,2,2],[1,1,0,2,2,2],[2,2,2,0,1,1],[2,2,2,1,0,1],[2,2,2,1,1,0]]|23=>[[0,1,2,2],[1,0,2,2],[2,2,0,1],[2,2,1,0]]|24=>[[0,1,1,1,1,2],[1,0,1,1,2,1],[1,1,0,2,1,1],[1,1,2,0,1,1],[1,2,1,1,0,1],[2,1,1,1,1,0]]|25=>[[0,1,2,3],[1,0,3,2],[2,3,0,1],[3,2,1,0]]|26=>[[0,1,2,3,4,5,6,7],[1,0,3,2,5,4,7,6],[2,3,0,1,6,7,4,5],[3,2,1,0,7,6,5,4],[4,5,6,7,0,1,2,3],[5,4,7,6,1,0,3,2],[6,7,4,5,2,3,0,1],[7,6,5,4,3,2,1,0]]|27=>[[0,1],[1,0]]|28=>[[0,1,2,1,3,4,5,4],[1,0,1,2,4,3,4,5],[2,1,0,1,5,4,3,4],[1,2,1,0,4,5,4,3],[3,4,5,4,0,1,2,1],[4,3,4,5,1,0,1,2],[5,4,3,4,2,1,0,1],[4,5,4,3,1,2,1,0]]|29=>[[0,1,1,3,4,4],[1,0,1,4,3,4],[1,1,0,4,4,3],[3,4,4,0,1,1],[4,3,4,1,0,1],[4,4,3,1,1,0]]|30=>[[0,1,3,4],[1,0,4,3],[3,4,0,1],[4,3,1,0]]|31=>[[0,1,2,1,3,3,3,3],[1,0,1,2,3,3,3,3],[2,1,0,1,3,3,3,3],[1,2,1,0,3,3,3,3],[3,3,3,3,0,1,2,1],[3,3,3,3,1,0,1,2],[3,3,3,3,2,1,0,1],[3,3,3,3,1,2,1,0]]|32=>[[0,1,1,3,3,3],[1,0,1,3,3,3],[1,1,0,3,3,3],[3,3,3,0,1,1],[3,3,3,1,0,1],[3,3,3,1,1,0]]|33=>[[0,1,3,3],[1,0,3,3],[3,3,0,1],[3,3,1,0]]|_=>[]
def ic:((List.range 34).all λi=>Tw (Zm (wq i))&&((wq i).all λr=>r.length==(wq i).length)&&((wq i).flatten.all λv=>decide (0<=v)&&decide (v<8)))=true:=by decide +kernel
def Nc (h:i<34):qA (Zm (wq i))/\G.Sq (wq i)/\∀v∈(wq i).flatten,0<=v/\v<8:=by
 have:=cx.mp ic i (cu.mpr h)
 rw[ak,ak]at this;refine⟨Yt this.1.1,λr a=>?_,λv H=>?_⟩
 ·exact eq_of_beq (cx.mp this.1.2 r a)
 ·have:=cx.mp this.2 v H
  rw[ak,aj,aj]at this;exact this
theorem O1:∀{us:List W}{w:List (List W)},gQ A us=some w->∃K:bU,us=K.map W.ref/\K.length=w.length/\∀i,i<w.length->A[K.getD i 0]? =some (.lst (w.getD i []))
 |[],w,e=>by
  cases e;exact⟨[],rfl,rfl,λi hi=>by cases hi⟩
 |.ref k::us,w,e=>by
  unfold gQ at e;cases h:A[k]? with
  |none=>rw[h]at e;cases e|some o=>
   rw[h]at e;cases o with
   |lst ws=>
    dsimp only at e;cases H:gQ A us with
    |none=>rw[H]at e;cases e|some v=>
     rw[H]at e;cases e;obtain⟨K,rfl,l,a⟩:=O1 H;refine⟨k::K,rfl,by simp[l],λi hi=>?_⟩
     cases i with
     |zero=>exact h|succ i=>exact a i (by simpa using hi)
   |_=>cases e
 |.non::_,_,e=>by cases e|.bl _::_,_,e=>by cases e|.int _::_,_,e=>by cases e|.str _::_,_,e=>by cases e|.tup _::_,_,e=>by cases e|.clo _ _ _::_,_,e=>by cases e|.xc _::_,_,e=>by cases e
def Tv (x:R Fl):Option (Option O×Option (List (List W))):=match x with
 |.ok (.rt (.ref r)) B=>some (B[0]?,match B[r]? with
  |some (.lst us)=>gQ B us|_=>none)
 |_=>none
def Ay {x:R Fl}(h:Tv x=some (some o,some (t.map λr=>r.map W.int))):∃r B,x=.ok (.rt (.ref r)) B/\B[0]? =some o/\LL t r B:=by
 unfold Tv at h
 split at h
 ·rename_i r B
  injection h with h
  injection h with c H
  cases a:B[r]? with
  |none=>rw[a]at H;cases H|some o'=>
   rw[a]at H;cases o' with
   |lst us=>
    dsimp only at H;obtain⟨K,rfl,l,b⟩:=O1 H;rw[ag]at l b;refine⟨r,B,rfl,c,K,a,l,λi hi=>(b i hi).trans ?_⟩;rw[ae,aw,ae,aa hi]
    rfl
   |_=>cases H
 ·cases h
def Plain (X:Ex)(ρ:En)(A:Hx):Prop:=∃i,i<34/\∃r B,X ρ A=.ok (.rt (.ref r)) B/\ju 0 B/\LL (wq i) r B
section
variable {m1 m2:Ex}{ρ1:En}{L:Hx}{c:Ev}
def gW (h:m1 ρ A=.ok (.nx ρ1) A1)(q:Plain m2 ρ1 A1):Plain (zp m1 m2) ρ A:=by
 unfold Plain;rw[zE h];exact q
def YU (q:Plain m1 ρ A):Plain (zp m1 m2) ρ A:=by
 obtain⟨i,hi,r,B,e,s,l⟩:=q;exact⟨i,hi,r,B,qx e,s,l⟩
def YZ (h:c ρ A=.ok (.bl true) A1)(q:Plain m1 ρ A1):Plain (qy c m1 m2) ρ A:=by
 unfold Plain;rw[yo h];exact q
def ye {m:Ex}(h:c ρ A=.ok (.bl false) A)(q:Plain m ρ A):Plain (zp (qy c m1 zA) m) ρ A:=gW ((jA h).trans qD) q
def ie {l:Hx}(s:ju 0 (o::L)):ju 0 (o::l):=s
def jI (i:Nat)(hi:i<34)(s:ju 0 (o::L))(h:Tv (m1 ρ A)=some (some o,some ((wq i).map λr=>r.map W.int))):Plain m1 ρ A:=by
 obtain⟨r,B,e,h0,l⟩:=Ay h;obtain⟨c,b,a,q⟩:=s;have E:some o=some (O.lst [.int c,.bl b]):=a;exact⟨i,hi,r,B,e,⟨c,b,by rw[h0];exact E,q⟩,l⟩
def take1 (s:ju 0 (o::L)){m:Int}(H:0<m)(h:m<1000000000000000):∃(r:Nat) (o':O),yN [.ref 0,.int m] (o::L)=.ok (.int (r:Int)) (o'::L)/\(r:Int)<m/\ju 0 (o'::L):=by
 obtain⟨r,o',e,a,b,s'⟩:=Nw s H h;exact⟨r.toNat,o',by rw[e,Int.toNat_of_nonneg a];rfl,by omega,s'⟩
def Ym {a:Ea}{vs:List W}{k:Nat}(s:ju 0 (o::L))(h0:ρ[0]? =some (some (.ref 0)))(b:∀A,a ρ A=.ok vs A)(d:vs.length=k)(k1:0<k)(k2:k<1000):∃(j:Nat) (w:W) (o':O),zi zD (zZ a) (zJ yN (zc zo (zc (zW (.int (k:Int))) zl))) ρ (o::L)=.ok w (o'::(L++[.lst vs]))/\j<k/\vs[j]? =some w/\ju 0 (o'::(L++[.lst vs])):=by
 obtain⟨r,o',e,c,s'⟩:=take1 (L:=L++[.lst vs]) (m:=(k:Int)) (ie s) (by omega) (by omega)
 have h:r<vs.length:=by omega
 refine⟨r,vs[r],o',?_,by omega,aa h,s'⟩
 refine(zO (j9 (b _)) ((qg (zQ (zq h0) (zQ qE qc))).trans e)).trans ?_;have H:(o'::(L++[O.lst vs]))[(o::L).length]? =some (.lst vs):=by
  show(L++[O.lst vs])[L.length]? =_;exact qY
 exact wM H (aa h)
end
def three (h:j<3):j=0∨j=1∨j=2:=by omega
def Tq (h:j<5):j=0∨j=1∨j=2∨j=3∨j=4:=by omega
def Tc (h:j<8):j=0∨j=1∨j=2∨j=3∨j=4∨j=5∨j=6∨j=7:=by omega
def AE (s:ju 0 [o]):Plain (Vx yN) [some (.ref 0),none,none,none,none,none,none,none,none,none,none] [o]:=by
 unfold Vx;obtain⟨way,p,n,hw,s1⟩:=take1 s (m:=8) (by decide) (by decide)
 refine gW (ρ1:=[some (.ref 0),some (.int (way:Int)),none,none,none,none,none,none,none,none,none]) (A1:=[p]) ((qz ((qg (ws:=[.ref 0,.int 8]) (A1:=[o]) rfl).trans n)).trans rfl) ?_;obtain⟨j,w,c,E,l,f,s2⟩:=Ym (k:=8) (ρ:=[some (.ref 0),some (.int (way:Int)),none,none,none,none,none,none,none,none,none]) (a:=zc yV (zc Z5 (zc TU (zc Y5 (zc yA (zc jD (zc ql (zc zM zl)))))))) (vs:=[.int 8,.int 7,.int 6,.int 5,.int 4,.int 3,.int 2,.int 1]) s1 rfl (λ_=>rfl) rfl (by decide) (by decide)
 refine gW (ρ1:=[some (.ref 0),some (.int (way:Int)),some w,none,none,none,none,none,none,none,none]) (A1:=[c,.lst [.int 8,.int 7,.int 6,.int 5,.int 4,.int 3,.int 2,.int 1]]) ((qz E).trans rfl) ?_;have y:way<8:=by omega
 clear n E hw s s1;rcases Tc y with rfl|rfl|rfl|rfl|rfl|rfl|rfl|rfl
 ·refine YU (YZ (A1:=[c,.lst [.int 8,.int 7,.int 6,.int 5,.int 4,.int 3,.int 2,.int 1]]) (by kernel_rfl) ?_)
  rcases Tc l with rfl|rfl|rfl|rfl|rfl|rfl|rfl|rfl<;>cases f
  ·exact jI 0 (by decide) s2 (by kernel_rfl)
  ·exact jI 1 (by decide) s2 (by kernel_rfl)
  ·exact jI 2 (by decide) s2 (by kernel_rfl)
  ·exact jI 3 (by decide) s2 (by kernel_rfl)
  ·exact jI 4 (by decide) s2 (by kernel_rfl)
  ·exact jI 5 (by decide) s2 (by kernel_rfl)
  ·exact jI 6 (by decide) s2 (by kernel_rfl)
  ·exact jI 7 (by decide) s2 (by kernel_rfl)
 ·refine ye (by kernel_rfl) (YU (YZ (A1:=[c,.lst [.int 8,.int 7,.int 6,.int 5,.int 4,.int 3,.int 2,.int 1]]) (by kernel_rfl) ?_))
  obtain⟨J,g,i,e,b,H,s3⟩:=Ym (k:=3) (ρ:=[some (.ref 0),some (.int ((1:Nat):Int)),some w,none,none,none,none,none,none,none,none]) (a:=zc yV (zc yA (zc ql zl))) (vs:=[.int 8,.int 4,.int 2]) s2 rfl (λ_=>rfl) rfl (by decide) (by decide)
  refine gW ((qz e).trans rfl) ?_;rcases three b with rfl|rfl|rfl<;>cases H
  ·exact jI 8 (by decide) s3 (by kernel_rfl)
  ·exact jI 9 (by decide) s3 (by kernel_rfl)
  ·exact jI 10 (by decide) s3 (by kernel_rfl)
 ·refine ye (by kernel_rfl) (ye (by kernel_rfl) (YU (YZ (A1:=[c,.lst [.int 8,.int 7,.int 6,.int 5,.int 4,.int 3,.int 2,.int 1]]) (by kernel_rfl) ?_)))
  rcases Tc l with rfl|rfl|rfl|rfl|rfl|rfl|rfl|rfl<;>cases f
  ·exact jI 11 (by decide) s2 (by kernel_rfl)
  ·exact jI 12 (by decide) s2 (by kernel_rfl)
  ·exact jI 13 (by decide) s2 (by kernel_rfl)
  ·exact jI 14 (by decide) s2 (by kernel_rfl)
  ·exact jI 15 (by decide) s2 (by kernel_rfl)
  ·exact jI 16 (by decide) s2 (by kernel_rfl)
  ·exact jI 17 (by decide) s2 (by kernel_rfl)
  ·exact jI 18 (by decide) s2 (by kernel_rfl)
 ·refine ye (by kernel_rfl) (ye (by kernel_rfl) (ye (by kernel_rfl) (YU (YZ (A1:=[c,.lst [.int 8,.int 7,.int 6,.int 5,.int 4,.int 3,.int 2,.int 1]]) (by kernel_rfl) ?_))))
  obtain⟨J,g,i,e,b,H,s3⟩:=Ym (k:=5) (ρ:=[some (.ref 0),some (.int ((3:Nat):Int)),some w,none,none,none,none,none,none,none,none]) (a:=zc (zB (zc ql (zc yA zl))) (zc (zB (zc yA (zc ql zl))) (zc (zB (zc ql (zc jD zl))) (zc (zB (zc jD (zc ql zl))) (zc (zB (zc ql (zc ql zl))) zl))))) (vs:=[.tup [.int 2,.int 4],.tup [.int 4,.int 2],.tup [.int 2,.int 3],.tup [.int 3,.int 2],.tup [.int 2,.int 2]]) s2 rfl (λ_=>rfl) rfl (by decide) (by decide)
  have asg:∀{m:Ev}{tw:Tg}{ρ d:En}{A A1:Hx}{w:W},m ρ A=.ok w A1->tw w ρ=some d->Qx m tw ρ A=.ok (.nx d) A1:=λh h'=>by
   unfold Qx;rw[h,zV,h']
  rcases Tq b with rfl|rfl|rfl|rfl|rfl<;>cases H
  ·exact gW (asg e rfl) (jI 19 (by decide) s3 (by kernel_rfl))
  ·exact gW (asg e rfl) (jI 20 (by decide) s3 (by kernel_rfl))
  ·exact gW (asg e rfl) (jI 21 (by decide) s3 (by kernel_rfl))
  ·exact gW (asg e rfl) (jI 22 (by decide) s3 (by kernel_rfl))
  ·exact gW (asg e rfl) (jI 23 (by decide) s3 (by kernel_rfl))
 ·exact ye (by kernel_rfl) (ye (by kernel_rfl) (ye (by kernel_rfl) (ye (by kernel_rfl) (YU (YZ (A1:=[c,.lst [.int 8,.int 7,.int 6,.int 5,.int 4,.int 3,.int 2,.int 1]]) (by kernel_rfl) (jI 24 (by decide) s2 (by kernel_rfl)))))))
 ·refine ye (by kernel_rfl) (ye (by kernel_rfl) (ye (by kernel_rfl) (ye (by kernel_rfl) (ye (by kernel_rfl) (YU (YZ (A1:=[c,.lst [.int 8,.int 7,.int 6,.int 5,.int 4,.int 3,.int 2,.int 1]]) (by kernel_rfl) ?_))))))
  obtain⟨J,g,i,e,b,H,s3⟩:=Ym (k:=3) (ρ:=[some (.ref 0),some (.int ((5:Nat):Int)),some w,none,none,none,none,none,none,none,none]) (a:=zc yA (zc yV (zc ql zl))) (vs:=[.int 4,.int 8,.int 2]) s2 rfl (λ_=>rfl) rfl (by decide) (by decide)
  refine gW ((qz e).trans rfl) ?_;rcases three b with rfl|rfl|rfl<;>cases H
  ·exact jI 25 (by decide) s3 (by kernel_rfl)
  ·exact jI 26 (by decide) s3 (by kernel_rfl)
  ·exact jI 27 (by decide) s3 (by kernel_rfl)
 ·refine ye (by kernel_rfl) (ye (by kernel_rfl) (ye (by kernel_rfl) (ye (by kernel_rfl) (ye (by kernel_rfl) (ye (by kernel_rfl) ?_)))))
  obtain⟨J,g,i,e,b,H,s3⟩:=Ym (k:=3) (ρ:=[some (.ref 0),some (.int ((6:Nat):Int)),some w,none,none,none,none,none,none,none,none]) (a:=zc yA (zc jD (zc ql zl))) (vs:=[.int 4,.int 3,.int 2]) s2 rfl (λ_=>rfl) rfl (by decide) (by decide)
  refine gW ((qz e).trans rfl) ?_;rcases three b with rfl|rfl|rfl<;>cases H
  ·exact jI 28 (by decide) s3 (by kernel_rfl)
  ·exact jI 29 (by decide) s3 (by kernel_rfl)
  ·exact jI 30 (by decide) s3 (by kernel_rfl)
 ·refine ye (by kernel_rfl) (ye (by kernel_rfl) (ye (by kernel_rfl) (ye (by kernel_rfl) (ye (by kernel_rfl) (ye (by kernel_rfl) ?_)))))
  obtain⟨J,g,i,e,b,H,s3⟩:=Ym (k:=3) (ρ:=[some (.ref 0),some (.int ((7:Nat):Int)),some w,none,none,none,none,none,none,none,none]) (a:=zc yA (zc jD (zc ql zl))) (vs:=[.int 4,.int 3,.int 2]) s2 rfl (λ_=>rfl) rfl (by decide) (by decide)
  refine gW ((qz e).trans rfl) ?_;rcases three b with rfl|rfl|rfl<;>cases H
  ·exact jI 31 (by decide) s3 (by kernel_rfl)
  ·exact jI 32 (by decide) s3 (by kernel_rfl)
  ·exact jI 33 (by decide) s3 (by kernel_rfl)
def BP (s:ju 0 [o]):∃i,i<34/\∃r B,W3 [.ref 0] [o]=.ok (.ref r) B/\ju 0 B/\LL (wq i) r B:=by
 obtain⟨i,hi,r,B,e,q⟩:=AE s;refine⟨i,hi,r,B,?_,q⟩;unfold W3 VA;exact qO e
noncomputable def TR (g:Nat->W):W->W
 |.int v=>g v.toNat|w=>w
def O0 (g:Nat->W)(o:bU):((o.map λ(a:Nat)=>(a:Int)).map W.int).map (TR g)=o.map g:=by
 rw[aP,aP]
 apply a3
 intro a _;show g (Int.toNat (a:Int))=g a;rw[aG]
def Ow {fd:bQ}{M:Nat}{s:Int}(h:fd.Perm ((List.range M).map λ(k:Nat)=>s+(k:Int))):∃p:bU,fd=p.map (λ(k:Nat)=>s+(k:Int))/\p.Perm (List.range M):=by
 refine⟨fd.map λv=>(v-s).toNat,?_,?_⟩
 ·rw[aP]
  conv=>lhs;rw[<- map_id fd]
  apply a3
  intro v H;obtain⟨k,_,rfl⟩:=cw.mp (h.mem_iff.mp H);show s+(k:Int)=s+(((s+(k:Int)-s).toNat:Nat):Int);omega
 ·have:=h.map λv=>(v-s).toNat
  rw[aP]at this;have e:(List.range M).map ((λv:Int=>(v-s).toNat) ∘ λ(k:Nat)=>s+(k:Int))=List.range M:=by
   conv=>rhs;rw[<- map_id (List.range M)]
   apply a3
   intro k _;show(s+(k:Int)-s).toNat=k;omega
  rw[e]at this;exact this
section
def Uu (h:qA t)(hi:ρ[i]? =some (some (zt t))):mQ yj (zR 1 [] (qj (qd i)) (zG 0) zU (zN (mQ yj (qw zo)))) ρ A=.ok (.int (qI t-1)) A:=by
 have n8:=h.n8;have e:=Bb (cap:=[]) (A:=A) (ρ:=ρ) (o:=t) (f:=zr) (m:=qd i) (me:=mQ yj (qw zo)) (G:=λr=>.int (wc r)) (zq hi) (by unfold zY;omega) (λr H=>(j6 (kY (w:=zr r) (ws:=r.map W.int) (A1:=A) (zq rfl) rfl)).trans (Uw (h.row_ne H)))
 have em:(t.map λr=>W.int (wc r))=(t.map wc).map W.int:=by rw[aP];rfl
 rw[em]at e;refine((j6 e).trans (Uw h.map_ne)).trans ?_
 have:qI t-1=wc (t.map wc):=by unfold qI;omega
 rw[this]
def Dq {ma mb:Ev}{M:Nat}(H:ma ρ A=.ok (.int 1) A)(h:mb ρ A=.ok (.int (1+(M:Int))) A)(a:M<=100):KP ma mb ρ A=.ok (.ref A.length) (A++[.lst (((List.range M).map λ(k:Nat)=>1+(k:Int)).map W.int)]):=by
 unfold KP;rw[H,zV,h,zV];dsimp only;have e:(1+(M:Int)-1).toNat=M:=by omega
 rw[ah (by
  have s1:jP 1=true:=by decide
  have s2:jP (1+(M:Int))=true:=by unfold jP;simp;omega
  rw[s1,s2,e,aB (by unfold zY;omega)];rfl),e,aP]
 rfl
def Known (t:bP):Prop:=∃i p o,i<34/\p.Perm (List.range (qI (Zm (wq i))-1).toNat)/\o.Perm (List.range (Zm (wq i)).length)/\t=gh (Zm (wq i)) p o
def AY (s:ju 0 [o]):∃t B,WZ [.ref 0] [o]=.ok (zt t) B/\ju 0 B/\qA t/\Known t:=by
 obtain⟨i,hi,r,B0,e0,s0,Y⟩:=BP s;obtain⟨tt,sq,q⟩:=Nc hi;have hlen:(Zm (wq i)).length=(wq i).length:=by unfold Zm;rw[ag]
 have m1:=tt.n1;have m8:=tt.n8;obtain⟨B1,e1,x1⟩:=Bn (by omega) (by omega) sq q Y
 have s1:=s0.ext x1;generalize K:Zm (wq i)=u at*;clear hlen Y;have n1:=tt.n1;have n8:=tt.n8;have kb:=kP tt;obtain⟨M,hM⟩:=aY (show 0<=qI u-1 by omega)
 have el:=Xd (ws:=u.map zr) (ρ:=[some (.ref 0),some (zt u),none,none]) (i:=1) (A:=B1) rfl;rw[ag]at el;have e2:=Dn el (by omega)
 have S:iL (List.range u.length)=((List.range u.length).map λ(a:Nat)=>0+(a:Int)).map W.int:=by
  rw[aP]
  apply a3
  intro a _;show W.int (a:Int)=W.int (0+(a:Int));rw[bo]
 rw[S]at e2;have s2:=s1.ext (Ext.one (o:=.lst (((List.range u.length).map λ(a:Nat)=>0+(a:Int)).map W.int)));obtain⟨j,h,fd,e3,U,p2,k2,N⟩:=OU s2 qY (by simp;omega)
 obtain⟨d,rfl,po⟩:=Ow p2;have Q:(d.map λ(k:Nat)=>(0:Int)+(k:Int))=d.map λ(k:Nat)=>(k:Int):=a3 λa _=>by omega
 rw[Q]at U;have X:zJ Yb (zc zo (zc (KR (mQ qZ (qw zw))) zl)) [some (.ref 0),some (zt u),none,none] B1=.ok (.ref j) h:=(qg (zQ (zq (i:=0) rfl) (zQ e2 qc))).trans e3;have hr20:0<j:=by have:=s1.lt;simp at N;omega
 have e4:zZ (zc zI zl) [some (.ref 0),some (zt u),some (.ref j),none] h=.ok (.ref h.length) (h++[.lst [.int 0]]):=j9 (zQ qE qc);have s3:=k2.st.ext (Ext.one (o:=.lst [.int 0]));have C:=jO (u:=.lst [.int 0]) U;have Z:(h++[.lst [.int 0]])[h.length]? =some (.lst [.int 0]):=qY;have h2l:=Zg U;have hB2:0<h.length:=by omega
 generalize h++[.lst [.int 0]]=B3 at e4 s3 C Z;have D:=Uu tt (ρ:=[some (.ref 0),some (zt u),some (.ref j),none]) (i:=1) (A:=B3) rfl;rw[hM]at D;have e5:=Dq (ρ:=[some (.ref 0),some (zt u),some (.ref j),none]) (A:=B3) (M:=M) (ma:=zW (.int 1)) (mb:=zi qh zM (mQ yj (zR 1 [] (qj zw) (zG 0) zU (zN (mQ yj (qw zo)))))) qE ((zO qE D).trans rfl) (by omega)
 have s4:=s3.ext (Ext.one (o:=.lst (((List.range M).map λ(k:Nat)=>1+(k:Int)).map W.int)));obtain⟨r3,f,fd3,e6,h3,p3,k3,nw3⟩:=OU s4 qY (by simp;omega)
 obtain⟨P,rfl,pp⟩:=Ow p3;have z:=k3.kp.get (jO C) (by omega)
 have J:=k3.kp.get (jO Z) (by omega)
 have E:zi qh (zZ (zc zI zl)) (zJ Yb (zc zo (zc (KP zM (zi qh zM (mQ yj (zR 1 [] (qj zw) (zG 0) zU (zN (mQ yj (qw zo))))))) zl))) [some (.ref 0),some (zt u),some (.ref j),none] h=.ok (.ref f.length) (f++[.lst ((jC P).map W.int)]):=by
  refine(zO e4 ((qg (zQ (zq (i:=0) rfl) (zQ e5 qc))).trans e6)).trans ((Gu J h3 ?_).trans rfl)
  have:=pp.length_eq
  rw[aJ]at this;rw[ag,ag,this];unfold zY;simp;omega
 have T:=jO (u:=.lst ((jC P).map W.int)) z;have h6:(f++[.lst ((jC P).map W.int)])[f.length]? =some (.lst ((jC P).map W.int)):=qY;have s5:=k3.st.ext (Ext.one (o:=.lst ((jC P).map W.int)));generalize hB5:f++[.lst ((jC P).map W.int)]=c at E T h6 s5;have hol:d.length=u.length:=by rw[po.length_eq,aJ]
 have n:∀a∈d,a<u.length:=λa x=>cu.mp (po.mem_iff.mp x);have hpl:P.length=M:=by rw[pp.length_eq,aJ]
 have y:(qI u-1).toNat=M:=by omega
 have res:=PV tt (p:=P) (o:=d) (by rw[y];exact pp) po
 refine⟨gh u P d,c,?_,s5,res.1,i,P,d,hi,by rw[K,y];exact pp,by rw[K];exact po,by rw[K]⟩
 unfold WZ;refine qO ?_;unfold RM;refine(zE ((qz ((qg (zQ ((qg (zQ (zq (i:=0) rfl) qc)).trans e0) qc)).trans e1)).trans rfl)).trans ((zE ((qz X).trans rfl)).trans ((zE ((qz E).trans rfl)).trans (qx (qW ?_))));have inner:∀a,a∈d->∀b,b∈d->zi zD zX (zi zD (zi zD zL zw) zo) [some (.int (b:Int)),some (.int (a:Int)),some (zt u),some (.ref f.length)] c=.ok (.int ((jC P).getD (at2 u a b).toNat 0)) c:=λa x b q=>by
  have L:=n a x;have I:=n b q;have bd:=Je tt L I;have kg:=G8 tt L I;obtain⟨v,H⟩:=aY bd.1;have e:zi zD (zi zD zL zw) zo [some (.int (b:Int)),some (.int (a:Int)),some (zt u),some (.ref f.length)] c=.ok (.int (v:Int)) c:=by
   rw[<- H];exact(zO ((zO (zq rfl) (zq rfl)).trans (Q4 L)) (zq rfl)).trans (Qj (by rw[tt.sq _ (yX L)];exact I))
  have l:v<(jC P).length:=by
   show v<(P.map _).length+1;rw[ag];omega
  refine(zO (zq (i:=3) rfl) e).trans (wM h6 ?_);rw[H,aG,aw,aa l,ae,aa l]
  rfl
 have ec:=Gv (cap:=[1,2,3]) (m:=qd 2) (me:=mQ jU (zR 1 [0,1,3] (qj zL) (zG 0) zU (zN (zi zD zX (zi zD (zi zD zL zw) zo))))) (ρ:=[some (.ref 0),some (zt u),some (.ref j),some (.ref f.length)]) (A:=c) (g:=TR λa=>zr (d.map λb=>(jC P).getD (at2 u a b).toNat 0)) (zq rfl) T (by simp;unfold zY;omega) (λw hw=>by
  obtain⟨v,H,rfl⟩:=cw.mp hw;obtain⟨a,x,rfl⟩:=cw.mp H;have ei:=Gv (cap:=[0,1,3]) (m:=qd 2) (me:=zi zD zX (zi zD (zi zD zL zw) zo)) (ρ:=[some (.int (a:Int)),some (zt u),some (.ref j),some (.ref f.length)]) (A:=c) (g:=TR λb=>.int ((jC P).getD (at2 u a b).toNat 0)) (zq rfl) T (by simp;unfold zY;omega) (λw hw=>by
   obtain⟨v,H,rfl⟩:=cw.mp hw;obtain⟨b,q,rfl⟩:=cw.mp H;refine(inner a x b q).trans ?_;show _=R.ok (W.int ((jC P).getD (at2 u a (Int.toNat (b:Int))).toNat 0)) c;rw[aG])
  rw[O0]at ei;refine(gO ei).trans ?_;show _=R.ok (zr (d.map λb=>(jC P).getD (at2 u (Int.toNat (a:Int)) b).toNat 0)) c;rw[aG];unfold zr;rw[aP]
  rfl)
 rw[O0]at ec;refine(gO ec).trans ?_;unfold zt gh;rw[aP]
 rfl
def Ah (s:ju n A):∃t B,Kk [.ref n] A=.ok (zt t) B/\qA t/\Known t/\Kn n A B/\B.length=A.length:=by
 obtain⟨c,b,a,f,g⟩:=s;have hm:=Zg a;obtain⟨t,A1,e,⟨C,d,E,h,H⟩,T,K⟩:=AY (o:=.lst [.int c,.bl b]) ⟨c,b,rfl,f,g⟩;refine⟨t,A.set n (.lst [.int C,.bl d]),?_,T,K,⟨Kp.set,C,d,aL hm,h,H⟩,length_set ..⟩;unfold Kk;exact AS a rfl e E (QY t)
end
def Ds {c:En}{j:jV}{N:Nat}{u v g:Nat->W}(t:∀i,i<N->j.at_ A i=some (some (.tup [u i,v i])))(H:j.at_ A N=some none)(he:∀i,i<N->me (some (u i)::some (v i)::c) A=.ok (g i) A):
  ∀(f i:Nat)(x y:Option W)(acc:List W),i+f=N->acc.length+f<=zY->∃ρ,jB j (jx 0 1) (zW (.bl true)) (zN me) f i (x::y::c) acc A=.ok (ρ,acc++(List.range' i f).map g) A:=by
 intro f
 induction f with
 |zero=>
  intro i x y acc h l
  have:i=N:=by omega
  subst this;refine⟨x::y::c,?_⟩;unfold jB;rw[H];simp
 |succ f I=>
  intro i x y acc h l;obtain⟨ρ,e⟩:=I (i+1) (some (u i)) (some (v i)) (acc++[g i]) (by omega) (by rw[aq,aV];omega)
  refine⟨ρ,?_⟩;rw[jB,t i (by omega)]
  dsimp only;rw[show jx 0 1 (.tup [u i,v i]) (x::y::c)=some (some (u i)::some (v i)::c) from rfl]
  dsimp only[zW];rw[zV];dsimp only;have E:zN me (some (u i)::some (v i)::c) acc A=.ok (some (u i)::some (v i)::c,acc++[g i]) A:=by
   unfold zN;rw[he i (by omega),zV,ah (by omega)]
  rw[E,zV];rw[e,aQ,range'_succ,aX]
  rfl
def R6 {j:jV}{N:Nat}{u v g:Nat->W}(hm:mi ρ A=.ok j A)(b:j.len=N)(d:N<=1000)(H:∀i,i<N->j.at_ A i=some (some (.tup [u i,v i])))(h:j.at_ A N=some none)
  (he:∀i,i<N->me (some (u i)::some (v i)::cap.map λi=>(ρ[i]?).join) A=.ok (g i) A):zR 2 cap mi (jx 0 1) zU (zN me) ρ A=.ok ((List.range N).map g) A:=by
 obtain⟨a,e⟩:=Ds (A:=A) (c:=cap.map λi=>(ρ[i]?).join) H h he N 0 none none [] (by omega) (by unfold zY;simp;omega)
 unfold zR;rw[hm,zV,b];show R.bind (R.nox (jB j _ _ _ N 0 (none::none::cap.map λi=>(ρ[i]?).join) [] A)) _=_;rw[e,<- range_eq_range',nil_append]
 rfl
def gc {r:R α}{a:α}(h:r=.ok a A):r.nox=.ok a A:=by rw[h];rfl
def BG {m:Ex}{w:W}(h:m (ws.map some++List.replicate (n-ws.length) none) A=.ok (.rt w) A1):Zv n m ws A=.ok w A1:=by unfold Zv;rw[h];rfl
def Uy {m:Ex}(h:m (ws.map some++List.replicate (n-ws.length) none) A=.ok (.nx ρ) A1):Zv n m ws A=.ok .non A1:=by unfold Zv;rw[h];rfl
def w8 {m1 m2:Ex}(h:m1 ρ A=.exc x A1):zp m1 m2 ρ A=.exc x A1:=by unfold zp;rw[h,OJ]
def GN {m:Ev}(h:m ρ A=.exc x A1):yK m ρ A=.exc x A1:=by unfold yK;rw[h,OJ]
def Qb {m:Ex}(h:m (ws.map some++List.replicate (n-ws.length) none) A=.exc x A1):Zv n m ws A=.exc x A1:=by unfold Zv;rw[h];rfl
def GH {m M:Ev}{us vs:List W}(h:m ρ A=.ok (.tup us) A)(h':M ρ A=.ok (.tup vs) A):wW m M ρ A=.ok (wU (.tup us) (.tup vs) us.length) A:=by
 unfold wW;rw[h,zV,h',zV]
 rfl
def FW {a:Ea}{xs ys:List W}{r:Nat}{u e:Option W}(H:A[r]? =some (.lst xs))(h:a [u,e,none,some (.ref r)] A=.ok ys A)(l:xs.length+ys.length<=100):
  zS 3 (zi qh zX (zZ a)) [u,e,none,some (.ref r)] A=.ok (.nx [u,e,none,some (.ref (A.length+1))]) (A++[.lst ys]++[.lst (xs++ys)]):=by
 refine(qz ((zO (zq (i:=3) rfl) (j9 h)).trans (Gu (jO H) qY (by unfold zY;omega)))).trans ?_
 rw[aq,aV]
 rfl
def GD {a:Ea}{xs ys zs:List W}{L:Hx}{u e:Option W}(c:L[j]? =some (.lst xs))(b:∀m A,a [u,e,none,m] A=.ok ys A)(H:xs.length+ys.length<=100)(h:xs++ys=zs):
  zS 3 (zi qh zX (zZ a)) [u,e,none,some (.ref (A.length+j))] (A++L)=.ok (.nx [u,e,none,some (.ref (A.length+(L.length+1)))]) (A++(L++[.lst ys,.lst zs])):=by
 have d:(A++L)[A.length+j]? =some (.lst xs):=by rw[ay (by omega),show A.length+j-A.length=j by omega];exact c
 rw[FW d (b _ _) H,h,aq,aQ,aQ,Nat.add_assoc]
 rfl
noncomputable def qG (i a n:Nat):List W:=(List.range' a n).map λk=>W.bl (decide (k=i))
def Nf {f:Fn}{us:List W}{k:Nat}(hn:ji us=true)(h:f us []=.ok (.ref k) A1)(H:A1[k]? =some (.lst ws))(hw:ji ws=true):iso f us A=.ok (.ref A.length) (A++[.lst ws]):=by
 unfold iso;rw[ah hn,h];dsimp only;rw[H];dsimp only;rw[ah hw]
section
def Fh (h:n<1000000):jP (n:Int)=true:=by
 unfold jP;rw[ak,aj,aj];omega
def ig {a b:W}{d:PyData}(c:qk A 8 a=some d)(H:qk A 8 b=some d)(h:PyData.eqv d d=true):jb a b A=.ok (.bl false) A:=by
 show wD true a b A=_;unfold wD;rw[c,H];dsimp only;rw[ah rfl,h]
 rfl
end
section
def ij (a:A[0]? =some (.ro (ns.map W.int)))(k:Nat):∃x:Int,WO [.ref 0,.int k] A=.ok (.int x) A:=by
 have H:qb (.ref 0) A=some (ns.map W.int):=by unfold qb;dsimp only;rw[a]
 have l:mQ qZ (qw zo) [some (.ref 0),some (.int k)] A=.ok (.int ns.length) A:=by
  rw[j6 (kY (w:=.ref 0) (A1:=A) (zq rfl) H)];unfold qZ;rw[ag]
 have e:zi kF zw (mQ qZ (qw zo)) [some (.ref 0),some (.int k)] A=.ok (.bl (decide ((k:Int)<ns.length))) A:=(zO (zq (w:=.int k) rfl) l).trans rfl
 by_cases h:k<ns.length
 ·refine⟨ns[k],qO ?_⟩
  unfold Vl;rw[aB (by omega)]at e
  refine qx ((yo e).trans (qx (qW ?_)));refine(zO (x:=.ref 0) (y:=.int k) (A1:=A) (A2:=A) (zq rfl) (zq rfl)).trans ?_;unfold zD;rw[H];dsimp only;rw[GQ (v:=.int ns[k]) (by rw[aw,aa h];rfl)]
 ·refine⟨0,qO ?_⟩
  unfold Vl;rw[az (by omega)]at e
  exact(zE ((jA e).trans rfl)).trans rfl
def BE (H:A[0]? =some (.ro (ns.map W.int)))(k:Nat):∃o,Yf [.ref 0,.int k] A=.ok (.ref A.length) (A++[o])/\ju A.length (A++[o]):=by
 obtain⟨x,e⟩:=ij H k;have a:zS 2 (zJ WO (zc zo (zc zw zl))) [some (.ref 0),some (.int k),none] A=.ok (.nx [some (.ref 0),some (.int k),some (.int x)]) A:=by
  refine(qz (w:=.int x) (A1:=A) ?_).trans rfl;rw[qg (ws:=[.ref 0,.int k]) (A1:=A) rfl];exact e
 have E:zi TX zL (zi JV Jf (zW (.int 18))) [some (.ref 0),some (.int k),some (.int x)] A=.ok (.bl (decide ((1000000000000000000:Int)<=x))) A:=(zO (x:=.int x) (y:=.int 1000000000000000000) (A1:=A) (A2:=A) (zq rfl) rfl).trans rfl
 by_cases h:(1000000000000000000:Int)<=x
 ·refine⟨.lst [.int (x-1000000000000000000),.bl true],qO ?_,x-1000000000000000000,true,qY,by omega,λz=>nomatch z⟩
  unfold Vz;rw[aB h]at E;refine(zE a).trans (qx ((yo E).trans (qx (qW (j9 ?_)))))
  rfl
 ·refine⟨.lst [.int (x%2147483647),.bl false],qO ?_,x%2147483647,false,qY,emod_nonneg _ (by decide),λ_=>bL _ (by decide)⟩
  unfold Vz;rw[az h]at E;refine(zE a).trans ((zE ((jA E).trans rfl)).trans (qx (qW (j9 ?_))));refine zQ (A1:=A) (A2:=A) ((zO (x:=.int x) (y:=.int 2147483647) (A1:=A) (A2:=A) (zq rfl) rfl).trans (YE (by decide))) rfl
end
def GX (i:Nat):Hx:=[.lst (qG i 0 3),.lst (qG i 3 3),.lst (qG i 0 6),.lst (qG i 6 3),.lst (qG i 0 9),.lst (qG i 9 3),.lst (qG i 0 12),.lst (qG i 12 3),.lst (qG i 0 15),.lst [.int i]]
noncomputable def gA (x:Str):Option Nat:=if x = "NoTable" then some 0 else if x = "NotSteady" then some 1 else if x = "NoKinds" then some 7 else if x = "TooMany" then some 11 else none
def Pw (h:gA x=some i):(x = "NoTable" /\ i=0)∨(x = "NotSteady" /\ i=1)∨(x = "NoKinds" /\ i=7)∨(x = "TooMany" /\ i=11):=by
 unfold gA at h
 by_cases h0:x = "NoTable"
 ·rw[ah h0]at h;cases h;exact .inl ⟨h0,rfl⟩
 ·rw[ar h0]at h
  by_cases h1:x = "NotSteady"
  ·rw[ah h1]at h;cases h;exact .inr (.inl ⟨h1,rfl⟩)
  ·rw[ar h1]at h
   by_cases a:x = "NoKinds"
   ·rw[ah a]at h;cases h;exact .inr (.inr (.inl ⟨a,rfl⟩))
   ·rw[ar a]at h
    by_cases H:x = "TooMany"
    ·rw[ah H]at h;cases h;exact .inr (.inr (.inr (⟨H,rfl⟩)))
    ·rw[ar H]at h;cases h
def CC (a:gA x=some i)(u:W)(A:Hx):Vg [some u,some (.xc x),none,none] A=.ok (.rt (.ref (A.length+9))) (A++GX i):=by
 have two:=Pw a;unfold Vg;have d:∀(m:Option W)(A:Hx),(zc (jl (jF je "NoTable") zw) (zc (jl (jF je "NotSteady") zw) (zc (jl (jF je "NoPlace") zw) zl))) [some u,some (.xc x),none,m] A=.ok (qG i 0 3) A:=λm A=>by
  rcases two with ⟨rfl,rfl⟩|⟨rfl,rfl⟩|⟨rfl,rfl⟩|⟨rfl,rfl⟩<;>kernel_rfl
 have a1:∀(m:Option W)(A:Hx),(zc (jl (jF je "NoKind") zw) (zc (jl (jF je "NoMix") zw) (zc (jl (jF je "NoNumber") zw) zl))) [some u,some (.xc x),none,m] A=.ok (qG i 3 3) A:=λm A=>by
  rcases two with ⟨rfl,rfl⟩|⟨rfl,rfl⟩|⟨rfl,rfl⟩|⟨rfl,rfl⟩<;>kernel_rfl
 have a2:∀(m:Option W)(A:Hx),(zc (jl (jF je "NoLot") zw) (zc (jl (jF je "NoKinds") zw) (zc (jl (jF je "NoPaper") zw) zl))) [some u,some (.xc x),none,m] A=.ok (qG i 6 3) A:=λm A=>by
  rcases two with ⟨rfl,rfl⟩|⟨rfl,rfl⟩|⟨rfl,rfl⟩|⟨rfl,rfl⟩<;>kernel_rfl
 have c:∀(m:Option W)(A:Hx),(zc (jl (jF je "NoParting") zw) (zc (jl (jF je "NoClosed") zw) (zc (jl (jF je "TooMany") zw) zl))) [some u,some (.xc x),none,m] A=.ok (qG i 9 3) A:=λm A=>by
  rcases two with ⟨rfl,rfl⟩|⟨rfl,rfl⟩|⟨rfl,rfl⟩|⟨rfl,rfl⟩<;>kernel_rfl
 have b:∀(m:Option W)(A:Hx),(zc (jl (jF je "NoText") zw) (zc (jl (jF je "NoLine") zw) (zc (jl (jF je "NoDeed") zw) zl))) [some u,some (.xc x),none,m] A=.ok (qG i 12 3) A:=λm A=>by
  rcases two with ⟨rfl,rfl⟩|⟨rfl,rfl⟩|⟨rfl,rfl⟩|⟨rfl,rfl⟩<;>kernel_rfl
 have ap:∀n,qG i 0 n++qG i n 3=qG i 0 (n+3):=λn=>by
  unfold qG;rw[<- aO]
  congr 1
  have:=List.range'_append_1 (s:=0) (m:=n) (n:=3)
  rw[Nat.zero_add]at this;exact this
 have E:zS 3 (zZ (zc (jl (jF je "NoTable") zw) (zc (jl (jF je "NotSteady") zw) (zc (jl (jF je "NoPlace") zw) zl)))) [some u,some (.xc x),none,none] A=.ok (.nx [some u,some (.xc x),none,some (.ref (A.length+0))]) (A++[.lst (qG i 0 3)]):=(qz (j9 (d _ A))).trans rfl;refine(zE E).trans ?_;refine(zE (GD (A:=A) (L:=[.lst (qG i 0 3)]) (j:=0) (xs:=qG i 0 3) (ys:=qG i 3 3) (zs:=qG i 0 6) rfl a1 (by simp[qG]) (ap 3))).trans ?_
 refine(zE (GD (A:=A) (L:=[.lst (qG i 0 3),.lst (qG i 3 3),.lst (qG i 0 6)]) (j:=2) (xs:=qG i 0 6) (ys:=qG i 6 3) (zs:=qG i 0 9) rfl a2 (by simp[qG]) (ap 6))).trans ?_
 refine(zE (GD (A:=A) (L:=[.lst (qG i 0 3),.lst (qG i 3 3),.lst (qG i 0 6),.lst (qG i 6 3),.lst (qG i 0 9)]) (j:=4) (xs:=qG i 0 9) (ys:=qG i 9 3) (zs:=qG i 0 12) rfl c (by simp[qG]) (ap 9))).trans ?_
 refine(zE (GD (A:=A) (L:=[.lst (qG i 0 3),.lst (qG i 3 3),.lst (qG i 0 6),.lst (qG i 6 3),.lst (qG i 0 9),.lst (qG i 9 3),.lst (qG i 0 12)]) (j:=6) (xs:=qG i 0 12) (ys:=qG i 12 3) (zs:=qG i 0 15) rfl b (by simp[qG]) (ap 12))).trans ?_
 generalize H:A++([.lst (qG i 0 3),.lst (qG i 3 3),.lst (qG i 0 6),.lst (qG i 6 3),.lst (qG i 0 9),.lst (qG i 9 3),.lst (qG i 0 12)]++[.lst (qG i 12 3),.lst (qG i 0 15)])=B;have l:B.length=A.length+9:=by rw[<- H];simp
 have hm:B[A.length+8]? =some (.lst (qG i 0 15)):=by rw[<- H,ay (by omega),show A.length+8-A.length=8 by omega];rfl
 refine(zE (ρ1:=[some u,some (.xc x),none,some (.ref (A.length+8))]) (A1:=B) ((jA (A1:=B) (yY (k:=true) ?_)).trans rfl)).trans (qx (qW ?_))
 ·rcases two with ⟨rfl,rfl⟩|⟨rfl,rfl⟩|⟨rfl,rfl⟩|⟨rfl,rfl⟩<;>kernel_rfl
 have e:=Pg (cap:=[3]) (mi:=qR (zW (.int 15))) (j:=yd 0 15) (ifs:=zi zD zw zo) (me:=qd 0) (ρ:=[some u,some (.xc x),none,some (.ref (A.length+8))]) (A:=B) (N:=15) (item:=λk=>.int (0+(k:Int))) (g:=λk=>.int (0+(k:Int))) (keep:=λk=>decide (k=i)) rfl rfl (by unfold zY;omega) (λk h=>yQ h) (yP (by omega))
  (λk h=>by
   refine(zO (zq (i:=1) (w:=.ref (A.length+8)) rfl) (zq (i:=0) (w:=.int (0+(k:Int))) rfl)).trans ?_;rw[bo];refine wM hm ?_;unfold qG;rw[aw,List.getElem?_range' (by omega)]
   simp) (λk h _=>rfl)
 rw[kJ e,l];have hf:((List.range 15).filter λk=>decide (k=i)).map (λk:Nat=>W.int (0+(k:Int)))=[.int i]:=by
  rcases two with ⟨rfl,rfl⟩|⟨rfl,rfl⟩|⟨rfl,rfl⟩|⟨rfl,rfl⟩<;>rfl
 rw[hf,<- H,aQ]
 rfl
def ik (h:gA x=some i):je.contains x=true:=by
 rcases Pw h with ⟨rfl,_⟩|⟨rfl,_⟩|⟨rfl,_⟩|⟨rfl,_⟩<;>decide +kernel
abbrev LS:List Lm:=yH jM
def RF (k:Nat)(ws:List W)(A:Hx):R W:=match yS LS k ws A with
 |.exc x A1=>(match gA x with
  |some i=>.ok (.ref (A1.length+9)) (A1++GX i)|none=>.bad)
 |_=>.bad
def As {PG:j3}{k:Nat}(H:yS LS k ws A=.exc x A1)(h:gA x=some i):
  qU 4 (Kg PG (yS LS)) [.clo k ws (PG k)] A=.ok (.ref (A1.length+9)) (A1++GX i):=by
 have E:Xo 0 PG (yS LS) [some (.clo k ws (PG k)),some .non,none,none] A=.exc x A1:=by
  unfold Xo;refine(ah rfl).trans H
 have e:Wo 0 1 2 je PG (yS LS) [some (.clo k ws (PG k)),some .non,none,none] A=.ok (.nx [some (.clo k ws (PG k)),some (.xc x),none,none]) A1:=by
  unfold Wo;rw[E];dsimp only;rw[ah (ik h)]
  rfl
 refine qO ?_;unfold Kg;refine(zE (ρ1:=[some (.clo k ws (PG k)),some .non,none,none]) (A1:=A) rfl).trans ?_;exact(zE e).trans (CC h _ A1)
def N8 {k:Nat}(H:yS LS k ws A=.exc x A1)(h:gA x=some i):RF k ws A=.ok (.ref (A1.length+9)) (A1++GX i):=by
 unfold RF;rw[H];dsimp only;rw[h]
def il {PG:j3}(us:List W)(A:Hx):Jh PG RF us A=.bad∨qU 4 (Kg PG (yS LS)) us A=Jh PG RF us A:=by
 by_cases H:Jh PG RF us A=.bad
 ·exact .inl H
 right
 unfold Jh at H ⊢
 split
 ·rename_i k ws P
  dsimp only at H
  by_cases a:P=PG k
  ·subst a
   rw[ah rfl]at H ⊢;cases e:yS LS k ws A with
   |exc x A1=>
    cases hm:gA x with
    |none=>exfalso;apply H;unfold RF;rw[e];dsimp only;rw[hm]|some i=>rw[As e hm,N8 e hm]
   |ok w A1=>exfalso;apply H;unfold RF;rw[e]|bad=>exfalso;apply H;unfold RF;rw[e]
  ·rw[ar a]at H;exact absurd rfl H
 ·rename_i h
  exfalso
  apply H
  split
  ·rename_i k ws P
   exact(h k ws P rfl).elim
  ·rfl
section
def KQ {k:Nat}{t:Lm}(h:ls[k]? =some t):yS ls k ws A=t.m (ws.map some) A:=by unfold yS;rw[h]
end
def HD:gA "NoTable"=some 0:=by decide +kernel
def L4:gA "NotSteady"=some 1:=by decide +kernel
def RP:gA "NoKinds"=some 7:=by decide +kernel
def Hg:gA "TooMany"=some 11:=by decide +kernel
section
variable {k g:Nat}{t:Lm}{PF:j3}
def AI (h:A[1]? =some (.tab jh Pt))(k:Nat):kD 1 jh Pt k (PF k) ρ A=.ok (.clo k [] (PF k)) A:=by
 unfold kD;rw[h];dsimp only;rw[ah ⟨rfl,rfl⟩]
def Kt (d:A[1]? =some (.tab jh Pt))(H:LS[k]? =some t)(c:Zq t.idx ρ=some ws)(a:yS LS k ws A=.exc x A)(h:gA x=some g):∃B,zi jb (wy LS PF (wA RF) (zc (kD 1 jh Pt k (PF k)) zl)) (zZ (zc (zW (.int (g:Int))) zl)) ρ A=.ok (.bl false) B/\Ext A B:=by
 have e:wy LS PF (wA RF) (zc (kD 1 jh Pt k (PF k)) zl) ρ A=.ok (.ref (A.length+9)) (A++GX g):=by
  unfold wy;rw[zQ (AI d k) qc,zV]
  have:ZT LS PF ρ [.clo k [] (PF k)]=some [.clo k ws (PF k)]:=by
   unfold ZT Ws;dsimp only;rw[ah rfl,H];dsimp only;rw[c]
   rfl
  rw[this];exact N8 a h
 have x1:Ext A (A++GX g):=⟨_,rfl⟩;have b:(A++GX g)[A.length+9]? =some (.lst [.int (g:Int)]):=by rw[ay (by omega),show A.length+9-A.length=9 by omega];rfl
 refine⟨A++GX g++[.lst [.int (g:Int)]],(zO e (j9 (zQ qE qc))).trans ((Y7 (l:=[(g:Int)]) (m:=[(g:Int)]) (jO b) qY).trans ?_),x1.app⟩;rw[aB rfl]<;>rfl
end
section
variable {w:W}
def Af (h:qA t)(A:Hx):ZJ [zt t] A=.ok (.bl true) A:=AL h A
def Ai (h:gm A w):ZJ [w] A=.ok (.bl false) A:=h A λ_ _ z=>z
def Od (h:qA t)(A:Hx):Kc [zt t] A=.ok .non A:=by
 refine Uy (ρ:=[some (zt t)]) ?_;unfold Ve;refine(zE (ρ1:=[some (zt t)]) (A1:=A) ((jA (A1:=A) ?_).trans rfl)).trans rfl;exact gc (yY (k:=true) ((qg (ws:=[zt t]) (A1:=A) rfl).trans (Af h A)))
def Es (h:gm A w):Kc [w] A=.exc "NoTable" A:=by
 refine Qb ?_;unfold Ve;exact w8 ((yo (A1:=A) (gc (yY (k:=false) ((qg (ws:=[w]) (A1:=A) rfl).trans (Ai h))))).trans (w8 rfl))
variable {a b k:Nat}
def NA {ty:Ty}(h:jY w A=some ty):(kA ty .int&&!kA ty .bl)=ZF w:=by
 cases w with
 |ref k=>
  unfold jY at h;dsimp only at h
  split at h
  ·cases h;rfl
  ·cases h;rfl
  ·cases h
 |clo _ _ _=>cases h|xc _=>cases h|_=>cases h;rfl
def Ma {a b:Ev}{p q:Bool}(h:a ρ A=.ok (.bl p) A)(H:b ρ A=.ok (.bl q) A):ym a b ρ A=.ok (.bl (p&&q)) A:=by
 cases p with
 |true=>exact(gB h).trans H|false=>exact Q8 h
def Ae {ty:Ty}(h:jY w A=some ty):QN [w] A=.ok (.bl (ZF w)) A:=by
 unfold QN Ge Pr;refine qO (qx (qW ((Ma (ZS (zq rfl) h) (yY (ZS (zq rfl) h))).trans ?_)));rw[NA h]
def KS (h:qA t)(A:Hx):ZH [zt t] A=.ok (.int (qI t)) A:=by
 refine gR (A1:=[]) (Zx t) rfl (qO ?_);unfold Ri;refine qx (qW ((zO (Uu h rfl) qE).trans ?_));show R.ok (W.int (qI t-1+1)) []=_
 congr 2
 omega
def Yo (h:qA t)(A:Hx):kT [zt t] A=.ok (.int (qI t)) A:=by
 refine gR (A1:=[]) (Zx t) rfl (qO ?_);unfold RG;refine qx (qW ((zO qE (Uu h rfl)).trans ?_));show R.ok (W.int (1+(qI t-1))) []=_
 congr 2
 omega
def len_tab (hi:ρ[i]? =some (some (zt t))):mQ qZ (qw (qd i)) ρ A=.ok (.int (t.length:Int)) A:=by
 have:=Xd (ws:=t.map zr) (A:=A) hi
 rw[ag]at this;exact this
end
section
variable {N b:Nat}
def AD {g:Nat->Int}{k:Int}(h:b<N):((List.range N).map λj=>W.int (g j)).set b (.int k)=(List.range N).map λj=>W.int (if j=b then k else g j):=by
 apply ext_getElem?
 intro i
 by_cases hi:i<N
 ·by_cases q:b=i
  ·subst q
   rw[aL (by simpa using hi),aw,aU hi]
   simp
  ·rw[aI q,aw,aw,aU hi]
   simp[Ne.symm q]
 ·rw[aF (by simp;omega),aF (by simp;omega)]
end
section
variable {f:Fn}{us:List W}
def EY (v:Int)(A:Hx):qU 2 (QJ f) [.int v,.int v] A=.ok (.bl true) A:=by
 refine qO ?_;unfold QJ;refine(zE (ρ1:=[some (.int v),some (.int v)]) (A1:=A) ((jA (A1:=A) rfl).trans rfl)).trans (qx (qW ?_));exact(gB (A1:=A) ((zO (zq (i:=0) rfl) (zq (i:=1) rfl)).trans ((Y4 _ _ _).trans (by rw[aB rfl])))).trans rfl
def E6 {x y:W}{ty:Ty}(H:qb x A=some ws)(h:qb y A=some ws)(T:jY x A=some ty)(t:jY y A=some ty)(a:ty=.tup∨ty=.lst)(l:ws.length<=1000)(hf:∀w∈ws,f [w,w] A=.ok (.bl true) A):qU 2 (QJ f) [x,y] A=.ok (.bl true) A:=by
 refine qO ?_;unfold QJ;have b:mQ qZ (qw (qd 0)) [some x,some y] A=.ok (.int ws.length) A:=j6 (kY (w:=x) (A1:=A) (zq rfl) H);have E:mQ qZ (qw (qd 1)) [some x,some y] A=.ok (.int ws.length) A:=j6 (kY (w:=y) (A1:=A) (zq rfl) h);have I:XB .tup .lst (qd 1) [some x,some y] A=.ok (.bl true) A:=by
  unfold XB;rw[zq (w:=y) rfl,zV,t];rcases a with rfl|rfl<;>rfl
 have n1:∀c,zi jb (yJ c (qd 0)) (yJ c (qd 1)) [some x,some y] A=.ok (.bl false) A:=λc=>(zO (ZS (w:=x) (zq rfl) T) (ZS (w:=y) (zq rfl) t)).trans ((ML _ _ _).trans (by rw[bE];rfl))
 refine qx ((yo (A1:=A) I).trans ?_);refine(zE (ρ1:=[some x,some y]) (A1:=A) ((jA (A1:=A) ((YQ (A1:=A) (n1 .tup)).trans (n1 .lst))).trans qD)).trans ?_;refine(zE (ρ1:=[some x,some y]) (A1:=A) ((jA (A1:=A) ((zO b E).trans ((My _ _ _).trans (by rw[aB rfl];rfl)))).trans qD)).trans (qx (qW ?_))
 have z:wW (qd 0) (qd 1) [some x,some y] A=.ok (wU x y ws.length) A:=by
  unfold wW;rw[zq (w:=x) rfl,zV,zq (w:=y) rfl,zV,H,h]
 have d:=R6 (A:=A) (cap:=[]) (ρ:=[some x,some y]) (me:=zJ f (zc (qd 0) (zc (qd 1) zl))) (N:=ws.length) (u:=λi=>ws.getD i .non) (v:=λi=>ws.getD i .non) (g:=λ_=>.bl true) z rfl l
  (λi hi=>by
   show(match qb x A,qb y A with|some us,some vs=>some (zip2 us[i]? vs[i]?)|_,_=>none)=_
   rw[H,h];show some (zip2 ws[i]? ws[i]?)=_;rw[ae,aa hi];rfl)
  (by
   show(match qb x A,qb y A with|some us,some vs=>some (zip2 us[ws.length]? vs[ws.length]?)|_,_=>none)=_
   rw[H,h];show some (zip2 ws[ws.length]? ws[ws.length]?)=_;rw[aF (av _)];rfl)
  (λi hi=>by
   have e:ws.getD i .non=ws[i]:=by rw[ae,aa hi];rfl
   rw[e];exact(qg (ws:=[ws[i],ws[i]]) (A1:=A) rfl).trans (hf _ (aN hi)))
 exact(j6 d).trans (KU (p:=λ_=>true) λ_ _=>rfl)
end
structure LC (K:Nat)(μ:Nat->Nat->Int)(C:Hx):Prop where
 top:C[2 * K]? =some (.lst ((List.range K).map λi=>W.ref (2 * i+1)))
 row:∀i,i<K->C[2 * i+1]? =some (.lst ((List.range K).map λj=>W.int (μ i j)))
section
variable {K a b:Nat}{C:Hx}
def LC.put (h:LC K μ C)(e:i<K)(d:j<K)(k:Int):∃b,gF (.ref (2 * i+1)) (.int (j:Int)) (.int k) C=.ok () b/\LC K (JZ μ i j k) b:=by
 have r:=h.row i e;have H:=Zg r;refine⟨_,BW r (by simp;omega),?_,λc hi=>?_⟩
 ·rw[aI (by omega)];exact h.top
 ·by_cases q:c=i
  ·subst q
   rw[aL H,AD d]
   congr 3
   funext a
   unfold JZ
   by_cases z:a=j
   ·rw[ah z,ah ⟨rfl,z⟩]
   ·rw[ar z,ar (by rintro⟨_,w⟩;exact z w)]
  ·rw[aI (by omega),h.row c hi]
   congr 3
   funext a
   unfold JZ;rw[ar (by rintro⟨w,_⟩;exact q w)]
def LC.aug (h:LC K μ C){mo mi:Ev}(o:mo ρ C=.ok (.ref (2 * i+1)) C)(hi:mi ρ C=.ok (.int (j:Int)) C)(a:i<K)(H:j<K):∃c,JO mo mi zM ρ C=.ok (.nx ρ) c/\LC K (JZ μ i j (μ i j+1)) c:=by
 obtain⟨c,e,l⟩:=h.put a H (μ i j+1);refine⟨c,?_,l⟩;unfold JO;rw[o,zV,hi,zV];dsimp only;rw[ah (by omega),h.row i a]
 dsimp only;rw[aG,aw,aU H];show R.bind (gF (.ref (2 * i+1)) (.int (j:Int)) (.int (μ i j+1)) C) _=_;rw[e,zV]
def LC.ix (h:LC K μ C){m mi:Ev}(hm:m ρ C=.ok (.ref (2 * K)) C)(hi:mi ρ C=.ok (.int (i:Int)) C)(H:i<K):zi zD m mi ρ C=.ok (.ref (2 * i+1)) C:=
 (zO hm hi).trans (wM h.top (by rw[aw,aU H];rfl))
def rep1 (w:W):∀n:Nat,(List.replicate n [w]).flatten=(List.range n).map λ_=>w:=λn=>by
 rw[List.map_const',aJ]
 induction n with
 |zero=>rfl|succ n i=>rw[bg,a5,i];rfl
def OO (g:K<=8){x0 x1 x2 x4:Option W}{l:List (Option W)}:∃C,qL (zR 1 [3] (qR zX) (zG 0) zU (zN (zi qT (zZ (zc zI zl)) zw))) (x0::x1::x2::some (.int (K:Int))::x4::l) []=.ok (.ref (2 * K)) C/\LC K (λ_ _=>0) C:=by
 have hm:=gy (m:=qd 3) (ρ:=x0::x1::x2::some (.int (K:Int))::x4::l) (A:=[]) (k:=(K:Int)) rfl (wK (by omega))
 rw[aG]at hm;obtain⟨f,acc,B,e,_,H,h⟩:=ZK (nl:=1) (cap:=[3]) (tw:=zG 0) (ifs:=zW (.bl true)) (em:=zN (zi qT (zZ (zc zI zl)) zw)) (N:=K)
  (I:=λi ρ acc B=>(∃y,ρ=[y,some (.int (K:Int))])/\(B.length=2 * i/\∀c,c<i->B[2 * c+1]? =some (.lst ((List.range K).map λj=>W.int 0)))/\acc=(List.range i).map λc=>W.ref (2 * c+1)) hm rfl
  (λi ρ acc B hi ⟨⟨y,a⟩,⟨b,H⟩,h⟩=>by
   subst a h;refine⟨_,_,yQ hi,rfl,.inl ⟨B,_,_,B++[.lst [.int 0]]++[.lst ((List.range K).map λj=>W.int 0)],rfl,Zf (y:=.ref (2 * i+1)) ?_ (by rw[ag,aJ];unfold zY;omega),⟨_,rfl⟩,⟨by simp;omega,λc d=>?_⟩,by rw[bc,aO];rfl⟩⟩
   ·refine(zO (j9 (zQ qE qc)) (zq (i:=1) (w:=.int (K:Int)) rfl)).trans ?_
    unfold qT;dsimp only;rw[qY];dsimp only;rw[ah (by rw[wK (by omega),aG];simp;unfold zY;omega),aG,aq,b,rep1]
    rfl
   ·by_cases q:c=i
    ·subst q
     rw[ay (by simp;omega)]
     simp[b]
    ·rw[ai (by simp;omega),ai (by omega)]
     exact H c (by omega))
  (λρ acc B _=>yP (by omega)) ⟨⟨none,rfl⟩,⟨rfl,λc d=>absurd d (bN _)⟩,rfl⟩
 subst h;refine⟨B++[.lst ((List.range K).map λc=>W.ref (2 * c+1))],?_,?_,λi hi=>?_⟩
 ·rw[kJ e,H.1]
 ·rw[<- H.1];exact qY
 ·exact jO (H.2 i hi)
theorem LC.tup (h:LC K μ C)(b:K<=8){i:Nat}(hi:ρ[i]? =some (some (.ref (2 * K)))):mQ jU (zR 1 [] (qj (qd i)) (zG 0) zU (zN (mQ jU (qw zo)))) ρ C=.ok (zt (yk K μ)) C:=by
 have e:=Gv (cap:=[]) (ws:=(List.range K).map λi=>W.ref (2 * i+1)) (me:=mQ jU (qw zo)) (zq hi) h.top (by simp;unfold zY;omega) (g:=λw=>match w with|.ref n=>(match C[n]? with|some (.lst ws)=>.tup ws|_=>.non)|_=>.non) (λw hw=>by
  obtain⟨c,a,rfl⟩:=cw.mp hw;have H:=h.row c (cu.mp a);dsimp only;rw[H];exact gO (kY (w:=.ref (2 * c+1)) (A1:=C) (zq rfl) (by unfold qb;dsimp only;rw[H])))
 rw[gO e]
 congr 1
 unfold zt yk;rw[aP,aP]
 congr 1
 refine a3 λc a=>?_;have H:=h.row c (cu.mp a);show(match C[2 * c+1]? with|some (.lst ws)=>W.tup ws|_=>.non)=zr ((List.range K).map (μ c))
 rw[H];unfold zr;rw[aP]
 rfl
def shr (t:bP)(a b:Nat):Nat->Nat->Nat->Int
 |0=>λ_ _=>0|n+1=>JZ (shr t a b n) (at2 t a n).toNat (at2 t b n).toNat (shr t a b n (at2 t a n).toNat (at2 t b n).toNat+1)
def kI (t:bP)(K a b:Nat):bP:=yk K (shr t a b t.length)
abbrev HS (t:bP)(K:Nat)(S:Nat->List (bQ)):Prop:=∀a b,a<t.length->b<t.length->kI t K a b=S (at2 t a b).toNat
def K2 (h:qA t)(d:qI t=(K:Int))(c:a<t.length)(H:b<t.length):((at2 t a b).toNat:Int)=at2 t a b/\(at2 t a b).toNat<K:=by
 have f:=Je h c H;have e:=G8 h c H;omega
def VW (h:qA t)(g:qI t=(K:Int))(d:a<t.length)(c:b<t.length)(A:Hx):ZG [zt t,.int (a:Int),.int (b:Int)] A=.ok (zt (kI t K a b)) A:=by
 have n8:=h.n8;have x:=kP h;have f:((t.getD a []).map W.int).length=t.length:=by rw[ag,h.sq _ (yX d)]
 have u:((t.getD b []).map W.int).length=t.length:=by rw[ag,h.sq _ (yX c)]
 obtain⟨C,v,r⟩:=OO (K:=K) (by omega) (x0:=some (zt t)) (x1:=some (.int (a:Int))) (x2:=some (.int (b:Int))) (x4:=none) (l:=[none,none])
 obtain⟨i,B,E,L,y5,y6,H⟩:=kU (j:=wU (.tup ((t.getD a []).map W.int)) (.tup ((t.getD b []).map W.int)) ((t.getD a []).map W.int).length) (st:=turn (jx 5 6) (zp (JO (zi zD qB jj) kS zM) zA)) (N:=t.length)
  (I:=λn ρ B=>LC K (shr t a b n) B/\∃y5 y6,ρ=[some (zt t),some (.int (a:Int)),some (.int (b:Int)),some (.int (K:Int)),some (.ref (2 * K)),y5,y6])
  (λn ρ B hn ⟨l,y5,y6,H⟩=>by
   subst H;obtain⟨p,q⟩:=K2 h g d hn;obtain⟨o,Q⟩:=K2 h g c hn;obtain⟨w,e,s⟩:=l.aug (ρ:=[some (zt t),some (.int (a:Int)),some (.int (b:Int)),some (.int (K:Int)),some (.ref (2 * K)),some (.int (at2 t a n)),some (.int (at2 t b n))]) (mo:=zi zD qB jj) (mi:=qd 6) (l.ix (zq rfl) (zq (by rw[p];rfl)) q) (zq (by rw[o];rfl)) q Q
   refine⟨.tup [.int (at2 t a n),.int (at2 t b n)],_,w,?_,(kq rfl).trans ((zE e).trans qD),s,_,_,rfl⟩;show some (zip2 ((t.getD a []).map W.int)[n]? ((t.getD b []).map W.int)[n]?)=_;rw[int_at (by rw[h.sq _ (yX d)];exact hn),int_at (by rw[h.sq _ (yX c)];exact hn)]
   rfl)
  (λρ B _=>by
   show some (zip2 ((t.getD a []).map W.int)[t.length]? ((t.getD b []).map W.int)[t.length]?)=_;rw[aF (by omega),aF (by omega)]
   rfl) t.length 0 [some (zt t),some (.int (a:Int)),some (.int (b:Int)),some (.int (K:Int)),some (.ref (2 * K)),none,none] C (by omega) ⟨r,_,_,rfl⟩
 subst H;refine gR (A1:=B) (Zx t) (QY _) (qO ?_);unfold SU;refine(zE (qz ((qg (zQ (zq rfl) qc)).trans ((KS h []).trans (by rw[g]))))).trans ?_
 refine(zE (qz v)).trans ?_;refine(zE (ρ1:=[some (zt t),some (.int (a:Int)),some (.int (b:Int)),some (.int (K:Int)),some (.ref (2 * K)),y5,y6]) (A1:=B) ((wt (GH ((zO (zq rfl) (zq rfl)).trans (Q4 d)) ((zO (zq rfl) (zq rfl)).trans (Q4 c)))).trans ?_)).trans (qx (qW (L.tup (by omega) rfl)))
 have:(wU (.tup ((t.getD a []).map W.int)) (.tup ((t.getD b []).map W.int)) ((t.getD a []).map W.int).length).len=t.length:=f
 rw[this];exact E
def Ep (H:qA t)(f:qI t=(K:Int))(d:a<t.length)(c:b<t.length)(A:Hx):Kh [zt t,.int (a:Int),.int (b:Int)] A=.ok (zt (kI t K a b)) A:=by
 have n8:=H.n8;have w:=kP H;obtain⟨C,u,r⟩:=OO (K:=K) (by omega) (x0:=some (zt t)) (x1:=some (.int (a:Int))) (x2:=some (.int (b:Int))) (x4:=none) (l:=[none])
 obtain⟨g,B,E,L,y5,h⟩:=kU (j:=yd 0 t.length) (st:=turn (zG 5) (zp (JO (zi zD qB (zi zD (zi zD zo zw) jj)) (zi zD (zi zD zo zL) jj) zM) zA)) (N:=t.length)
  (I:=λn ρ B=>LC K (shr t a b n) B/\∃y5,ρ=[some (zt t),some (.int (a:Int)),some (.int (b:Int)),some (.int (K:Int)),some (.ref (2 * K)),y5])
  (λn ρ B hn ⟨l,y5,h⟩=>by
   subst h;obtain⟨p,q⟩:=K2 H f d hn;obtain⟨o,Q⟩:=K2 H f c hn;have x1:zi zD (zi zD zo zw) jj [some (zt t),some (.int (a:Int)),some (.int (b:Int)),some (.int (K:Int)),some (.ref (2 * K)),some (.int (n:Int))] B=.ok (.int ((at2 t a n).toNat:Int)) B:=by
    rw[p];exact(zO ((zO (zq rfl) (zq rfl)).trans (Q4 d)) (zq rfl)).trans (Qj (by rw[H.sq _ (yX d)];exact hn))
   have x2:zi zD (zi zD zo zL) jj [some (zt t),some (.int (a:Int)),some (.int (b:Int)),some (.int (K:Int)),some (.ref (2 * K)),some (.int (n:Int))] B=.ok (.int ((at2 t b n).toNat:Int)) B:=by
    rw[o];exact(zO ((zO (zq rfl) (zq rfl)).trans (Q4 c)) (zq rfl)).trans (Qj (by rw[H.sq _ (yX c)];exact hn))
   obtain⟨v,e,s⟩:=l.aug (mo:=zi zD qB (zi zD (zi zD zo zw) jj)) (l.ix (zq rfl) x1 q) x2 q Q;refine⟨.int (0+(n:Int)),_,v,yQ hn,(kq (ρ1:=[some (zt t),some (.int (a:Int)),some (.int (b:Int)),some (.int (K:Int)),some (.ref (2 * K)),some (.int (n:Int))]) (by rw[bo];rfl)).trans ((zE e).trans qD),s,_,rfl⟩)
  (λρ B _=>yP (by omega)) t.length 0 [some (zt t),some (.int (a:Int)),some (.int (b:Int)),some (.int (K:Int)),some (.ref (2 * K)),none] C (by omega) ⟨r,_,rfl⟩
 subst h;refine gR (A1:=B) (Zx t) (QY _) (qO ?_);unfold Ro;have hm:=gy (len_tab (t:=t) (i:=0) (ρ:=[some (zt t),some (.int (a:Int)),some (.int (b:Int)),some (.int (K:Int)),some (.ref (2 * K)),none]) (A:=C) rfl) (wK (n:=t.length) (by omega))
 rw[aG]at hm;refine(zE (qz ((qg (zQ (zq rfl) qc)).trans ((Yo H []).trans (by rw[f]))))).trans ?_
 refine(zE (qz u)).trans ?_;exact(zE ((wt hm).trans E)).trans (qx (qW (L.tup (by omega) rfl)))
end
section
variable {w:W}{a:Ea}
def O3 {m:Ev}{a:En}{w:W}(h:m ρ A=.ok w A1)(h':tw w ρ=some a):Qx m tw ρ A=.ok (.nx a) A1:=by
 unfold Qx;rw[h,zV,h']
def ip {a:W}(h:ρ[i]? =some (some a)):Zq [i] ρ=some [a]:=by
 unfold Zq;rw[h]
 rfl
def Wr {a b:W}(H:ρ[i]? =some (some a))(h:ρ[j]? =some (some b)):Zq [i,j] ρ=some [a,b]:=by
 unfold Zq;rw[H,ip h]
end
def Jm (t:bP)(a b:Nat):List (Int×Int):=(List.range t.length).map λc=>(at2 t a c,at2 t b c)
def wz (t:bP):Prop:=∀a b c e,a<t.length->b<t.length->c<t.length->e<t.length->at2 t a b=at2 t c e->(Jm t a b).Perm (Jm t c e)
def iq (t:bP)(k:Int):Nat:=((List.range (t.length * t.length)).find? λm=>decide (at2 t (m/t.length) (m%t.length)=k)).getD 0
def Uo (t:bP):Bool:=(List.range t.length).all λa=>(List.range t.length).all λb=>let m:=iq t (at2 t a b);(Jm t a b).isPerm (Jm t (m/t.length) (m%t.length))
def VM (h:Uo t=true):wz t:=λa b c e l j i he g=>by
 unfold Uo at h;rw[bw]at h;have f:=h a (cu.mpr l);rw[bw]at f;have n:=List.isPerm_iff.mp (f b (cu.mpr j));have d:=h c (cu.mpr i);rw[bw]at d;have H:=List.isPerm_iff.mp (d e (cu.mpr he));rw[<- g]at H;exact n.trans H.symm
def FE:((List.range 34).all λi=>Uo (Zm (wq i)))=true:=by decide +kernel
def Aw {p:bU}(b:p.Nodup){u v:Nat}(H:u<=p.length)(h:v<=p.length)(e:(jC p).getD u 0=(jC p).getD v 0):u=v:=by
 by_cases h1:u=0
 ·by_cases a:v=0
  ·omega
  ·exfalso
   subst h1;rw[YC (v:=v) (by omega) h]at e
   have:(jC p).getD 0 0=0:=rfl
   omega
 ·by_cases a:v=0
  ·exfalso
   subst a;rw[YC (v:=u) (by omega) H]at e
   have:(jC p).getD 0 0=0:=rfl
   omega
  ·rw[YC (by omega) H,YC (by omega) h]at e
   have E:p[u-1]'(by omega)=p[v-1]'(by omega):=by omega
   have:=(getElem_inj b).mp E
   omega
section
variable {p o:bU}
def Gw (H:o.Perm (List.range t.length)){a b:Nat}(d:a<t.length)(c:b<t.length):at2 (gh t p o) a b=(jC p).getD (at2 t (o.getD a 0) (o.getD b 0)).toNat 0:=by
 have h:o.length=t.length:=by rw[H.length_eq,aJ]
 unfold at2 gh;rw[ae (l:=List.map _ o),aw,aa (by omega)]
 show(List.map _ o).getD b 0=_;rw[ae,aw,aa (by omega)]
 show(jC p).getD (at2 t _ _).toNat 0=_;unfold at2;rw[ae (l:=o) (i:=a),aa (by omega),ae (l:=o) (i:=b),aa (by omega)]
 rfl
def Fe (h:qA t)(l:p.Perm (List.range (qI t-1).toNat))(g:o.Perm (List.range t.length))(s:wz t):wz (gh t p o):=by
 have hlen:=(PV h l g).2;have u:o.length=t.length:=by rw[g.length_eq,aJ]
 have w:p.length=(qI t-1).toNat:=by rw[l.length_eq,aJ]
 have K:=kP h;have n:p.Nodup:=(l.nodup_iff).mpr List.nodup_range;have H:∀i,i<t.length->o.getD i 0<t.length:=λi hi=>by
  rw[ae,aa (by omega)]
  exact cu.mp (g.mem_iff.mp (aN _))
 have v:∀a b,a<t.length->b<t.length->(at2 t a b).toNat<=p.length/\((at2 t a b).toNat:Int)=at2 t a b:=λa b f d=>by
  have:=Je h f d
  have:=G8 h f d
  omega
 have r:∀a b,a<t.length->b<t.length->(Jm (gh t p o) a b).Perm ((Jm t (o.getD a 0) (o.getD b 0)).map λq=>((jC p).getD q.1.toNat 0,(jC p).getD q.2.toNat 0)):=λa b f d=>by
  unfold Jm;rw[hlen,aP];have x:(List.range t.length).map (λc=>(at2 (gh t p o) a c,at2 (gh t p o) b c))=(List.range t.length).map λc=>((jC p).getD (at2 t (o.getD a 0) (o.getD c 0)).toNat 0,(jC p).getD (at2 t (o.getD b 0) (o.getD c 0)).toNat 0):=a3 λc j=>by
   rw[Gw g f (cu.mp j),Gw g d (cu.mp j)]
  rw[x];have E:=Yd o 0 λc=>((jC p).getD (at2 t (o.getD a 0) c).toNat 0,(jC p).getD (at2 t (o.getD b 0) c).toNat 0);rw[u]at E;rw[<- E];exact g.map _
 intro a b c e f d j he q;rw[hlen]at f d j he;rw[Gw g f d,Gw g j he]at q;have k1:=v _ _ (H a f) (H b d);have k2:=v _ _ (H c j) (H e he);have Q:=Aw n k1.1 k2.1 q
 have:=s _ _ _ _ (H a f) (H b d) (H c j) (H e he) (by omega)
 exact(r a b f d).trans ((this.map _).trans (r c e j he).symm)
def Hz (h:Known t):wz t:=by
 obtain⟨i,p,o,hi,a,b,rfl⟩:=h;have H:=cx.mp FE i (cu.mpr hi);exact Fe (Nc hi).1 a b (VM H)
variable {a b c e K:Nat}
theorem Gp (h:qA t)(d:a<t.length)(H:b<t.length):∀n,n<=t.length->∀i j:Nat,shr t a b n i j=((((List.range n).map λc=>(at2 t a c,at2 t b c)).count ((i:Int),(j:Int)):Nat):Int)
 |0,_,i,j=>rfl|n+1,hn,i,j=>by
  have I:=Gp h d H n (by omega)
  have k1:=(Je h d (show n<t.length by omega)).1
  have k2:=(Je h H (show n<t.length by omega)).1
  rw[bc,aO,List.count_append,List.map_singleton,List.count_singleton];show JZ (shr t a b n) (at2 t a n).toNat (at2 t b n).toNat (shr t a b n (at2 t a n).toNat (at2 t b n).toNat+1) i j=_;unfold JZ
  by_cases q:i=(at2 t a n).toNat/\j=(at2 t b n).toNat
  ·rw[ah q,<- q.1,<- q.2,I,ah (by rw[aM];ext<;>simp<;>omega)]
   omega
  ·rw[ar q,I,ar (by
    rw[aM];intro z;injection z with e Z
    exact q ⟨by omega,by omega⟩)]
   omega
def OM (h:qA t)(s:wz t)(f:a<t.length)(d:b<t.length)(H:c<t.length)(he:e<t.length)(q:at2 t a b=at2 t c e):kI t K a b=kI t K c e:=by
 unfold kI yk;refine a3 λi _=>a3 λj _=>?_;rw[Gp h f d _ (av _),Gp h H he _ (av _)]
 have:=(s a b c e f d H he q).count_eq ((i:Int),(j:Int))
 unfold Jm at this;rw[this]
end
noncomputable def Y1 (r:bQ):PyData:=.tuple (r.map .int)
def Jg (t:bP):PyData:=.tuple (t.map Y1)
theorem GG {f:W->Option PyData}{g:α->W}{h:α->PyData}(e:∀a,f (g a)=some (h a)):∀l:List α,yu f (l.map g)=some (l.map h)
 |[]=>rfl|a::l=>by
  rw[aX,yu,e a,GG e l]
  rfl
def Uq (A:Hx)(n:Nat)(r:bQ):qk A (n+1) (zr r)=some (Y1 r):=by
 show(yu (qk A n) (r.map W.int)).map PyData.tuple=_;rw[GG (h:=PyData.int) (λi=>by cases n<;>rfl)]
 rfl
def Yx (A:Hx)(n:Nat)(t:bP):qk A (n+2) (zt t)=some (Jg t):=by
 show(yu (qk A (n+1)) (t.map zr)).map PyData.tuple=_;rw[GG (h:=Y1) (Uq A n)]
 rfl
def Oz {r:Nat}{ts:List (bP)}(h:A[r]? =some (.lst (ts.map zt))):qk A 8 (.ref r)=some (.list (ts.map Jg)):=by
 show(match qb (.ref r) A with|some ws=>(yu (qk A 7) ws).map PyData.list|none=>none)=_
 have:qb (.ref r) A=some (ts.map zt):=by unfold qb;dsimp only;rw[h]
 rw[this];dsimp only;rw[GG (h:=Jg) (Yx A 5)]
 rfl
section
variable {a b c e k K:Nat}{w:W}{kvs:List (Key×W)}
def Ot (t:bP):PyData.eqv (Jg t) (Jg t)=true:=SeqAt.eqv_refl _ (Kx 8 _ _ (Yx [] 6 t)).1
def neT (t:bP)(A:Hx):jb (zt t) (zt t) A=.ok (.bl false) A:=ig (Yx A 6 t) (Yx A 6 t) (Ot t)
def DE (H:qA t)(s:wz t)(K:Nat):∃S:Nat->List (bQ),∀a b,a<t.length->b<t.length->kI t K a b=S (at2 t a b).toNat:=by
 classical
 refine⟨λk=>if h:∃q:Nat×Nat,q.1<t.length/\q.2<t.length/\(at2 t q.1 q.2).toNat=k then kI t K h.choose.1 h.choose.2 else [],λa b d c=>?_⟩;have x:∃q:Nat×Nat,q.1<t.length/\q.2<t.length/\(at2 t q.1 q.2).toNat=(at2 t a b).toNat:=⟨(a,b),d,c,rfl⟩;dsimp only;rw[dif_pos x];obtain⟨f,e,g⟩:=x.choose_spec;have i:=Je H d c;have B:=Je H f e;exact OM H s d c f e (by omega)
theorem OC {k:Key}:∀{kvs l:List (Key×W)},yt k (kvs++l)=match yt k kvs with|some w=>some w|none=>yt k l
 |[],l=>rfl|(j,w)::r,l=>by
  show(if j=k then some w else yt k (r++l))=match (if j=k then some w else yt k r) with|some w=>some w|none=>yt k l
  by_cases h:j=k
  ·rw[ah h,ah h]
  ·rw[ar h,ar h];exact OC
theorem OK {k:Key}{w:W}:∀{kvs:List (Key×W)},yt k kvs=some w->(k,w)∈kvs
 |[],h=>by cases h|(j,u)::r,h=>by
  have h:(if j=k then some u else yt k r)=some w:=h
  by_cases q:j=k
  ·rw[ah q]at h;cases h;subst q;exact ax ..
  ·rw[ar q]at h;exact ao _ (OK h)
structure FP (t:bP)(done:Nat->Nat->Prop)(m:Nat)(kvs:List (Key×W)):Prop where
 all:∀p∈kvs,∃a b:Nat,a<t.length/\b<t.length/\p=(.inl (at2 t a b),.tup [.int (a:Int),.int (b:Int)])
 seen:∀a b,a<t.length->b<t.length->done a b->∃w,yt (.inl (at2 t a b)) kvs=some w
 len:kvs.length<=m
def FP.step {d d':Nat->Nat->Prop}{m:Nat}{x3:Option W}(h:FP t d m kvs)(i:a<t.length)(g:b<t.length)(hd:∀x y,d' x y->d x y∨(x=a/\y=b))(hm:m<100):
  ∃w K,YL Qe zw jj (zB (zc zL (zc qB zl))) [some (zt t),some (.ref 0),some (.int (a:Int)),x3,some (.int (b:Int)),some (.int (at2 t a b))] [.dct kvs]=.ok w [.dct K]/\FP t d' (m+1) K:=by
 have l:=h.len;have E:YL Qe zw jj (zB (zc zL (zc qB zl))) [some (zt t),some (.ref 0),some (.int (a:Int)),x3,some (.int (b:Int)),some (.int (at2 t a b))] [.dct kvs]=Qe (.ref 0) (.int (at2 t a b)) (.tup [.int (a:Int),.int (b:Int)]) [.dct kvs]:=rfl;rw[E];unfold Qe;show ∃w K,(if kvs.length<zY then(match yt (.inl (at2 t a b)) kvs with|some w=>R.ok w [.dct kvs]|none=>.ok (.tup [.int (a:Int),.int (b:Int)]) [O.dct (kvs++[((Sum.inl (at2 t a b):Key),W.tup [.int (a:Int),.int (b:Int)])])]) else .bad)=.ok w [.dct K]/\FP t d' (m+1) K
 rw[ah (by unfold zY;omega)]
 cases v:yt (.inl (at2 t a b)) kvs with
 |some w=>
  refine⟨w,kvs,rfl,h.all,λx y f e H=>?_,by omega⟩
  rcases hd x y H with z|⟨rfl,rfl⟩
  ·exact h.seen x y f e z
  ·exact⟨w,v⟩
 |none=>
  refine⟨_,_,rfl,λp c=>?_,λx y f e H=>?_,by rw[aq,aV];omega⟩
  ·rcases List.mem_append.mp c with c|c
   ·exact h.all p c
   ·rw[cy.mp c];exact⟨a,b,i,g,rfl⟩
  ·rw[OC]
   rcases hd x y H with z|⟨rfl,rfl⟩
   ·obtain⟨w,hw⟩:=h.seen x y f e z
    rw[hw];exact⟨w,rfl⟩
   ·rw[v];exact⟨.tup [.int (x:Int),.int (y:Int)],by show(if _ then _ else _)=_;rw[ah rfl]⟩
def O7 {f:Fn}{us:List W}{k:Nat}(hn:ji us=true)(h:f us []=.ok (.ref k) A1)(H:A1[k]? =some (.dct kvs))(hw:ji (kvs.map (·.2))=true):iso f us A=.ok (.ref A.length) (A++[.dct kvs]):=by
 unfold iso;rw[ah hn,h];dsimp only;rw[H];dsimp only;rw[ah hw]
def Ng (z:qA t):∃kvs,Vp [zt t] []=.ok (.ref 0) [.dct kvs]/\FP t (λ_ _=>True) 64 kvs:=by
 have n8:=z.n8;have d:(t.map zr).length=t.length:=ag ..;obtain⟨n,B,e,kvs,f,hf,s,r,Y,y5,H⟩:=kU (j:=kR (zt t) t.length) (st:=turn (jx 2 3) (zp (jL (wB zX) (jx 4 5) (zp (yK (YL Qe zw jj (zB (zc zL (zc qB zl))))) zA)) zA)) (N:=t.length)
  (I:=λa ρ B=>∃kvs,B=[.dct kvs]/\FP t (λx _=>x<a) (a * 8) kvs/\∃s r Y y5,ρ=[some (zt t),some (.ref 0),s,r,Y,y5])
  (λa ρ B v ⟨kvs,f,hf,s,r,Y,y5,H⟩=>by
   subst f H;have u:=z.sq _ (yX v);have l:((t.getD a []).map W.int).length=t.length:=by rw[ag,u]
   obtain⟨n,B,e,K,f,c,q,o,H⟩:=kU (j:=kR (.tup ((t.getD a []).map W.int)) ((t.getD a []).map W.int).length) (st:=turn (jx 4 5) (zp (yK (YL Qe zw jj (zB (zc zL (zc qB zl))))) zA)) (N:=t.length)
    (I:=λb ρ B=>∃kvs,B=[.dct kvs]/\FP t (λx y=>x<a∨(x=a/\y<b)) (a * 8+b) kvs/\∃Y y5,ρ=[some (zt t),some (.ref 0),some (.int (a:Int)),some (zr (t.getD a [])),Y,y5])
    (λb ρ B D ⟨kvs,f,hf,Y,y5,H⟩=>by
     subst f H;obtain⟨w,K,e,c⟩:=hf.step (a:=a) (b:=b) (d':=λx y=>x<a∨(x=a/\y<b+1)) (x3:=some (zr (t.getD a []))) v D (λx y h=>by omega) (by omega)
     exact⟨_,_,[.dct K],YO (int_at (by omega)),(kq rfl).trans ((zE (w9 e)).trans qD),K,rfl,c,_,_,rfl⟩)
    (λρ B _=>by have:=YF (A:=B) (ws:=(t.getD a []).map W.int);rw[l]at this ⊢;exact this) t.length 0 [some (zt t),some (.ref 0),some (.int (a:Int)),some (zr (t.getD a [])),Y,y5] [.dct kvs] (by omega)
    ⟨kvs,rfl,⟨hf.all,λx y g i h=>hf.seen x y g i (by omega),by have:=hf.len;omega⟩,_,_,rfl⟩
   subst f H;refine⟨.tup [.int (a:Int),zr (t.getD a [])],[some (zt t),some (.ref 0),some (.int (a:Int)),some (zr (t.getD a [])),q,o],[.dct K],?_,(kq (ρ1:=[some (zt t),some (.ref 0),some (.int (a:Int)),some (zr (t.getD a [])),Y,y5]) rfl).trans ((zE ((wt (Yl (zq rfl))).trans ?_)).trans qD),K,rfl,⟨c.all,λx y g i h=>c.seen x y g i (by omega),by have:=c.len;omega⟩,_,_,_,_,rfl⟩
   ·have:=YO (A:=[O.dct kvs]) (K5 v)
    rw[d]at this;exact this
   ·have:(kR (.tup ((t.getD a []).map W.int)) ((t.getD a []).map W.int).length).len=t.length:=l
    rw[this];exact e)
  (λρ B _=>by have:=YF (A:=B) (ws:=t.map zr);rw[d]at this;exact this) t.length 0 [some (zt t),some (.ref 0),none,none,none,none] [.dct []] (by omega)
  ⟨[],rfl,⟨λp C=>(by cases C),λx y _ _ h=>absurd h (bN _),zero_le _⟩,_,_,_,_,rfl⟩
 subst f H;refine⟨kvs,qO ?_,hf.all,λx y g i _=>hf.seen x y g i g,by have:=hf.len;omega⟩
 unfold Rc;refine(zE (qz (w:=.ref 0) (A1:=[.dct []]) rfl)).trans ?_;have hm:wB zo [some (zt t),some (.ref 0),none,none,none,none] [.dct []]=.ok (kR (zt t) t.length) [.dct []]:=by
  have:=Yl (m:=qd 0) (ρ:=[some (zt t),some (.ref 0),none,none,none,none]) (A:=[.dct []]) (A1:=[.dct []]) (ws:=t.map zr) (zq rfl)
  rw[d]at this;exact this
 exact(zE ((wt hm).trans e)).trans (qx (qW (zq rfl)))
theorem FP.nr {d:Nat->Nat->Prop}{m:Nat}(h:FP t d m kvs):ji (kvs.map (·.2))=true:=by
 have:∀l:List (Key×W),(∀p∈l,p.2.nr=true)->ji (l.map (·.2))=true:=by
  intro l
  induction l with
  |nil=>intro _;rfl|cons p l i=>
   intro H;show(p.2.nr&&ji (l.map (·.2)))=true;rw[H p (ax ..),i λq c=>H q (ao _ c)]
   rfl
 refine this kvs λp H=>?_;obtain⟨a,b,_,_,rfl⟩:=h.all p H
 rfl
def FP.get {m:Nat}(h:FP t (λ_ _=>True) m kvs)(d:qA t)(n:qI t=(K:Int))(l:k<K):∃a b:Nat,a<t.length/\b<t.length/\at2 t a b=(k:Int)/\yt (.inl (k:Int)) kvs=some (.tup [.int (a:Int),.int (b:Int)]):=by
 obtain⟨a,b,g,f,e⟩:=G4 d (v:=k) (by omega)
 obtain⟨w,hw⟩:=h.seen a b g f trivial;rw[e]at hw;obtain⟨A,B,c,H,j⟩:=h.all _ (OK hw);injection j with E i
 injection E with E
 exact⟨A,B,c,H,E.symm,by rw[hw,i]⟩
def Bc (g:qA t)(s:wz t)(A:Hx):WQ [zt t] A=.ok .non A:=by
 have n8:=g.n8;have S:=kP g;have l:(t.map zr).length=t.length:=ag ..;obtain⟨K,L⟩:=aY (show 0<=qI t by omega)
 obtain⟨kvs,P,hf⟩:=Ng g;obtain⟨n,B,e,H,C,z,x,r,y5,y6,Y,y,h⟩:=kU (j:=Wj kvs) (st:=turn (GZ 1 2 3) (zp (zS 4 (zJ ZG (zc zo (zc zL (zc zX zl))))) (zp (jL (wB zo) (jx 5 6) (zp (jL (wB kS) (jx 7 8) (zp (qy (ym (zi jv Zy zw) (zi jb (zJ ZG (zc zo (zc jj (zc wm zl)))) qB)) (zp (qF (zB (zc zL (zc zX (zc jj (zc wm zl)))))) zA) zA) zA)) zA)) zA))) (N:=kvs.length)
  (I:=λ_ ρ B=>B=[]/\∃C z x r y5 y6 Y y,ρ=[some (zt t),C,z,x,r,y5,y6,Y,y])
  (λi ρ B hi ⟨H,C,z,x,r,y5,y6,Y,y,h⟩=>by
   subst H h;obtain⟨a,b,J,E,M⟩:=hf.all kvs[i] (aN hi);obtain⟨n,B,e,H,w,v,f,d,h⟩:=kU (j:=kR (zt t) t.length) (st:=turn (jx 5 6) (zp (jL (wB kS) (jx 7 8) (zp (qy (ym (zi jv Zy zw) (zi jb (zJ ZG (zc zo (zc jj (zc wm zl)))) qB)) (zp (qF (zB (zc zL (zc zX (zc jj (zc wm zl)))))) zA) zA) zA)) zA)) (N:=t.length)
    (I:=λ_ ρ B=>B=[]/\∃y5 y6 Y y,ρ=[some (zt t),some (.int (at2 t a b)),some (.int (a:Int)),some (.int (b:Int)),some (zt (kI t K a b)),y5,y6,Y,y])
    (λc ρ B u ⟨H,y5,y6,Y,y,h⟩=>by
     subst H h;have D:=g.sq _ (yX u);have o:((t.getD c []).map W.int).length=t.length:=by rw[ag,D]
     obtain⟨n,B,e,H,f,d,h⟩:=kU (j:=kR (.tup ((t.getD c []).map W.int)) ((t.getD c []).map W.int).length) (st:=turn (jx 7 8) (zp (qy (ym (zi jv Zy zw) (zi jb (zJ ZG (zc zo (zc jj (zc wm zl)))) qB)) (zp (qF (zB (zc zL (zc zX (zc jj (zc wm zl)))))) zA) zA) zA)) (N:=t.length)
      (I:=λ_ ρ B=>B=[]/\∃Y y,ρ=[some (zt t),some (.int (at2 t a b)),some (.int (a:Int)),some (.int (b:Int)),some (zt (kI t K a b)),some (.int (c:Int)),some (zr (t.getD c [])),Y,y])
      (λe ρ B he ⟨H,Y,y,h⟩=>by
       subst H h;have eq:=(zO (ρ:=[some (zt t),some (.int (at2 t a b)),some (.int (a:Int)),some (.int (b:Int)),some (zt (kI t K a b)),some (.int (c:Int)),some (zr (t.getD c [])),some (.int (e:Int)),some (.int (at2 t c e))]) (A:=[]) (zq (i:=8) rfl) (zq (i:=1) rfl)).trans (Y4 (at2 t c e) (at2 t a b) []);have test:ym (zi jv Zy zw) (zi jb (zJ ZG (zc zo (zc jj (zc wm zl)))) qB) [some (zt t),some (.int (at2 t a b)),some (.int (a:Int)),some (.int (b:Int)),some (zt (kI t K a b)),some (.int (c:Int)),some (zr (t.getD c [])),some (.int (e:Int)),some (.int (at2 t c e))] []=.ok (.bl false) []:=by
        by_cases q:at2 t c e=at2 t a b
        ·rw[aB q]at eq
         refine(gB eq).trans ((zO ((qg (zQ (zq rfl) (zQ (zq rfl) (zQ (zq rfl) qc)))).trans (VW g L u he [])) (zq rfl)).trans ?_);rw[OM (K:=K) g s u he J E q];exact neT _ _
        ·rw[az q]at eq
         exact Q8 eq
       exact⟨_,_,[],YO (int_at (by omega)),(kq rfl).trans ((zE ((jA test).trans qD)).trans qD),rfl,_,_,rfl⟩)
      (λρ B _=>by have:=YF (A:=B) (ws:=(t.getD c []).map W.int);rw[o]at this ⊢;exact this) t.length 0 [some (zt t),some (.int (at2 t a b)),some (.int (a:Int)),some (.int (b:Int)),some (zt (kI t K a b)),some (.int (c:Int)),some (zr (t.getD c [])),Y,y] [] (by omega) ⟨rfl,_,_,rfl⟩
     subst H h;refine⟨.tup [.int (c:Int),zr (t.getD c [])],[some (zt t),some (.int (at2 t a b)),some (.int (a:Int)),some (.int (b:Int)),some (zt (kI t K a b)),some (.int (c:Int)),some (zr (t.getD c [])),f,d],[],?_,(kq (ρ1:=[some (zt t),some (.int (at2 t a b)),some (.int (a:Int)),some (.int (b:Int)),some (zt (kI t K a b)),some (.int (c:Int)),some (zr (t.getD c [])),Y,y]) rfl).trans ((zE ((wt (Yl (zq rfl))).trans ?_)).trans qD),rfl,_,_,_,_,rfl⟩
     ·have:=YO (A:=[]) (K5 u)
      rw[l]at this;exact this
     ·have:(kR (.tup ((t.getD c []).map W.int)) ((t.getD c []).map W.int).length).len=t.length:=o
      rw[this];exact e)
    (λρ B _=>by have:=YF (A:=B) (ws:=t.map zr);rw[l]at this;exact this) t.length 0 [some (zt t),some (.int (at2 t a b)),some (.int (a:Int)),some (.int (b:Int)),some (zt (kI t K a b)),y5,y6,Y,y] [] (by omega) ⟨rfl,_,_,_,_,rfl⟩
   subst H h;have hm:wB zo [some (zt t),some (.int (at2 t a b)),some (.int (a:Int)),some (.int (b:Int)),some (zt (kI t K a b)),y5,y6,Y,y] []=.ok (kR (zt t) t.length) []:=by
    have:=Yl (m:=qd 0) (ρ:=[some (zt t),some (.int (at2 t a b)),some (.int (a:Int)),some (.int (b:Int)),some (zt (kI t K a b)),y5,y6,Y,y]) (A:=[]) (A1:=[]) (ws:=t.map zr) (zq rfl)
    rw[l]at this;exact this
   refine⟨.tup [.int (at2 t a b),.tup [.int (a:Int),.int (b:Int)]],[some (zt t),some (.int (at2 t a b)),some (.int (a:Int)),some (.int (b:Int)),some (zt (kI t K a b)),w,v,f,d],[],?_,(kq (ρ1:=[some (zt t),some (.int (at2 t a b)),some (.int (a:Int)),some (.int (b:Int)),r,y5,y6,Y,y]) rfl).trans ?_,rfl,_,_,_,_,_,_,_,_,rfl⟩
   ·show some (kvs[i]?.map λp=>W.tup [kW p.1,p.2])=_
    rw[aa hi,M]
    rfl
   ·exact(zE (qz ((qg (zQ (zq rfl) (zQ (zq rfl) (zQ (zq rfl) qc)))).trans (VW g L J E [])))).trans ((zE ((wt hm).trans e)).trans qD))
  (λρ B _=>by
   show some (kvs[kvs.length]?.map λp=>W.tup [kW p.1,p.2])=_;rw[aF (av _)]
   rfl) kvs.length 0 [some (zt t),none,none,none,none,none,none,none,none] [] (by omega) ⟨rfl,_,_,_,_,_,_,_,_,rfl⟩
 subst H h;refine gR (A1:=[]) (Zx t) rfl (qO ?_);unfold SY;have hit:K3 (zJ Ye (zc zo zl)) [some (zt t),none,none,none,none,none,none,none,none] []=.ok (Wj kvs) []:=by
  unfold K3;dsimp only;have Q:zJ Ye (zc zo zl) [some (zt t),none,none,none,none,none,none,none,none] []=.ok (.ref 0) [.dct kvs]:=(qg (zQ (zq rfl) qc)).trans (O7 (Zx t) P rfl hf.nr);rw[Q,zV];exact ah hf.nr
 exact(zE ((wt hit).trans e)).trans (qx (qW qE))
def ES {S:Nat->List (bQ)}(h:qA t)(e:qI t=(K:Int))(l:HS t K S)(A:Hx):Vq [zt t] A=.ok (.ref A.length) (A++[.lst ((List.range K).map λk=>zt (S k))]):=by
 have n8:=h.n8;have y:=kP h;obtain⟨kvs,p,hf⟩:=Ng h;have ch:∀k:Nat,∃q:Nat×Nat,k<K->q.1<t.length/\q.2<t.length/\at2 t q.1 q.2=(k:Int)/\yt (.inl (k:Int)) kvs=some (.tup [.int (q.1:Int),.int (q.2:Int)]):=λk=>by
  by_cases j:k<K
  ·obtain⟨a,b,d,c,f,o⟩:=hf.get h e j
   exact⟨(a,b),λ_=>⟨d,c,f,o⟩⟩
  ·exact⟨(0,0),λz=>absurd z j⟩
 obtain⟨fp,H⟩:=Classical.axiomOfChoice ch;have x:zJ Ye (zc zo zl) [some (zt t),none,none] []=.ok (.ref 0) [.dct kvs]:=(qg (zQ (zq rfl) qc)).trans (O7 (Zx t) p rfl hf.nr);have hm:=gy (m:=zJ ZH (zc zo zl)) (ρ:=[some (zt t),some (.ref 0),none]) (A:=[.dct kvs]) (A1:=[.dct kvs]) (k:=(K:Int)) ((qg (zQ (zq rfl) qc)).trans ((KS h _).trans (by rw[e]))) (wK (by omega))
 rw[aG]at hm;have s:=w5 (cap:=[1]) (me:=zi Xl zw zo) (ρ:=[some (zt t),some (.ref 0),none]) (A:=[.dct kvs]) (N:=K) (item:=λi=>.int (0+(i:Int))) (g:=λk=>.tup [.int ((fp k).1:Int),.int ((fp k).2:Int)]) hm rfl (by unfold zY;omega) (λi hi=>yQ hi) (yP (by omega)) (λi hi=>by
  refine(zO (zq (i:=1) (w:=.ref 0) rfl) (zq (i:=0) (w:=.int (0+(i:Int))) rfl)).trans ?_;rw[bo];show(match yt (.inl (i:Int)) kvs with|some w=>R.ok w [.dct kvs]|none=>.bad)=_
  rw[(H i hi).2.2.2])
 have E:=kJ s;have r:=R6 (A:=[.dct kvs]++[.lst ((List.range K).map λk=>.tup [.int ((fp k).1:Int),.int ((fp k).2:Int)])]) (cap:=[0]) (ρ:=[some (zt t),some (.ref 0),some (.ref 1)]) (me:=zJ ZG (zc zL (zc zo (zc zw zl)))) (mi:=qj zL) (N:=K) (u:=λk=>.int ((fp k).1:Int)) (v:=λk=>.int ((fp k).2:Int)) (g:=λk=>zt (S k)) (Qg (n:=1) (zq rfl) rfl) (by show((List.range K).map _).length=K;rw[ag,aJ]) (by omega)
  (λi hi=>Ql (n:=1) rfl (by rw[aw,aU hi];rfl))
  (Qi (n:=1) rfl (by rw[ag,aJ];exact av _))
  (λi hi=>by
   obtain⟨d,c,f,_⟩:=H i hi;refine(qg (ws:=[zt t,.int ((fp i).1:Int),.int ((fp i).2:Int)]) (zQ (zq rfl) (zQ (zq rfl) (zQ (zq rfl) qc)))).trans ((VW h e d c _).trans ?_);rw[l _ _ d c,f,aG])
 refine Nf (k:=2) (A1:=[.dct kvs]++[.lst ((List.range K).map λk=>.tup [.int ((fp k).1:Int),.int ((fp k).2:Int)])]++[.lst ((List.range K).map λk=>zt (S k))]) (Zx t) (qO ?_) rfl (GL (λ_=>QY _) _);unfold Rz;refine(zE (qz x)).trans ?_;refine(zE (qz E)).trans ?_;exact qx (qW (kJ r))
variable {y:W}
def G0 (h:qA t)(s:wz t)(A:Hx):Ya [zt t] A=.ok .non A:=by
 refine Uy (ρ:=[some (zt t)]) ?_;unfold WK;exact(zE (w9 ((qg (zQ (zq rfl) qc)).trans (Od h A)))).trans ((zE ((jA (gc ((zO ((qg (zQ (zq rfl) qc)).trans (Bc h s A)) qE).trans rfl))).trans qD)).trans qD)
def ir (h:gm A w):Ya [w] A=.exc "NoTable" A:=by
 refine Qb ?_;unfold WK;exact w8 (GN ((qg (zQ (zq rfl) qc)).trans (Es h)))
def XZ (t:bP):Prop:=qA t/\∃ws,Vm [zt t] []=.ok (.tup ws) []/\ji ws=true
def iu (h:XZ t)(A:Hx):Ya [zt t] A=.exc "NotSteady" A:=by
 obtain⟨H,ws,e,hn⟩:=h;have E:WQ [zt t] A=.ok (.tup ws) A:=gR (A1:=[]) (Zx t) hn e;refine Qb ?_;unfold WK;exact(zE (w9 ((qg (zQ (zq rfl) qc)).trans (Od H A)))).trans (w8 ((yo (gc ((zO ((qg (zQ (zq rfl) qc)).trans E) qE).trans rfl))).trans (w8 rfl)))
noncomputable def wI:Nat->List (bQ)
 |0=>[[0,1,2],[1,0,1],[2,1,0]]|1=>[[0,1,2,2],[1,0,1,2],[2,1,0,1],[2,2,1,0]]|_=>[[0,1,1,2],[1,0,2,2],[1,2,0,2],[2,2,2,0]]
def iw (i:Nat):XZ (wI i):=by
 have h:∀i,i<3->XZ (wI i):=λi hi=>by
  have c:i=0∨i=1∨i=2:=by omega
  rcases c with rfl|rfl|rfl
  ·exact⟨Yt (by decide +kernel),[.int 0,.int 0,.int 1,.int 1],by kernel_rfl,rfl⟩
  ·exact⟨Yt (by decide +kernel),[.int 0,.int 0,.int 1,.int 1],by kernel_rfl,rfl⟩
  ·exact⟨Yt (by decide +kernel),[.int 0,.int 0,.int 1,.int 1],by kernel_rfl,rfl⟩
 match i with
 |0=>exact h 0 (by decide)|1=>exact h 1 (by decide)|n+2=>exact h 2 (by decide)
def iy (s:ju n A):∃i B,Jp [.ref n] A=.ok (zt (wI i)) B/\Kn n A B:=by
 have H:=s.lt;unfold Jp Vf;have s1:=s.ext (Ext.one (o:=.lst [zt (wI 0),zt (wI 1),zt (wI 2)]));obtain⟨j,B,e,a,K,_⟩:=JE (ρ:=[some (.ref n),some (.ref A.length)]) s1 rfl (qE (w:=.int 3)) (by omega) (by omega)
 have h:j<3:=by omega
 refine⟨j,B,qO ?_,(Kn.ext s Ext.one).trans K⟩;unfold Sz;refine(zE (ρ1:=[some (.ref n),some (.ref A.length)]) (A1:=A++[.lst [zt (wI 0),zt (wI 1)]]) rfl).trans ?_;refine(zE (ρ1:=[some (.ref n),some (.ref A.length)]) (A1:=A++[.lst [zt (wI 0),zt (wI 1),zt (wI 2)]]) (w9 (w:=.non) ?_)).trans ?_
 ·refine(Jz (y:=zt (wI 2)) (zq rfl) qY rfl).trans ((Gj qY (by simp)).trans ?_)
  rw[List.set_append_right _ _ (av _),Nat.sub_self]
  rfl
 refine qx (qW ((zO (zq rfl) e).trans (wM (K.kp.get qY (by omega)) ?_)))
 have c:j=0∨j=1∨j=2:=by omega
 rcases c with rfl|rfl|rfl<;>rfl
variable {C:Hx}{x:W}{S:Nat->List (bQ)}
structure LB (b0 K:Nat)(S:Nat->List (bQ))(f:Nat->Bool)(C:Hx):Prop where
 top:C[b0+K]? =some (.lst ((List.range K).map λi=>W.ref (b0+i)))
 row:∀i,i<K->C[b0+i]? =some (.lst (if f i then [zt (S i)] else []))
def Ce {r:Nat}(h:C[r]? =some (.lst [zt t])):qk C 8 (.ref r)=some (.list [Jg t]):=Oz (ts:=[t]) h
def DT {r:Nat}(h:C[r]? =some (.lst [])):qk C 8 (.ref r)=some (.list []):=Oz (ts:=[]) h
abbrev TZ:Ex:=zp (zS 4 (zJ Kh (zc zo (zc zL (zc zX zl))))) (zp (qy (zi Zi qB (zi zD zw (zi zD (zi zD zo zL) zX))) (zp (yK (yx wa (zi zD zw (zi zD (zi zD zo zL) zX)) qB)) zA) zA) zA)
def AG {B:Nat}{f:Nat->Bool}{x4:Option W}(e:qA t)(n:qI t=(K:Int))(r:HS t K S)(h:LB B K S f C)(c:a<t.length)(d:b<t.length):
  ∃l y,TZ [some (zt t),some (.ref (B+K)),some (.int (a:Int)),some (.int (b:Int)),x4] C=.ok (.nx [some (zt t),some (.ref (B+K)),some (.int (a:Int)),some (.int (b:Int)),y]) l/\LB B K S (λi=>f i || decide (i=(at2 t a b).toNat)) l/\∀A,A.length=B->Ext A C->Ext A l:=by
 obtain⟨p,Q⟩:=K2 e n c d;have j:zi zD zw (zi zD (zi zD zo zL) zX) [some (zt t),some (.ref (B+K)),some (.int (a:Int)),some (.int (b:Int)),some (zt (S (at2 t a b).toNat))] C=.ok (.ref (B+(at2 t a b).toNat)) C:=by
  refine(zO (zq rfl) ((zO ((zO (zq rfl) (zq rfl)).trans (Q4 c)) (zq rfl)).trans (Qj (by rw[e.sq _ (yX c)];exact d)))).trans ?_
  show zD (.ref (B+K)) (.int (at2 t a b)) C=_
  have:=wM (s:=(at2 t a b).toNat) (w:=.ref (B+(at2 t a b).toNat)) h.top (by rw[aw,aU Q];rfl)
  rw[p]at this;exact this
 have H:=h.row _ Q;have g:=Zg H;have o:zS 4 (zJ Kh (zc zo (zc zL (zc zX zl)))) [some (zt t),some (.ref (B+K)),some (.int (a:Int)),some (.int (b:Int)),x4] C=.ok (.nx [some (zt t),some (.ref (B+K)),some (.int (a:Int)),some (.int (b:Int)),some (zt (S (at2 t a b).toNat))]) C:=by
  rw[<- r a b c d];exact(qz ((qg (zQ (zq rfl) (zQ (zq rfl) (zQ (zq rfl) qc)))).trans (Ep e n c d C))).trans rfl
 generalize z:(at2 t a b).toNat=v at*;cases hf:f v with
 |true=>
  rw[hf,ah rfl]at H;have E:zi Zi qB (zi zD zw (zi zD (zi zD zo zL) zX)) [some (zt t),some (.ref (B+K)),some (.int (a:Int)),some (.int (b:Int)),some (zt (S v))] C=.ok (.bl false) C:=by
   refine(zO (zq rfl) j).trans ?_;unfold Zi;rw[Yx C 6,Ce H];show R.ok (W.bl (!(PyData.eqv (Jg (S v)) (Jg (S v)) || false))) C=_;rw[Ot]
   rfl
  refine⟨C,_,(zE o).trans ((zE ((jA E).trans qD)).trans qD),⟨h.top,λi hi=>?_⟩,λA _ x=>x⟩;rw[h.row i hi]
  by_cases q:i=v
  ·subst q;rw[hf];rfl
  ·rw[az q,Bool.or_false]
 |false=>
  rw[hf,ar (by simp)]at H
  have E:zi Zi qB (zi zD zw (zi zD (zi zD zo zL) zX)) [some (zt t),some (.ref (B+K)),some (.int (a:Int)),some (.int (b:Int)),some (zt (S v))] C=.ok (.bl true) C:=by
   refine(zO (zq rfl) j).trans ?_;unfold Zi;rw[Yx C 6,DT H]
   rfl
  have u:yx wa (zi zD zw (zi zD (zi zD zo zL) zX)) qB [some (zt t),some (.ref (B+K)),some (.int (a:Int)),some (.int (b:Int)),some (zt (S v))] C=.ok .non (C.set (B+v) (.lst [zt (S v)])):=(Jz j H (zq rfl)).trans (Gj H (by simp))
  refine⟨_,_,(zE o).trans ((zE ((yo E).trans ((zE (w9 u)).trans qD))).trans qD),⟨?_,λi hi=>?_⟩,λA D x=>x.set (by omega)⟩
  ·rw[aI (by omega)];exact h.top
  ·by_cases q:i=v
   ·subst q;rw[aL g,aB rfl,Bool.or_true];rfl
   ·rw[aI (by omega),h.row i hi,az q,Bool.or_false]
def DR (u:qA t)(hK:qI t=(K:Int))(hS:HS t K S)(A:Hx):
  ∃B,Kf [zt t] A=.ok (.ref (A.length+K)) B/\LB A.length K S (λ_=>true) B/\Ext A B:=by
 have n8:=u.n8;have kb:=kP u;have hm:=gy (m:=zJ kT (zc zo zl)) (ρ:=[some (zt t),none,none,none,none]) (A:=A) (A1:=A) (k:=(K:Int)) ((qg (zQ (zq rfl) qc)).trans ((Yo u A).trans (by rw[hK]))) (wK (by omega))
 rw[aG]at hm;obtain⟨s,acc,Z,e0,H,⟨E,r⟩,d⟩:=ZK (nl:=1) (cap:=[]) (tw:=zG 0) (ifs:=zW (.bl true)) (em:=zN (zZ zl)) (N:=K)
  (I:=λi ρ acc B=>(∃y,ρ=[y])/\(B.length=A.length+i/\Ext A B/\∀c,c<i->B[A.length+c]? =some (.lst []))/\acc=(List.range i).map λc=>W.ref (A.length+c)) hm rfl
  (λi ρ acc B hi ⟨⟨y,H⟩,⟨r,P,E⟩,d⟩=>by
   subst H d;refine⟨_,_,yQ hi,rfl,.inl ⟨B,_,_,B++[.lst []],rfl,Zf (y:=.ref (A.length+i)) (by rw[<- r];exact j9 qc) (by rw[ag,aJ];unfold zY;omega),⟨_,rfl⟩,⟨by rw[aq,r];rfl,P.app,λc hc=>?_⟩,by rw[bc,aO];rfl⟩⟩
   by_cases q:c=i
   ·subst q;rw[<- r];exact qY
   ·exact jO (E c (by omega)))
  (λρ acc B _=>yP (by omega)) ⟨⟨none,rfl⟩,⟨rfl,Ext.refl,λc hc=>absurd hc (bN _)⟩,rfl⟩
 subst d;have X:=kJ e0;rw[E]at X;have l0:LB A.length K S (λ_=>false) (Z++[.lst ((List.range K).map λc=>W.ref (A.length+c))]):=⟨by rw[<- E];exact qY,λi hi=>jO (r.2 i hi)⟩
 have x0:Ext A (Z++[.lst ((List.range K).map λc=>W.ref (A.length+c))]):=r.1.app;generalize Z++[.lst ((List.range K).map λc=>W.ref (A.length+c))]=C0 at X l0 x0;obtain⟨s,B,U,⟨f,L,hf⟩,x2,M,o,Y,H⟩:=kU (j:=yd 0 t.length) (st:=turn (zG 2) (zp (jL (qR (mQ qZ (qw zo))) (zG 3) TZ) zA)) (N:=t.length)
  (I:=λm ρ C=>(∃f,LB A.length K S f C/\∀a b,a<m->b<t.length->f (at2 t a b).toNat=true)/\Ext A C/\∃M o Y,ρ=[some (zt t),some (.ref (A.length+K)),M,o,Y])
  (λa ρ C D ⟨⟨f,l,hf⟩,x,M,o,Y,H⟩=>by
   subst H;obtain⟨s,B,U,⟨f',L,Q⟩,x2,y3',J,H⟩:=kU (j:=yd 0 t.length) (st:=turn (zG 3) TZ) (N:=t.length)
    (I:=λm ρ C=>(∃f,LB A.length K S f C/\∀g b,(g<a∨(g=a/\b<m))->b<t.length->f (at2 t g b).toNat=true)/\Ext A C/\∃o Y,ρ=[some (zt t),some (.ref (A.length+K)),some (.int (a:Int)),o,Y])
    (λb ρ C p ⟨⟨f,l,hf⟩,x,o,Y,H⟩=>by
     subst H;obtain⟨C',J,e,l',P⟩:=AG (x4:=Y) u hK hS l D p;refine⟨_,_,C',yQ p,(kq (ρ1:=[some (zt t),some (.ref (A.length+K)),some (.int (a:Int)),some (.int (b:Int)),Y]) (by rw[bo];rfl)).trans e,⟨_,l',λg b' h T=>?_⟩,P A rfl x,_,_,rfl⟩
     by_cases q:g=a/\b'=b
     ·rw[q.1,q.2];simp
     ·have:=hf g b' (by omega) T
      simp[this])
    (λρ B _=>yP (by omega)) t.length 0 [some (zt t),some (.ref (A.length+K)),some (.int (a:Int)),o,Y] C (by omega) ⟨⟨f,l,λg b h p=>hf g b (by omega) p⟩,x,_,_,rfl⟩
   subst H;have z:=gy (len_tab (t:=t) (i:=0) (ρ:=[some (zt t),some (.ref (A.length+K)),some (.int (a:Int)),o,Y]) (A:=C) rfl) (wK (n:=t.length) (by omega))
   rw[aG]at z;exact⟨_,_,B,yQ D,(kq (ρ1:=[some (zt t),some (.ref (A.length+K)),some (.int (a:Int)),o,Y]) (by rw[bo];rfl)).trans ((zE ((wt z).trans U)).trans qD),⟨f',L,λg b h p=>Q g b (by omega) p⟩,x2,_,_,_,rfl⟩)
  (λρ B _=>yP (by omega)) t.length 0 [some (zt t),some (.ref (A.length+K)),none,none,none] C0 (by omega) ⟨⟨_,l0,λa b h=>absurd h (bN _)⟩,x0,_,_,_,rfl⟩
 subst H;have w:=gy (len_tab (t:=t) (i:=0) (ρ:=[some (zt t),some (.ref (A.length+K)),none,none,none]) (A:=C0) rfl) (wK (n:=t.length) (by omega))
 rw[aG]at w;refine⟨B,?_,⟨L.top,λi hi=>?_⟩,x2⟩
 ·unfold Kf Vh
  refine qO ?_;unfold S7;refine(zE (qz X)).trans ?_;exact(zE ((wt w).trans U)).trans (qx (qW (zq rfl)))
 ·obtain⟨a,b,D,p,e⟩:=G4 u (v:=i) (by omega)
  have:=hf a b D p
  rw[e,aG]at this;rw[L.row i hi,this]
end
theorem OZ:∀(l:bQ)(s:Int),kB l s=s+l.sum
 |[],s=>by simp[kB]|v::l,s=>by
  show kB l (s+v)=_;rw[OZ l,List.sum_cons];omega
def UA (l:bQ):gG (l.map W.int) A=.ok (.int l.sum) A:=by
 unfold gG;rw[QK];dsimp only;rw[OZ,bo]
noncomputable def sm (n:Nat)(f:Nat->Int):Int:=((List.range n).map f).sum
def KZ (n:Nat)(f:Nat->Int):sm (n+1) f=sm n f+f n:=by
 unfold sm;rw[bc,aO,List.sum_append];simp
def Gy {f g:Nat->Int}(h:∀i,i<n->f i=g i):sm n f=sm n g:=by
 unfold sm
 congr 1
 exact a3 λi hi=>h i (cu.mp hi)
def ds (K:Nat)(f:Nat->Nat->Int):Int:=sm K λi=>sm K (f i)
def CS {K:Nat}{f g:Nat->Nat->Int}(h:∀i j,i<K->j<K->f i j=g i j):ds K f=ds K g:=Gy λi hi=>Gy λj H=>h i j hi H
def Bz (K:Nat)(f:Nat->Nat->Int):((List.range K).flatMap λi=>(List.range K).map (f i)).sum=ds K f:=by
 have:∀m,((List.range m).flatMap λi=>(List.range K).map (f i)).sum=sm m λi=>sm K (f i):=by
  intro m
  induction m with
  |zero=>rfl|succ m I=>
   rw[bc,flatMap_append,List.sum_append,I,KZ];simp[sm]
 exact this K
section
variable {x y:bQ}{a b c k K:Nat}{S:Nat->List (bQ)}
def pv (K:Nat)(S:Nat->List (bQ))(x y:bQ):bQ:=(List.range K).map λk=>ds K λi j=>x.getD i 0 * y.getD j 0 * at2 (S k) i j
def UM:(pv K S x y).length=K:=by unfold pv;rw[ag,aJ]
def iz (h:k<K):(pv K S x y).getD k 0=ds K λi j=>x.getD i 0 * y.getD j 0 * at2 (S k) i j:=by
 unfold pv;rw[ae,aw,aU h]
 rfl
def iA (h:qA t)(d:a<t.length)(H:b<t.length)(i j:Nat):0<=shr t a b t.length i j/\shr t a b t.length i j<=8:=by
 rw[Gp h d H _ (av _)]
 have:=List.count_le_length (a:=((i:Int),(j:Int))) (l:=(List.range t.length).map λc=>(at2 t a c,at2 t b c))
 rw[ag,aJ]at this
 have:=h.n8
 omega
end
def iB (n:Nat)(f:Nat->Int)(v:Int):sm n (λi=>v * f i)=v * sm n f:=by
 induction n with
 |zero=>show(0:Int)=v * 0;rw[Int.mul_zero]|succ n I=>rw[KZ,KZ,I,Int.mul_add]
section
variable {N:bP}{x y:bQ}{a b e k K r:Nat}{S:Nat->List (bQ)}
def iC {i j:Int}(H:-1000000000000000<j)(h:j<1000000000000000):qT (.int i) (.int j) A=.ok (.int (i * j)) A:=by
 unfold qT;dsimp only;rw[ah];unfold J1;rw[bx]
 right
 rw[ak,aj,aj];omega
def UW {i j:Int}(H:-1000000000000000000<i)(h:i<1000000000000000000):qT (.int i) (.int j) A=.ok (.int (i * j)) A:=by
 unfold qT;dsimp only;rw[ah];unfold J1;rw[bx]
 left
 rw[ak,aj,aj];omega
def Gd (x y:bQ):Prop:=∀(i j:Nat)(A:Hx),qT (.int (x.getD i 0)) (.int (y.getD j 0)) A=.ok (.int (x.getD i 0 * y.getD j 0)) A
def N4 {us vs:List W}{u v:W}(H:us[i]? =some u)(h:vs[i]? =some v):(wU (.tup us) (.tup vs) us.length).at_ A i=some (some (.tup [u,v])):=by
 show some (zip2 us[i]? vs[i]?)=_;rw[H,h]
 rfl
def NR {us vs:List W}(h:us.length<=i):(wU (.tup us) (.tup vs) us.length).at_ A i=some none:=by
 show some (zip2 us[i]? vs[i]?)=_;rw[aF h]
 rfl
def Ba (hi:i<K):((yk K μ).map zr)[i]? =some (zr ((List.range K).map (μ i))):=by
 unfold yk;rw[aw,aw,aU hi]
 rfl
def iD (r:x.length=K)(p:y.length=K)(sy:Gd x y)(v:K<=8)(g:∀i j,0<=μ i j/\μ i j<=8)(A:Hx):WW [zt (yk K μ),zr x,zr y] A=.ok (.int (ds K λi j=>x.getD i 0 * y.getD j 0 * μ i j)) A:=by
 refine gR (A1:=[]) (by show((zt (yk K μ)).nr&&((zr x).nr&&((zr y).nr&&true)))=true;rw[QY,QZ,QZ];rfl) rfl (qO ?_)
 unfold Rl;have hm:wW zw zo [some (zt (yk K μ)),some (zr x),some (zr y)] []=.ok (wU (.tup (x.map W.int)) (.tup ((yk K μ).map zr)) (x.map W.int).length) []:=GH (zq rfl) (zq rfl);obtain⟨c,acc,B,e,_,b,h⟩:=ZK (nl:=4) (cap:=[2]) (tw:=jx 0 1) (ifs:=zW (.bl true)) (em:=Zn (wW qB zw) (jx 2 3) zU (zN (zi qT (zi qT zo zL) zX))) (N:=K)
  (I:=λi ρ acc B=>(∃o n a Y,ρ=[o,n,a,Y,some (zr y)])/\B=[]/\acc=(((List.range i).flatMap λi=>(List.range K).map λj=>x.getD i 0 * y.getD j 0 * μ i j)).map W.int) hm (by show(x.map W.int).length=K;rw[ag,r])
  (λi ρ acc B hi ⟨⟨o,n,a,Y,H⟩,b,h⟩=>by
   subst H b h;refine⟨_,[some (.int (x.getD i 0)),some (zr ((List.range K).map (μ i))),a,Y,some (zr y)],N4 (int_at (by omega)) (Ba hi),rfl,.inl ?_⟩
   obtain⟨c,acc,B,e,⟨f,d,H⟩,b,h⟩:=Ue (j:=wU (.tup (y.map W.int)) (.tup (((List.range K).map (μ i)).map W.int)) (y.map W.int).length) (tw:=jx 2 3) (ifs:=zW (.bl true)) (em:=zN (zi qT (zi qT zo zL) zX)) (N:=K)
    (I:=λj ρ acc B=>(∃a Y,ρ=[some (.int (x.getD i 0)),some (zr ((List.range K).map (μ i))),a,Y,some (zr y)])/\B=[]/\acc=(((List.range i).flatMap λi=>(List.range K).map λj=>x.getD i 0 * y.getD j 0 * μ i j)++(List.range j).map λj=>x.getD i 0 * y.getD j 0 * μ i j).map W.int)
    (λj ρ acc B u ⟨⟨a,Y,H⟩,b,h⟩=>by
     subst H b h;have s:=g i j;refine⟨_,[some (.int (x.getD i 0)),some (zr ((List.range K).map (μ i))),some (.int (y.getD j 0)),some (.int (μ i j)),some (zr y)],N4 (int_at (by omega)) (by rw[aw,aw,aU u];rfl),rfl,.inl ⟨[],_,_,[],rfl,Zf (y:=.int (x.getD i 0 * y.getD j 0 * μ i j)) ?_ ?_,⟨_,_,rfl⟩,rfl,?_⟩⟩
     ·exact(zO ((zO (zq rfl) (zq rfl)).trans (sy i j _)) (zq rfl)).trans (iC (by omega) (by omega))
     ·rw[ag,aq,ag,aJ,List.length_flatMap]
      have:((List.range i).map λi=>((List.range K).map λj=>x.getD i 0 * y.getD j 0 * μ i j).length).sum=i * K:=by
       have:((List.range i).map λi=>((List.range K).map λj=>x.getD i 0 * y.getD j 0 * μ i j).length)=List.replicate i K:=by
        refine List.eq_replicate_iff.mpr ⟨by simp,λz l=>?_⟩
        obtain⟨q,_,rfl⟩:=cw.mp l;simp
       rw[this,List.sum_replicate_nat]
      rw[this]
      have:i * K<=7 * 8:=Nat.mul_le_mul (by omega) (by omega)
      unfold zY;omega
     ·rw[bc,aO,aO,aO,aO,aQ]
      rfl)
    (λρ acc B _=>NR (by rw[ag];omega)) K 0 [some (.int (x.getD i 0)),some (zr ((List.range K).map (μ i))),a,Y,some (zr y)] ((((List.range i).flatMap λi=>(List.range K).map λj=>x.getD i 0 * y.getD j 0 * μ i j)).map W.int) [] (by omega) ⟨⟨_,_,rfl⟩,rfl,by simp⟩
   subst H b h;refine⟨[],[some (.int (x.getD i 0)),some (zr ((List.range K).map (μ i))),f,d,some (zr y)],(((List.range i).flatMap λi=>(List.range K).map λj=>x.getD i 0 * y.getD j 0 * μ i j)++(List.range K).map λj=>x.getD i 0 * y.getD j 0 * μ i j).map W.int,[],rfl,?_,⟨_,_,_,_,rfl⟩,rfl,?_⟩
   ·unfold Zn
    have l:wW qB zw [some (.int (x.getD i 0)),some (zr ((List.range K).map (μ i))),a,Y,some (zr y)] []=.ok (wU (.tup (y.map W.int)) (.tup (((List.range K).map (μ i)).map W.int)) (y.map W.int).length) []:=GH (zq rfl) (zq rfl);rw[l,zV];have t:(wU (.tup (y.map W.int)) (.tup (((List.range K).map (μ i)).map W.int)) (y.map W.int).length).len=K:=by show(y.map W.int).length=K;rw[ag,p]
    rw[t];exact e
   ·rw[bc,flatMap_append]
    simp)
  (λρ acc B _=>NR (by rw[ag];omega)) ⟨⟨_,_,_,_,rfl⟩,rfl,rfl⟩
 subst b h;refine qx (qW ((j6 e).trans ?_));rw[UA,Bz]
def Sk (h:qA t)(g:qI t=(K:Int))(d:HS t K S)(f:k<K):∃μ,S k=yk K μ/\∀i j,0<=μ i j/\μ i j<=8:=by
 obtain⟨a,b,c,H,e⟩:=G4 h (v:=k) (by omega)
 exact⟨shr t a b t.length,by have:=d a b c H;rw[e,aG]at this;rw[<- this];rfl,λi j=>iA h c H i j⟩
def iE (a:qA t)(n:qI t=(K:Int))(l:HS t K S)(c:x.length=K)(b:y.length=K)(sy:Gd x y)(H:A[r]? =some (.lst ((List.range K).map λk=>zt (S k)))):Kq [.ref r,zr x,zr y] A=.ok (zr (pv K S x y)) A:=by
 have o:=kP a;unfold Kq VQ;refine qO ?_;unfold Pl;have e:=w5 (cap:=[1,2]) (mi:=qj zo) (me:=zJ WW (zc zo (zc zw (zc zL zl)))) (ρ:=[some (.ref r),some (zr x),some (zr y)]) (A:=A) (N:=K) (item:=λk=>zt (S k)) (g:=λk=>.int (ds K λi j=>x.getD i 0 * y.getD j 0 * at2 (S k) i j)) (Qg (zq rfl) H) (by show((List.range K).map _).length=K;rw[ag,aJ]) (by unfold zY;omega)
  (λi hi=>Ql H (by rw[aw,aU hi];rfl)) (Qi H (by rw[ag,aJ];exact av _))
  (λk d=>by
   obtain⟨μ,E,h⟩:=Sk a n l d;refine(qg (ws:=[zt (S k),zr x,zr y]) (A1:=A) rfl).trans ?_;rw[E,iD c b sy (by omega) h A]
   congr 2
   exact CS λi j hi f=>by rw[KO hi f])
 refine qx (qW ((gO e).trans ?_));unfold pv zr;rw[aP]
 rfl
end
noncomputable def sv:bQ:=[-3,-2,-1,0,1,2,3]
def gj (m:bQ):bP:=sv.map λv=>m++[v]
def Ml:Nat->List (bQ)
 |0=>[[]]|n+1=>(Ml n).flatMap gj
def Oq (m:bQ):(gj m).length=7:=rfl
def V0 (l:bP):(l.flatMap gj).length=7 * l.length:=by
 induction l with
 |nil=>rfl|cons m l i=>rw[List.flatMap_cons,aq,i,Oq,a9];omega
theorem G5:∀n,(Ml n).length=7 ^ n
 |0=>rfl|n+1=>by
  show((Ml n).flatMap gj).length=_;rw[V0,G5 n,Nat.pow_succ,Nat.mul_comm]
theorem YM:∀{n:Nat}{m:bQ},m∈Ml n->m.length=n/\∀v∈m,-3<=v/\v<=3
 |0,m,h=>by
  rw[cy.mp h];exact⟨rfl,λv a=>by cases a⟩
 |n+1,m,h=>by
  obtain⟨M,d,c⟩:=List.mem_flatMap.mp h;obtain⟨v,b,rfl⟩:=cw.mp c;obtain⟨g1,g2⟩:=YM d;refine⟨by rw[aq,g1];rfl,λu H=>?_⟩
  rcases List.mem_append.mp H with H|H
  ·exact g2 u H
  ·rw[cy.mp H]
   simp only[sv,mem_cons,not_mem_nil,or_false]at b;omega
def iF {q:Nat}(h:q<7)(m:bQ):(gj m)[q]? =some (m++[-3+(q:Int)]):=by
 have:q=0∨q=1∨q=2∨q=3∨q=4∨q=5∨q=6:=by omega
 rcases this with rfl|rfl|rfl|rfl|rfl|rfl|rfl<;>rfl
def take_one {l:List α}{q:Nat}{x:α}(h:l[q]? =some x):l.take (q+1)=l.take q++[x]:=by
 rw[List.take_add_one,h]
 rfl
def Mo (h:i<=4):7 ^ i<=2401:=by
 have:i=0∨i=1∨i=2∨i=3∨i=4:=by omega
 rcases this with rfl|rfl|rfl|rfl|rfl<;>decide
def DC (l:bP):ji (l.map zr)=true:=by
 induction l with
 |nil=>rfl|cons m l i=>
  show((zr m).nr&&ji (l.map zr))=true;rw[QZ,i]
  rfl
section
variable {m:bQ}{v:Int}{C:Hx}{K p r q:Nat}
def GO {m1:Ex}{mm:Ev}{N:Nat}{z:R Fl}(hm:mm ρ A=.ok (.ref p) B)(h:B[p]? =some (.lst ws))(H:ws.length=N)(e:yI ⟨λA i=>(qb (.ref p) A).map λws=>ws[i]?,ws.length⟩ (turn tw m1) N 0 ρ B=z):jL (qj mm) tw m1 ρ A=z:=by
 subst H;exact(wt (Qg hm h)).trans e
def Ol (h:m.length<=100):qh (zr m) (.tup [.int v]) A=.ok (zr (m++[v])) A:=by
 unfold qh zr;dsimp only;rw[ah (by rw[ag];unfold zY;simp;omega),aO]
 rfl
abbrev e7:Em:=Zn (Qo (jf yr jD) (zi qh jD zM)) (zG 1) zU (zN (zi qh zo (zB (zc zw zl))))
def iG {y:Option W}{acc:List W}(hm:m.length<=100)(l:acc.length<=50000):∃Y,e7 [some (zr m),y] acc C=.ok ([some (zr m),Y],acc++(gj m).map zr) C:=by
 obtain⟨c,a,g,e,⟨Y,h⟩,f,H⟩:=Ue (j:=yd (-3) 7) (tw:=zG 1) (ifs:=zW (.bl true)) (em:=zN (zi qh zo (zB (zc zw zl)))) (N:=7)
  (I:=λq ρ a D=>(∃y,ρ=[some (zr m),y])/\D=C/\a=acc++((gj m).take q).map zr)
  (λq ρ a D b ⟨⟨y,h⟩,d,H⟩=>by
   subst h d H;refine⟨_,[some (zr m),some (.int (-3+(q:Int)))],yQ b,rfl,.inl ⟨D,_,_,D,rfl,Zf (y:=zr (m++[-3+(q:Int)])) ?_ ?_,⟨_,rfl⟩,rfl,?_⟩⟩
   ·exact(zO (zq rfl) (Zk (zQ (zq rfl) qc))).trans (Ol hm)
   ·rw[aq,ag,ba]
    unfold zY;omega
   ·rw[take_one (iF b m),aO,aQ]
    rfl)
  (λρ a D _=>yP (by omega)) 7 0 [some (zr m),y] acc C (by omega) ⟨⟨_,rfl⟩,rfl,by simp⟩
 subst h f H;exact⟨Y,e⟩
def iH (t:K<=4)(A:Hx):Vr [.int (K:Int)] A=.ok (.ref A.length) (A++[.lst ((Ml K).map zr)]):=by
 have r:=gy (m:=qd 0) (ρ:=[some (.int (K:Int)),some (.ref 0),none]) (A:=[.lst [.tup []]]) (A1:=[.lst [.tup []]]) (k:=(K:Int)) rfl (wK (by omega))
 rw[aG]at r;obtain⟨b,B,e,p,c,h,a⟩:=kU (j:=yd 0 K) (st:=turn (zG 2) (zp (zS 1 (qL (zR 2 [] (qj zw) (zG 0) zU e7))) zA)) (N:=K)
  (I:=λi ρ B=>∃p c,ρ=[some (.int (K:Int)),some (.ref p),c]/\B[p]? =some (.lst ((Ml i).map zr)))
  (λi ρ B hi ⟨p,c,h,a⟩=>by
   subst h;have s:=Mo (i:=i) (by omega)
   have L:=G5 i;obtain⟨b,acc,C,e,_,n,d⟩:=ZK (nl:=2) (cap:=[]) (mi:=qj zw) (tw:=zG 0) (ifs:=zW (.bl true)) (em:=e7) (N:=(Ml i).length) (ρ:=[some (.int (K:Int)),some (.ref p),some (.int (0+(i:Int)))])
    (I:=λq ρ acc D=>(∃g Y,ρ=[g,Y])/\D=B/\acc=(((Ml i).take q).flatMap gj).map zr) (Qg (zq rfl) a) (by show((Ml i).map zr).length=_;rw[ag])
    (λq ρ acc D l ⟨⟨g,Y,h⟩,f,d⟩=>by
     subst h f d;have H:(Ml i)[q]? =some (Ml i)[q]:=aa l;obtain⟨o,e⟩:=iG (m:=(Ml i)[q]) (y:=Y) (acc:=(((Ml i).take q).flatMap gj).map zr) (C:=D) (by have:=(YM (aN l)).1;omega) (by rw[ag,V0,ba];omega)
     refine⟨zr (Ml i)[q],[some (zr (Ml i)[q]),Y],Ql a (by rw[aw,H];rfl),rfl,.inl ⟨D,_,_,D,rfl,e,⟨_,_,rfl⟩,rfl,?_⟩⟩
     rw[take_one H,flatMap_append,aO];simp)
    (λρ acc D ⟨_,f,_⟩=>by subst f;exact Qi a (by rw[ag];exact av _)) ⟨⟨_,_,rfl⟩,rfl,rfl⟩
   subst n d;rw[bI]at e;refine⟨_,[some (.int (K:Int)),some (.ref C.length),some (.int (0+(i:Int)))],_,yQ hi,(kq (ρ1:=[some (.int (K:Int)),some (.ref p),some (.int (0+(i:Int)))]) rfl).trans ((zE ((qz (kJ e)).trans rfl)).trans qD),_,_,rfl,qY⟩)
  (λρ B _=>yP (by omega)) K 0 [some (.int (K:Int)),some (.ref 0),none] [.lst [.tup []]] (by omega) ⟨_,_,rfl,rfl⟩
 subst h;refine Nf (k:=p) (A1:=B) rfl (qO ?_) a (DC _);unfold Rm;exact(zE (ρ1:=[some (.int (K:Int)),some (.ref 0),none]) (A1:=[.lst [.tup []]]) rfl).trans ((zE ((wt r).trans e)).trans (qx (qW (zq rfl))))
abbrev l7:Ex:=zp (yK (yx JF jj (qL (zR 1 [6] (Qo (jf yr jD) yA) (zG 0) zU (zN (zi qh zw (zB (zc zo zl)))))))) zA
def iI {x0 x1 x2 x3 x4 x7 x8 x9 x10:Option W}{acc:List W}(hm:m.length<=100)(h:C[r]? =some (.lst acc))(l:acc.length<=50000):
  ∃D,l7 [x0,x1,x2,x3,x4,some (.ref r),some (zr m),x7,x8,x9,x10] C=.ok (.nx [x0,x1,x2,x3,x4,some (.ref r),some (zr m),x7,x8,x9,x10]) D/\D[r]? =some (.lst (acc++(gj m).map zr))/\∀i o,i≠r->C[i]? =some o->D[i]? =some o:=by
 have E:=w5 (cap:=[6]) (mi:=Qo (jf yr jD) yA) (j:=yd (-3) 7) (me:=zi qh zw (zB (zc zo zl))) (ρ:=[x0,x1,x2,x3,x4,some (.ref r),some (zr m),x7,x8,x9,x10]) (A:=C) (N:=7) (item:=λi=>.int (-3+(i:Int))) (g:=λi=>zr (m++[-3+(i:Int)])) rfl rfl (by unfold zY;omega) (λi hi=>yQ hi) (yP (by omega)) (λi hi=>
  (zO (zq rfl) (Zk (zQ (zq rfl) qc))).trans (Ol hm))
 have e:((List.range 7).map λ(i:Nat)=>zr (m++[-3+(i:Int)]))=(gj m).map zr:=rfl;rw[e]at E;have t:=Zg h;refine⟨(C++[O.lst ((gj m).map zr)]).set r (O.lst (acc++(gj m).map zr)),(zE (w9 (w:=.non) ((Jz (zq rfl) h (kJ E)).trans ?_))).trans qD,?_,?_⟩
 ·unfold JF
  dsimp only;rw[jO h,qY];dsimp only;rw[ah];rw[ag,Oq];unfold zY;omega
 ·exact aL (by rw[aq];omega)
 ·intro i o hi H
  rw[aI (Ne.symm hi)];exact jO H
def Eu {x0 x1 x2 x4 x5 x6 x7 x8 x9 x10:Option W}{b:Hx}(J:K<=4)(x:Ext b C)(v:C[p]? =some (.lst [.tup []]))(n:b.length<=p):
  ∃q y y5 y6 D,yI (yd 0 K) (turn (zG 4) (zp (zS 5 (zZ zl)) (zp (jL (qj zX) (zG 6) l7) (zp (zS 3 jj) zA)))) K 0 [x0,x1,x2,some (.ref p),x4,x5,x6,x7,x8,x9,x10] C=.ok (.nx [x0,x1,x2,some (.ref q),y,y5,y6,x7,x8,x9,x10]) D/\D[q]? =some (.lst ((Ml K).map zr))/\b.length<=q/\Ext b D:=by
 obtain⟨f,D,e,q,y,y5,y6,h,a,t,o⟩:=kU (j:=yd 0 K) (st:=turn (zG 4) (zp (zS 5 (zZ zl)) (zp (jL (qj zX) (zG 6) l7) (zp (zS 3 jj) zA)))) (N:=K)
  (I:=λi ρ D=>∃q y y5 y6,ρ=[x0,x1,x2,some (.ref q),y,y5,y6,x7,x8,x9,x10]/\D[q]? =some (.lst ((Ml i).map zr))/\b.length<=q/\Ext b D)
  (λi ρ D hi ⟨q,y,y5,y6,h,a,t,o⟩=>by
   subst h;have E:=Mo (i:=i) (by omega)
   have L:=G5 i;have w:=Zg a;obtain⟨f,d,e,Y,h,g1,g2,g3⟩:=kU (j:=⟨λA i=>(qb (.ref q) A).map λws=>ws[i]?,((Ml i).map zr).length⟩) (st:=turn (zG 6) l7) (N:=(Ml i).length)
    (I:=λj ρ d=>∃y6,ρ=[x0,x1,x2,some (.ref q),some (.int (0+(i:Int))),some (.ref D.length),y6,x7,x8,x9,x10]/\d[q]? =some (.lst ((Ml i).map zr))/\d[D.length]? =some (.lst ((((Ml i).take j).flatMap gj).map zr))/\Ext b d)
    (λj ρ d s ⟨y6,h,g1,g2,g3⟩=>by
     subst h;have H:(Ml i)[j]? =some (Ml i)[j]:=aa s;obtain⟨u,e,f1,f2⟩:=iI (m:=(Ml i)[j]) (x0:=x0) (x1:=x1) (x2:=x2) (x3:=some (.ref q)) (x4:=some (.int (0+(i:Int)))) (x7:=x7) (x8:=x8) (x9:=x9) (x10:=x10) (C:=d) (r:=D.length) (by have:=(YM (aN s)).1;omega) g2 (by rw[ag,V0,ba];omega)
     refine⟨zr (Ml i)[j],_,u,Ql g1 (by rw[aw,H];rfl),(kq (ρ1:=[x0,x1,x2,some (.ref q),some (.int (0+(i:Int))),some (.ref D.length),some (zr (Ml i)[j]),x7,x8,x9,x10]) rfl).trans e,_,rfl,f2 q _ (by omega) g1,?_,?_⟩
     ·rw[f1,take_one H,flatMap_append,aO]
      simp
     ·obtain⟨l,rfl⟩:=g3
      have B:b.length<=D.length:=by omega
      refine⟨u.drop b.length,?_⟩;refine ext_getElem? λz=>?_
      by_cases c:z<b.length
      ·rw[ai c]
       have:=f2 z b[z] (by omega) (by rw[ai c];exact aa c)
       rw[this,aa c]
      ·rw[ay (by omega),List.getElem?_drop]
       congr 1
       omega)
    (λρ d ⟨_,_,g1,_,_⟩=>Qi g1 (by rw[ag];exact av _)) (Ml i).length 0 [x0,x1,x2,some (.ref q),some (.int (0+(i:Int))),some (.ref D.length),y6,x7,x8,x9,x10] (D++[.lst []]) (by omega) ⟨_,rfl,jO a,qY,o.app⟩
   subst h;rw[bI]at g2;have g:=GO (mm:=qd 3) (ρ:=[x0,x1,x2,some (.ref q),some (.int (0+(i:Int))),some (.ref D.length),y6,x7,x8,x9,x10]) (zq rfl) (jO a) (ag ..) e;refine⟨_,[x0,x1,x2,some (.ref D.length),some (.int (0+(i:Int))),some (.ref D.length),Y,x7,x8,x9,x10],d,yQ hi,(kq (ρ1:=[x0,x1,x2,some (.ref q),some (.int (0+(i:Int))),y5,y6,x7,x8,x9,x10]) rfl).trans ?_,D.length,_,_,_,rfl,g2,by omega,g3⟩
   refine(zE (qz (j9 qc))).trans ((zE g).trans ((zE ((qz (zq (i:=5) rfl)).trans rfl)).trans qD)))
  (λρ D _=>yP (by omega)) K 0 [x0,x1,x2,some (.ref p),x4,x5,x6,x7,x8,x9,x10] C (by omega) ⟨p,_,_,_,rfl,v,n,x⟩
 subst h;exact⟨q,y,y5,y6,D,e,a,t,o⟩
end
theorem V7:∀(l:bQ)(b:Int),wF l b∈b::l
 |[],b=>ax ..|x::l,b=>by
  have h:=V7 l (if x<b then x else b);show wF l (if x<b then x else b)∈_;rcases cn.mp h with h|h
  ·rw[h]
   split
   ·exact ao _ (ax ..)
   ·exact ax ..
  ·exact ao _ (ao _ h)
theorem UB:∀(l:bQ)(b x:Int),x∈b::l->wF l b<=x
 |[],b,x,h=>by rw[cy.mp h];exact Int.le_refl _|y::l,b,x,h=>by
  show wF l (if y<b then y else b)<=x;have h0:=UB l (if y<b then y else b) (if y<b then y else b) (ax ..);rcases cn.mp h with rfl|h
  ·split at h0<;>split<;>omega
  ·rcases cn.mp h with rfl|h
   ·split at h0<;>split<;>omega
   ·exact UB l _ x (ao _ h)
def D3 (h:l≠[]):0<minD 0 l↔∀x∈l,0<x:=by
 cases l with
 |nil=>exact absurd rfl h|cons b l=>
  constructor
  ·intro z x H
   have:wF l b<=x:=UB l b x H
   have z:0<wF l b:=z;omega
  ·intro z
   exact z _ (V7 l b)
def minD_mem (h:l≠[]):minD 0 l∈l:=by
 cases l with
 |nil=>exact absurd rfl h|cons b l=>exact V7 l b
def DH (h:l≠[]):wc l<0↔∀x∈l,x<0:=
 ⟨λz x H=>by have:=Uv H;omega,λz=>z _ (KL h)⟩
def CY (h:l≠[]):gU (l.map W.int) A=.ok (.int (minD 0 l)) A:=by
 unfold gU;rw[QK];cases l with
 |nil=>exact absurd rfl h|cons b l=>rfl
def Cz:Qp 0 (l.map W.int) A=.ok (.int (minD 0 l)) A:=by
 unfold Qp;rw[QK]
def J5 (K:Nat)(S:Nat->List (bQ))(s m:bQ):bZ:=
 if minD 0 (s.map λk=>-((pv K S m m).getD k.toNat 0))<=0 then none else some ((pv K S m m).getD 0 0/minD 0 (s.map λk=>-((pv K S m m).getD k.toNat 0))+1)
noncomputable def oI:Option Int->W
 |none=>.non|some v=>.int v
def ki (K:Nat)(S:Nat->List (bQ))(s:bQ)(b:Option (List Int×Int))(m:bQ):Option (List Int×Int):=match J5 K S s m with
 |none=>b|some v=>match b with
  |none=>some (m,v)|some c=>if v<c.2 then some (m,v) else some c
def bW:Option (List Int×Int)->W
 |none=>.non|some c=>zr c.1
noncomputable def lW:Option (List Int×Int)->W
 |none=>.non|some c=>.int c.2
structure QE (K:Nat)(ks:bQ):Prop where
 lo:∀k∈ks,1<=k/\k<(K:Int)
 up:ks.Pairwise (· < ·)
 len:ks.length<=8
def Sl (m:bQ):Prop:=∀v∈m,-3<=v/\v<=3
def Me {f:Nat->Int}{c:Int}(h:∀i,i<n->-c<=f i/\f i<=c):-((n:Int) * c)<=sm n f/\sm n f<=(n:Int) * c:=by
 induction n with
 |zero=>show -((0:Int) * c)<=0/\(0:Int)<=0 * c;rw[Int.zero_mul];omega|succ n I=>
  have a:=I λi hi=>h i (by omega)
  have H:=h n (by omega)
  have e:((n+1:Nat):Int) * c=(n:Int) * c+c:=by rw[Int.natCast_succ,Int.add_mul,Int.one_mul]
  rw[KZ,e];omega
section
variable {x y ks m:bQ}{b e k K r q:Nat}{S:Nat->List (bQ)}{w:W}
def YN (h:Sl m)(i:Nat):-3<=m.getD i 0/\m.getD i 0<=3:=by
 by_cases hi:i<m.length
 ·rw[ae,aa hi]
  exact h _ (aN hi)
 ·rw[ae,aF (by omega)]
  exact⟨by decide,by decide⟩
def iJ (h:Sl x):Gd x y:=λi j A=>UW (by have:=YN h i;omega) (by have:=YN h i;omega)
def iK {u v w:Int}(b:-3<=u/\u<=3)(a:-3<=v/\v<=3)(H:0<=w/\w<=8):-72<=u * v * w/\u * v * w<=72:=by
 have h:-9<=u * v/\u * v<=9:=by
  have:u=-3∨u=-2∨u=-1∨u=0∨u=1∨u=2∨u=3:=by omega
  rcases this with rfl|rfl|rfl|rfl|rfl|rfl|rfl<;>omega
 generalize u * v=z at h
 have:w=0∨w=1∨w=2∨w=3∨w=4∨w=5∨w=6∨w=7∨w=8:=by omega
 rcases this with rfl|rfl|rfl|rfl|rfl|rfl|rfl|rfl|rfl<;>omega
def NT (H:qA t)(d:qI t=(K:Int))(c:HS t K S)(hm:Sl m)(k:Nat):-4608<=(pv K S m m).getD k 0/\(pv K S m m).getD k 0<=4608:=by
 have l:=kP H
 by_cases a:k<K
 ·obtain⟨μ,E,h⟩:=Sk H d c a
  rw[iz a];have g:∀i,i<K->-((K:Int) * 72)<=sm K (λj=>m.getD i 0 * m.getD j 0 * at2 (S k) i j)/\sm K (λj=>m.getD i 0 * m.getD j 0 * at2 (S k) i j)<=(K:Int) * 72:=λi hi=>Me λj b=>by
   rw[E,KO hi b];exact iK (YN hm i) (YN hm j) (h i j)
  have f:=Me g;unfold ds;dsimp only
  have:(K:Int)=1∨(K:Int)=2∨(K:Int)=3∨(K:Int)=4∨(K:Int)=5∨(K:Int)=6∨(K:Int)=7∨(K:Int)=8:=by omega
  rcases this with e|e|e|e|e|e|e|e<;>rw[e]at f<;>omega
 ·rw[ae,aF (by rw[UM];omega)]
  exact⟨by decide,by decide⟩
def Bo (p:qA t)(J:qI t=(K:Int))(I:HS t K S)(s:QE K ks)(v:ks≠[])(a:m.length=K)(hm:Sl m)(L:A[r]? =some (.lst ((List.range K).map λk=>zt (S k)))):
  Ki [.ref r,zr ks,.tup [zr m]] A=.ok (oI (J5 K S ks m)) (A++[.lst [zr (pv K S m m)]]++[.lst ((pv K S m m).map W.int)]):=by
 have kb:=kP p;have c:(pv K S m m).length=K:=UM;have e:=NT (S:=S) p J I hm;unfold Ki Vw;refine qO ?_;unfold Rj;unfold J5;generalize X:pv K S m m=pp at c e ⊢;have T:qL (zR 1 [0] (qj zL) (zG 0) zU (zN (zJ Kq (zc zw (zc zo (zc zo zl)))))) [some (.ref r),some (zr ks),some (.tup [zr m]),none,none,none] A=.ok (.ref A.length) (A++[.lst [zr pp]]):=
  kJ (QS (cap:=[0]) (A:=A) (ρ:=[some (.ref r),some (zr ks),some (.tup [zr m]),none,none,none]) (ws:=[zr m]) (g:=λ_=>zr pp) (zq rfl) (by unfold zY;simp) (λw hw=>by
   rw[cy.mp hw,<- X];exact(qg (zQ (zq rfl) (zQ (zq rfl) (zQ (zq rfl) qc)))).trans (iE p J I a a (iJ hm) L)))
 generalize h:A++[O.lst [zr pp]]=A1 at T;have D:A1[A.length]? =some (.lst [zr pp]):=by rw[<- h];exact qY
 have u:A1[r]? =some (.lst ((List.range K).map λk=>zt (S k))):=by rw[<- h];exact jO L
 have el:mQ qZ (qw zo) [some (.ref r),some (zr ks),some (.tup [zr m]),some (.ref A.length),none,none] A1=.ok (.int (K:Int)) A1:=by
  rw[j6 (kY (w:=.ref r) (zq rfl) (by unfold qb;dsimp only;rw[u]))]
  unfold qZ;rw[ag,aJ]
 have d:=gy (k:=(K:Int)) el (wK (by omega))
 rw[aG]at d;have Q:=w5 (cap:=[3]) (me:=mQ gG (zR 1 [0] (qj zw) (zG 0) zU (zN (zi zD zo zw)))) (ρ:=[some (.ref r),some (zr ks),some (.tup [zr m]),some (.ref A.length),none,none]) (A:=A1) (N:=K) (item:=λi=>.int (0+(i:Int))) (g:=λk=>.int (pp.getD k 0)) d rfl (by unfold zY;omega) (λi hi=>yQ hi) (yP (by omega)) (λi hi=>by
  rw[bo];have ec:=w5 (cap:=[0]) (mi:=qj zw) (j:=⟨λA i=>(qb (.ref A1.length.pred) A).map λws=>ws[i]?,[zr pp].length⟩) (me:=zi zD zo zw) (ρ:=[some (.int (i:Int)),some (.ref A.length)]) (A:=A1) (N:=1) (item:=λ_=>zr pp) (g:=λ_=>.int (pp.getD i 0)) (by
   have a:A1.length.pred=A.length:=by rw[<- h,aq];rfl
   rw[a];exact Qg (zq rfl) D) rfl (by unfold zY;omega) (λq U=>by
   have:q=0:=by omega
   subst this;have a:A1.length.pred=A.length:=by rw[<- h,aq];rfl
   rw[a];exact Ql D rfl) (by
   have a:A1.length.pred=A.length:=by rw[<- h,aq];rfl
   rw[a];exact Qi D (by simp)) (λq U=>(zO (zq rfl) (zq rfl)).trans (Qj (by omega)))
  refine(j6 ec).trans ?_
  have:((List.range 1).map λ_=>W.int (pp.getD i 0))=[pp.getD i 0].map W.int:=rfl
  rw[this,UA];simp)
 have x:((List.range K).map λk=>W.int (pp.getD k 0))=pp.map W.int:=by rw[Yd pp 0 W.int,c]
 rw[x]at Q;have f:=kJ Q;generalize C:A1++[O.lst (pp.map W.int)]=A2 at f;have M:A2[A1.length]? =some (.lst (pp.map W.int)):=by rw[<- C];exact qY
 have P:=QS (cap:=[4]) (A:=A2) (ρ:=[some (.ref r),some (zr ks),some (.tup [zr m]),some (.ref A.length),some (.ref A1.length),none]) (ws:=ks.map W.int) (m:=qd 1) (me:=jf yr (zi zD zw zo)) (g:=λw=>match w with|.int k=>.int (-(pp.getD k.toNat 0))|w=>w) (zq rfl) (by rw[ag];have:=s.len;unfold zY;omega) (λw hw=>by
  obtain⟨k,hk,rfl⟩:=cw.mp hw;have Z:=s.lo k hk;obtain⟨j,rfl⟩:=aY (show 0<=k by omega)
  refine(fD ((zO (zq rfl) (zq rfl)).trans (wM M (int_at (b:=j) (by omega))))).trans ?_
  rfl)
 have y:((ks.map W.int).map λw=>match w with|.int k=>W.int (-(pp.getD k.toNat 0))|w=>w)=(ks.map λk=>-(pp.getD k.toNat 0)).map W.int:=by rw[aP,aP];rfl
 rw[y]at P;have E:=(j6 (g:=Qp 0) P).trans Cz;have B:(ks.map λk=>-(pp.getD k.toNat 0))≠[]:=by intro z;exact v (List.map_eq_nil_iff.mp z)
 have H:=minD_mem B;generalize minD 0 (ks.map λk=>-(pp.getD k.toNat 0))=l at E H ⊢;have Y:l<=4608:=by
  obtain⟨k,_,rfl⟩:=cw.mp H
  have:=e k.toNat
  omega
 refine(zE (qz T)).trans ?_;refine(zE (qz f)).trans ?_;refine(zE (qz E)).trans ?_;have o:zi kG jj zI [some (.ref r),some (zr ks),some (.tup [zr m]),some (.ref A.length),some (.ref A1.length),some (.int l)] A2=.ok (.bl (decide (l<=0))) A2:=(zO (zq rfl) qE).trans rfl
 by_cases n:l<=0
 ·rw[aB n]at o
  rw[ah n];exact qx ((yo o).trans (qx (qW qE)))
 ·rw[az n]at o
  rw[ar n];refine(zE ((jA o).trans qD)).trans (qx (qW ?_));exact(zO ((zO ((zO (zq rfl) (qE (w:=.int 0))).trans (wM M (int_at (b:=0) (by omega)))) (zq rfl)).trans (G9 (by omega) (by omega))) qE).trans rfl
end
def F9 {j:jV}{ifs:Ev}{N:Nat}
  (p:∀i ρ acc A,i<N->I i ρ acc A->∃w ρ1,j.at_ A i=some (some w)/\tw w ρ=some ρ1/\∃A1 c a A2,ifs ρ1 A=.ok (.bl true) A1/\em ρ1 acc A1=.ok (c,a) A2/\I (i+1) c a A2)
  (H:∀ρ acc A,I N ρ acc A->j.at_ A N=some none):
  ∀(f i:Nat)(ρ:En)(acc:List W)(A:Hx),i<=N->N<=i+f->I i ρ acc A->∃e b g,jB j tw ifs em f i ρ acc A=.ok (e,b) g/\I N e b g:=by
 intro f
 induction f with
 |zero=>
  intro i ρ acc A h h' d
  have:i=N:=by omega
  subst this;refine⟨ρ,acc,A,?_,d⟩;unfold jB;rw[H _ _ _ d]
 |succ f l=>
  intro i ρ acc A h h' d
  by_cases hi:i=N
  ·subst hi
   refine⟨ρ,acc,A,?_,d⟩;rw[jB,H _ _ _ d]
  ·obtain⟨w,ρ1,o,n,A1,c,a,A2,r,q,E⟩:=p i ρ acc A (by omega) d
   rw[jB,o];dsimp only;rw[n];dsimp only;rw[r,zV];dsimp only;rw[q,zV];exact l (i+1) _ _ _ (by omega) (by omega) E
def R8 {ifs:Ev}{p:W->Bool}(h:ρ[0]? =some (some (.tup ws)))(g:ws.length<=1000)(hi:∀w∈ws,ifs (some w::cap.map λi=>(ρ[i]?).join) A=.ok (.bl (p w)) A):zR 1 cap (qj zo) (zG 0) ifs (zN zo) ρ A=.ok (ws.filter p) A:=by
 obtain⟨a,acc,B,e,_,f,d⟩:=ZK (nl:=1) (cap:=cap) (mi:=qj zo) (tw:=zG 0) (ifs:=ifs) (em:=zN zo) (N:=ws.length) (ρ:=ρ) (A:=A)
  (I:=λi a acc B=>(∃y,a=y::cap.map λi=>(ρ[i]?).join)/\B=A/\acc=(ws.take i).filter p) (Yu (zq h)) rfl
  (λi a acc B H ⟨⟨y,c⟩,f,d⟩=>by
   subst c f d;have hm:ws[i]? =some ws[i]:=aa H;have t:ws.take (i+1)=ws.take i++[ws[i]]:=by rw[List.take_add_one,hm];rfl
   refine⟨ws[i],some ws[i]::cap.map λi=>(ρ[i]?).join,?_,rfl,?_⟩
   ·show((qb (.tup ws) B).map λws=>ws[i]?)=some (some ws[i])
    show some (ws[i]?)=_;rw[hm]
   ·have q:=hi ws[i] (aN H)
    cases b:p ws[i] with
    |true=>
     rw[b]at q;refine .inl ⟨B,_,_,B,q,Zf (zq rfl) ?_,⟨_,rfl⟩,rfl,?_⟩
     ·have:=List.length_filter_le p (ws.take i)
      rw[ba]at this;unfold zY;omega
     ·rw[t,List.filter_append,List.filter_cons_of_pos (by rw[b])]
      rfl
    |false=>
     rw[b]at q;refine .inr ⟨B,q,⟨_,rfl⟩,rfl,?_⟩;rw[t,List.filter_append,List.filter_cons_of_neg (l:=[]) (by rw[b];simp)]
     simp)
  (λa acc B _=>by
   show some (ws[ws.length]?)=_;rw[aF (av _)]) ⟨⟨none,rfl⟩,rfl,rfl⟩
 subst f d;rw[bI]at e;exact e
structure It (w:W):Prop where
 ty:∃ty,∀A,jY w A=some ty
 nr:w.nr=true
 dat:∃d,∀A,qk A 7 w=some d
def JH (v:Int):It (.int v):=⟨⟨.int,λ_=>rfl⟩,rfl,⟨.int v,λ_=>rfl⟩⟩
def Nm (r:bQ):It (zr r):=⟨⟨.tup,λ_=>rfl⟩,QZ r,⟨Y1 r,λA=>Uq A 6 r⟩⟩
noncomputable def wk (lo hi:Int):W->Bool
 |.int v=>decide (lo<=v)&&decide (v<=hi)|_=>false
noncomputable def yR (ws:List W):bQ:=ws.map λw=>match w with
 |.int v=>v|_=>0
noncomputable def JY (r:bQ):Bool:=(List.range (r.length-1)).all λi=>decide (r.getD i 0<r.getD (i+1) 0)
theorem Up {lo hi:Int}:∀{ws:List W},ws.all (wk lo hi)=true->ws=(yR ws).map W.int/\∀v∈yR ws,lo<=v/\v<=hi
 |[],_=>⟨rfl,λv a=>by cases a⟩|w::ws,h=>by
  rw[List.all_cons,ak]at h;obtain⟨c,b⟩:=Up h.2;cases w with
  |int v=>
   have a:(decide (lo<=v)&&decide (v<=hi))=true:=h.1;rw[ak,aj,aj]at a;refine⟨?_,λu H=>?_⟩
   ·show W.int v::ws=W.int v::(yR ws).map W.int
    rw[<- c]
   ·have H:u∈v::yR ws:=H
    rcases cn.mp H with rfl|H
    ·exact a
    ·exact b u H
  |_=>cases h.1
def iM {r:bQ}(e:r=vs.map λ(v:Nat)=>(v:Int))(c:∀v∈vs,v<8)(s:vs.Pairwise (· < ·)):(List.range 8).filter (λi=>decide (i∈vs))=vs:=by
 have H:((List.range 8).filter λi=>decide (i∈vs)).Pairwise (· < ·):=List.Pairwise.filter _ List.pairwise_lt_range;have h:∀x,x∈(List.range 8).filter (λi=>decide (i∈vs))↔x∈vs:=λx=>by
  rw[mem_filter,mem_range,aj];exact⟨λz=>z.2,λz=>⟨c x z,z⟩⟩
 generalize (List.range 8).filter (λi=>decide (i∈vs))=us at H h;clear e c
 induction us generalizing vs with
 |nil=>
  cases vs with
  |nil=>rfl|cons v vs=>exact absurd ((h v).mpr (ax ..)) (by intro z;cases z)
 |cons u us I=>
  cases vs with
  |nil=>exact absurd ((h u).mp (ax ..)) (by intro z;cases z)|cons v vs=>
   rw[List.pairwise_cons]at H s;have E:u=v:=by
    have a:=(h u).mp (ax ..);have b:=(h v).mpr (ax ..);rcases cn.mp a with a|a
    ·exact a
    ·rcases cn.mp b with b|b
     ·exact b.symm
     ·have:=s.1 u a
      have:=H.1 v b
      omega
   subst E
   congr 1
   refine I s.2 H.2 λx=>?_
   constructor
   ·intro z
    rcases cn.mp ((h x).mp (ao _ z)) with rfl|q
    ·exact absurd (H.1 x z) (aT _)
    ·exact q
   ·intro z
    rcases cn.mp ((h x).mpr (ao _ z)) with rfl|q
    ·exact absurd (s.1 x z) (aT _)
    ·exact q
def iN:∀{r:bQ},JY r=true->r.Pairwise (· < ·):=λ {r} h=>by
 rw[List.pairwise_iff_getElem];unfold JY at h;rw[bw]at h;have st:∀i (hi:i+1<r.length),r[i]<r[i+1]:=λi hi=>by
  have:=of_decide_eq_true (h i (cu.mpr (by omega)))
  rw[ae,aa (by omega),ae,aa hi]at this
  exact this
 intro i j hi H a
 induction j with
 |zero=>omega|succ j I=>
  by_cases e:i=j
  ·subst e;exact st i H
  ·have:=I (by omega) (by omega)
   have:=st j H
   omega
def pw_ris {r:bQ}(h:r.Pairwise (· < ·)):JY r=true:=by
 unfold JY;rw[bw];intro i hi;have hi:=cu.mp hi;rw[aj,ae,aa (by omega),ae,aa (by omega)]
 exact List.pairwise_iff_getElem.mp h i (i+1) (by omega) (by omega) (by omega)
section
variable {w:W}{lo hi:Int}{ty:Ty}{r:bQ}
def Cs {ty:Ty}(h:jY w A=some ty):Km [w] A=.ok (.bl (ZF w)) A:=by
 unfold Km VC RB;refine qO (qx (qW ((Ma (ZS (zq rfl) h) (yY (ZS (zq rfl) h))).trans ?_)));rw[NA h]
def O4 {a b c:Ev}{v:Int}(d:a ρ A=.ok (.int lo) A)(H:b ρ A=.ok (.int v) A)(h:c ρ A=.ok (.int hi) A):yZ kG kG a b c ρ A=.ok (.bl (decide (lo<=v)&&decide (v<=hi))) A:=by
 unfold yZ;rw[d,zV,H,zV];show R.bind (R.ok (W.bl (decide (lo<=v))) A) _=_;rw[zV]
 by_cases q:lo<=v
 ·rw[aB q]
  dsimp only;rw[h,zV,Bool.true_and]
  rfl
 ·rw[az q]
  rfl
def EC (h:It w)(lo hi:Int)(A:Hx):Ka [w,.int lo,.int hi] A=.ok (.bl (wk lo hi w)) A:=by
 obtain⟨ty,H⟩:=h.ty;refine gR (A1:=[]) (by show(w.nr&&true)=true;rw[h.nr];rfl) rfl (qO ?_)
 unfold Sg;refine qx (qW ?_);have e:=(qg (ws:=[w]) (A1:=[]) (ρ:=[some w,some (.int lo),some (.int hi)]) (a:=zc (qd 0) zl) (A:=[]) rfl).trans (Ae (H []));cases w with
 |int v=>
  exact(gB e).trans (O4 (zq rfl) (zq rfl) (zq rfl))
 |_=>exact Q8 e
def DJ (n:r.length<=100)(A:Hx):W8 [zr r] A=.ok (.bl (JY r)) A:=by
 unfold W8 VG;refine qO ?_;unfold RT;have H:wd (r.map W.int) (some 1) none=(r.map W.int).drop 1:=by
  unfold wd;cases r with
  |nil=>rfl|cons v r=>
   have g:HT.qN ((v::r).map W.int).length 0 (some 1)=1:=by unfold HT.qN;simp
   have f:HT.qN ((v::r).map W.int).length ((v::r).map W.int).length none=((v::r).map W.int).length:=rfl;rw[g,f];exact List.take_of_length_le (by rw[bJ];exact av _)
 have z:wW (qd 0) (yh (qd 0) (j8 (zW (.int 1))) yG) [some (zr r)] A=.ok (wU (.tup (r.map W.int)) (.tup ((r.map W.int).drop 1)) (r.map W.int).length) A:=GH (zq rfl) (by
  unfold yh;rw[zq (w:=zr r) rfl,zV];show R.ok (W.tup (wd (r.map W.int) (some 1) none)) A=_;rw[H])
 obtain⟨d,acc,B,e,_,b,a⟩:=F9 (j:=wU (.tup (r.map W.int)) (.tup ((r.map W.int).drop 1)) (r.map W.int).length) (tw:=jx 0 1) (ifs:=zW (.bl true)) (em:=zN (zi kF (qd 0) (qd 1))) (N:=r.length-1)
  (I:=λi ρ acc B=>(∃c Y,ρ=[c,Y])/\B=A/\acc=(List.range i).map λi=>W.bl (decide (r.getD i 0<r.getD (i+1) 0)))
  (λi ρ acc B hi ⟨⟨c,Y,h⟩,b,a⟩=>by
   subst h b a;refine⟨.tup [.int (r.getD i 0),.int (r.getD (i+1) 0)],[some (.int (r.getD i 0)),some (.int (r.getD (i+1) 0))],?_,rfl,B,_,_,B,rfl,Zf (y:=.bl (decide (r.getD i 0<r.getD (i+1) 0))) ((zO (zq rfl) (zq rfl)).trans rfl) (by rw[ag,aJ];unfold zY;omega),⟨_,_,rfl⟩,rfl,?_⟩
   ·show some (zip2 (r.map W.int)[i]? ((r.map W.int).drop 1)[i]?)=_
    rw[int_at (by omega),List.getElem?_drop,Nat.add_comm 1 i,int_at (by omega)]
    rfl
   ·rw[bc,aO]
    rfl)
  (λρ acc B _=>by
   show some (zip2 (r.map W.int)[r.length-1]? ((r.map W.int).drop 1)[r.length-1]?)=_;rw[aF (l:=(r.map W.int).drop 1) (by rw[bJ,ag];exact av _)]
   cases (r.map W.int)[r.length-1]?<;>rfl) (r.map W.int).length 0 [none,none] [] A (by omega) (by rw[ag];omega) ⟨⟨_,_,rfl⟩,rfl,rfl⟩
 subst b a;have E:zR 2 [] (wW (qd 0) (yh (qd 0) (j8 (zW (.int 1))) yG)) (jx 0 1) (zW (.bl true)) (zN (zi kF (qd 0) (qd 1))) [some (zr r)] B=.ok ((List.range (r.length-1)).map λi=>W.bl (decide (r.getD i 0<r.getD (i+1) 0))) B:=by
  unfold zR;rw[z,zV];show(R.nox (jB _ _ _ _ (r.map W.int).length 0 [none,none] [] B)).bind _=_;rw[e]
  rfl
 refine qx (qW ((j6 E).trans ?_));show Zp (λK=>K.all id) _ B=_;unfold Zp;rw[Gm];show R.ok (W.bl (((List.range (r.length-1)).map λi=>decide (r.getD i 0<r.getD (i+1) 0)).all id)) B=_;rw[all_map]
 rfl
def rw_N (h:jY w A=some ty)(hn:ty≠.tup):Zd [w,.int lo,.int hi] A=.ok (.bl false) A:=by
 unfold Zd WH;refine qO ?_;unfold X8;exact qx ((yo (yY (k:=false) ((ZS (zq rfl) h).trans (by rw[Tj hn])))).trans (qx (qW qE)))
def rw_T (l:ws.length<=100)(hw:∀x∈ws,It x)(A:Hx):Zd [.tup ws,.int lo,.int hi] A=.ok (.bl (ws.all (wk lo hi)&&JY (yR ws))) A:=by
 unfold Zd WH;refine qO ?_;unfold X8;refine(zE ((jA (A1:=A) (yY (k:=true) rfl)).trans qD)).trans (qx (qW ?_));have c:=QS (cap:=[1,2]) (A:=A) (ρ:=[some (.tup ws),some (.int lo),some (.int hi)]) (ws:=ws) (m:=qd 0) (me:=zJ Ka (zc zo (zc zw (zc zL zl)))) (g:=λw=>.bl (wk lo hi w)) (zq rfl) (by unfold zY;omega) (λw h=>(qg (ws:=[w,.int lo,.int hi]) (A1:=A) rfl).trans (EC (hw w h) lo hi A))
 have E:mQ Z2 (zR 1 [1,2] (qj zo) (zG 0) zU (zN (zJ Ka (zc zo (zc zw (zc zL zl)))))) [some (.tup ws),some (.int lo),some (.int hi)] A=.ok (.bl (ws.all (wk lo hi))) A:=by
  refine(j6 c).trans ?_;show Zp (λK=>K.all id) _ A=_;unfold Zp;rw[Gm];show R.ok (W.bl ((ws.map (wk lo hi)).all id)) A=_;rw[all_map]
  rfl
 cases H:ws.all (wk lo hi) with
 |false=>
  rw[H]at E;exact Q8 E
 |true=>
  rw[H]at E;refine(gB E).trans ((qg (ws:=[.tup ws]) (A1:=A) rfl).trans ?_);obtain⟨a,_⟩:=Up H;have e:=DJ (r:=yR ws) (by unfold yR;rw[ag];exact l) A
  unfold zr at e;rw[<- a]at e;exact e
def iO (h:jY w A=some ty)(hn:ty≠.tup):gL [w,.int lo,.int hi] A=.ok (.bl false) A:=by
 unfold gL WY;refine qO ?_;unfold Vu;exact qx ((yo (Tf (yY (k:=false) ((ZS (zq rfl) h).trans (by rw[Tj hn]))))).trans (qx (qW qE)))
theorem Nh:∀{us:List W},(∀w∈us,∃d,qk A n w=some d)->∃ds,yu (qk A n) us=some ds/\ds.length=us.length
 |[],_=>⟨[],rfl,rfl⟩|w::us,h=>by
  obtain⟨d,hd⟩:=h w (ax ..);obtain⟨ds,e,l⟩:=Nh (us:=us) λx H=>h x (ao _ H);refine⟨d::ds,?_,by rw[a9,a9,l]⟩
  show(match qk A n w,yu (qk A n) us with|some d,some ds=>some (d::ds)|_,_=>none)=_
  rw[hd,e]
def ne_nil {us:List W}{p q:Nat}(b:B[p]? =some (.lst us))(a:B[q]? =some (.lst []))(hw:∀w∈us,It w):jb (.ref p) (.ref q) B=.ok (.bl (!us.isEmpty)) B:=by
 obtain⟨ds,e,H⟩:=Nh (A:=B) (n:=7) (us:=us) λw h=>by obtain⟨d,hd⟩:=(hw w h).dat;exact⟨d,hd B⟩
 have c:qk B 8 (.ref p)=some (.list ds):=by
  show(match qb (.ref p) B with|some ws=>(yu (qk B 7) ws).map PyData.list|none=>none)=_
  have:qb (.ref p) B=some us:=by unfold qb;dsimp only;rw[b]
  rw[this];dsimp only;rw[e]
  rfl
 have E:qk B 8 (.ref q)=some (.list []):=by
  show(match qb (.ref q) B with|some ws=>(yu (qk B 7) ws).map PyData.list|none=>none)=_
  have:qb (.ref q) B=some []:=by unfold qb;dsimp only;rw[a]
  rw[this]
  rfl
 show wD true _ _ B=_;unfold wD;rw[c,E];dsimp only;rw[ah rfl];cases us with
 |nil=>
  have:ds=[]:=List.length_eq_zero_iff.mp H
  subst this;simp[PyData.eqv,PyData.eqvAll]
 |cons w us=>
  cases ds with
  |nil=>cases H|cons d ds=>simp[PyData.eqv,PyData.eqvAll]
def iP (U:ws.length<=100)(hw:∀x∈ws,It x)(h0:0<=lo)(X:hi<8)(A:Hx):∃b B,gL [.tup ws,.int lo,.int hi] A=.ok (.bl b) B/\Ext A B/\((ws.all (wk lo hi)&&JY (yR ws))=true->b=true):=by
 unfold gL WY;unfold Vu;have K:=kJ (R8 (cap:=[]) (ρ:=[some (.tup ws),some (.int lo),some (.int hi)]) (A:=A) (ifs:=yf (zJ Km (zc (qd 0) zl))) (p:=λw=>!ZF w) rfl (by omega) (λw h=>by
  obtain⟨ty,N⟩:=(hw w h).ty;exact yY ((qg (ws:=[w]) (A1:=A) rfl).trans (Cs (N A)))))
 have L:=(zO K (j9 qc)).trans (ne_nil (jO (u:=.lst []) (qY (A:=A) (u:=.lst (ws.filter λw=>!ZF w)))) qY λw h=>hw w (List.mem_filter.mp h).1);generalize D:A++[O.lst (ws.filter λw=>!ZF w)]++[O.lst []]=A2 at L;have x2:Ext A A2:=⟨_,by rw[<- D,aQ]⟩
 have E:=(YQ (ma:=yf (yJ .tup (qd 0))) (A1:=A) (ρ:=[some (.tup ws),some (.int lo),some (.int hi)]) (yY (k:=true) rfl)).trans L;cases q:(ws.filter λw=>!ZF w).isEmpty with
 |false=>
  rw[q]at E;refine⟨false,A2,qO (qx ((yo E).trans (qx (qW qE)))),x2,λz=>?_⟩;exfalso;rw[ak]at z;have H:=cx.mp z.1
  have:(ws.filter λw=>!ZF w)=[]:=List.filter_eq_nil_iff.mpr λw h=>by
   have:=H w h
   cases w with
   |int v=>simp[ZF]|_=>cases this
  rw[this]at q;cases q
 |true=>
  rw[q]at E;have hint:∀w∈ws,ZF w=true:=λw h=>by
   have I:=List.filter_eq_nil_iff.mp (List.isEmpty_iff.mp q) w h;cases d:ZF w with
   |true=>rfl|false=>exact absurd (by rw[d];rfl) I
  have J:=kJ (R8 (cap:=[1,2]) (ρ:=[some (.tup ws),some (.int lo),some (.int hi)]) (A:=A2) (ifs:=yf (yZ kG kG (qd 1) (qd 0) (qd 2))) (p:=λw=>!wk lo hi w) rfl (by omega) (λw h=>by
   have o:=hint w h;cases w with
   |int v=>
    exact yY (k:=wk lo hi (.int v)) (O4 (zq rfl) (zq rfl) (zq rfl))
   |_=>cases o))
  have j:=(zO J (j9 qc)).trans (ne_nil (jO (u:=.lst []) (qY (A:=A2) (u:=.lst (ws.filter λw=>!wk lo hi w)))) qY λw h=>hw w (List.mem_filter.mp h).1);generalize C:A2++[O.lst (ws.filter λw=>!wk lo hi w)]++[O.lst []]=e at j;have x3:Ext A2 e:=⟨_,by rw[<- C,aQ]⟩
  cases c:(ws.filter λw=>!wk lo hi w).isEmpty with
  |false=>
   rw[c]at j;refine⟨false,e,qO ((zE ((jA E).trans qD)).trans (qx ((yo j).trans (qx (qW qE))))),x2.trans x3,λz=>?_⟩;exfalso;rw[ak]at z;have H:=cx.mp z.1
   have:(ws.filter λw=>!wk lo hi w)=[]:=List.filter_eq_nil_iff.mpr λw h=>by rw[H w h];simp
   rw[this]at c;cases c
  |true=>
   rw[c]at j;have H:ws.all (wk lo hi)=true:=cx.mpr λw h=>by
    have I:=List.filter_eq_nil_iff.mp (List.isEmpty_iff.mp c) w h;cases d:wk lo hi w with
    |true=>rfl|false=>exact absurd (by rw[d];rfl) I
   obtain⟨s,d⟩:=Up H;have hn:=VZ (l:=yR ws) λv f=>by have:=d v f;omega
   have S:Gk (qd 0) [some (.tup ws),some (.int lo),some (.int hi)] (e++[.lst ws])=.ok (.ref (e++[O.lst ws]).length) (e++[.lst ws]++[.lst (((List.range 8).filter λi=>decide (i∈(yR ws).map Int.toNat)).map λ(i:Nat)=>W.int (i:Int))]):=by
    unfold Gk;rw[zq (w:=.tup ws) rfl,zV];unfold VU;dsimp only
    have:intsOf ws=some (yR ws):=by
     have:=QK (yR ws)
     rw[<- s]at this;exact this
    rw[this];dsimp only;rw[hn]
   have T:=(zO (g:=jv) (kJ (kY (m:=qd 0) (ρ:=[some (.tup ws),some (.int lo),some (.int hi)]) (A:=e) (A1:=e) (w:=.tup ws) (ws:=ws) (zq rfl) rfl)) S).trans (hZ (l:=yR ws) (m:=((List.range 8).filter λi=>decide (i∈(yR ws).map Int.toNat)).map λ(i:Nat)=>(i:Int)) (by rw[<- s];exact jO qY) (by rw[aP];exact qY))
   refine⟨_,_,qO ((zE ((jA E).trans qD)).trans ((zE ((jA j).trans qD)).trans (qx (qW T)))),(x2.trans x3).trans (Ext.one.app),λz=>?_⟩;rw[ak]at z;have n:=iN z.2;rw[aj];have t:yR ws=((yR ws).map Int.toNat).map λ(v:Nat)=>(v:Int):=by
    rw[aP]
    have:(yR ws).map ((λ(v:Nat)=>(v:Int)) ∘ Int.toNat)=(yR ws).map id:=a3 λv f=>by
     have:=d v f
     show((v.toNat:Nat):Int)=v;omega
    rw[this,map_id]
   rw[iM (r:=yR ws) t (λv f=>by
    obtain⟨u,M,rfl⟩:=cw.mp f
    have:=d u M
    omega) (by
    rw[List.pairwise_map];refine List.Pairwise.imp_of_mem ?_ n;intro a b Q y P
    have:=d a Q
    have:=d b y
    omega)]
   exact t
end
section
variable {x ks m:bQ}{b c e k K r q:Nat}{S:Nat->List (bQ)}{w:W}
def MH (h:qA t)(H:qI t=(K:Int))(h0:ρ[0]? =some (some (zt t)))(A:Hx):zi yT (zJ ZH (zc zo zl)) zM ρ A=.ok (.int ((K:Int)-1)) A:=
 (zO ((qg (zQ (zq h0) qc)).trans ((KS h A).trans (by rw[H]))) qE).trans rfl
def iQ (h:QE K ks)(A:Hx):Zd [zr ks,.int 1,.int ((K:Int)-1)] A=.ok (.bl true) A:=by
 have e:=rw_T (ws:=ks.map W.int) (lo:=1) (hi:=(K:Int)-1) (by rw[ag];have:=h.len;omega) (λx H=>by obtain⟨v,_,rfl⟩:=cw.mp H;exact JH v) A
 have hi:yR (ks.map W.int)=ks:=by
  unfold yR;rw[aP];exact map_id _
 have b:(ks.map W.int).all (wk 1 ((K:Int)-1))=true:=cx.mpr λx H=>by
  obtain⟨v,a,rfl⟩:=cw.mp H
  have:=h.lo v a
  show(decide (1<=v)&&decide (v<=(K:Int)-1))=true;rw[ak,aj,aj];omega
 rw[hi,b,pw_ris h.up]at e;exact e
def Nn (H:qA t)(a:qI t=(K:Int))(h:QE K ks)(A:Hx):Y9 [zt t,zr ks] A=.ok .non A:=by
 refine Uy (ρ:=[some (zt t),some (zr ks)]) ?_;unfold X6;exact(zE ((jA (gc (yY (k:=true) ((qg (zQ (zq rfl) (zQ qE (zQ (MH H a rfl A) qc)))).trans (iQ h A))))).trans qD)).trans qD
def iR (H:qA t)(a:qI t=(K:Int))(h:Zd [w,.int 1,.int ((K:Int)-1)] A=.ok (.bl false) A):Y9 [zt t,w] A=.exc "NoKinds" A:=by
 refine Qb ?_;unfold X6;exact w8 ((yo (gc (yY (k:=false) ((qg (zQ (zq rfl) (zQ qE (zQ (MH H a rfl A) qc)))).trans h)))).trans (w8 rfl))
def eq_nil (r:bQ)(A:Hx):jv (zr r) (.tup []) A=.ok (.bl (decide (r=[]))) A:=by
 show wD false _ _ A=_;unfold wD;rw[Uq A 7 r];show R.ok (W.bl (PyData.eqv (Y1 r) (.tuple []))) A=_;rw[Y1,PyData.eqv]
 have:=W5 r []
 rw[map_nil]at this;rw[this]
abbrev bB:Ex:=zp (zS 6 (zJ Ki (zc zL (zc zw (zc (zB (zc jj zl)) zl))))) (zp (qy (ym (zi (wH true) kS yi) (kE (zi (wH false) qB yi) (zi kF kS qB))) (zp (zS 3 jj) (zp (zS 4 kS) zA)) zA) zA)
def iS {o:Option (List Int×Int)}{x6:Option W}(a:qA t)(d:qI t=(K:Int))(b:HS t K S)(H:QE K ks)(h:ks≠[])(l:m.length=K)(hm:Sl m)(g:A[r]? =some (.lst ((List.range K).map λk=>zt (S k)))):
  ∃y6 B,bB [some (zt t),some (zr ks),some (.ref r),some (bW o),some (lW o),some (zr m),x6] A=.ok (.nx [some (zt t),some (zr ks),some (.ref r),some (bW (ki K S ks o m)),some (lW (ki K S ks o m)),some (zr m),y6]) B/\Ext A B:=by
 have s:=Bo a d b H h l hm g;generalize f:A++[O.lst [zr (pv K S m m)]]++[O.lst ((pv K S m m).map W.int)]=B at s;have x:Ext A B:=⟨_,by rw[<- f,aQ]⟩
 refine⟨some (oI (J5 K S ks m)),B,?_,x⟩;refine(zE (qz ((qg (zQ (zq rfl) (zQ (zq rfl) (zQ (Zk (zQ (zq rfl) qc)) qc)))).trans s))).trans ?_;unfold ki;cases J5 K S ks m with
 |none=>exact(zE ((jA (Q8 ((zO (zq rfl) qE).trans rfl))).trans qD)).trans qD|some v=>
  have E:zi (wH true) kS yi [some (zt t),some (zr ks),some (.ref r),some (bW o),some (lW o),some (zr m),some (.int v)] B=.ok (.bl true) B:=(zO (zq rfl) qE).trans rfl;cases o with
  |none=>
   exact(zE ((yo ((gB E).trans (Tf ((zO (zq rfl) qE).trans rfl)))).trans ((zE ((qz (zq rfl)).trans rfl)).trans ((zE ((qz (zq rfl)).trans rfl)).trans qD)))).trans qD
  |some c=>
   have e:kE (zi (wH false) qB yi) (zi kF kS qB) [some (zt t),some (zr ks),some (.ref r),some (bW (some c)),some (lW (some c)),some (zr m),some (.int v)] B=.ok (.bl (decide (v<c.2))) B:=(YQ ((zO (zq rfl) qE).trans rfl)).trans ((zO (zq rfl) (zq rfl)).trans rfl);dsimp only
   by_cases q:v<c.2
   ·rw[aB q]at e
    rw[ah q];exact(zE ((yo ((gB E).trans e)).trans ((zE ((qz (zq rfl)).trans rfl)).trans ((zE ((qz (zq rfl)).trans rfl)).trans qD)))).trans qD
   ·rw[az q]at e
    rw[ar q];exact(zE ((jA ((gB E).trans e)).trans qD)).trans qD
def X4 (K:Nat)(S:Nat->List (bQ))(s:bQ):Option (List Int×Int):=(Ml K).foldl (ki K S s) none
def Og {β:Type}{f:β->α->β}{l:List α}{x:α}{b:β}(h:l[i]? =some x):(l.take (i+1)).foldl f b=f ((l.take i).foldl f b) x:=by rw[take_one h,List.foldl_append];rfl
def iT (b:qA t)(s:wz t)(g:qI t=(K:Int))(l:K<=4)(p:HS t K S)(d:QE K ks)(c:ks≠[]):∃B,jM [zt t,zr ks] []=.ok (bW (X4 K S ks)) B:=by
 have D:=kP b;have L:=G5 K;have E:∀(ρ:En)(A:Hx),ρ[0]? =some (some (zt t))->zJ ZH (zc zo zl) ρ A=.ok (.int (K:Int)) A:=λρ A h=>(qg (zQ (zq h) qc)).trans ((KS b A).trans (by rw[g]))
 have q:=ES b g p [];generalize f:([]:Hx)++[O.lst ((List.range K).map λk=>zt (S k))]=A1 at q;have w:A1[0]? =some (.lst ((List.range K).map λk=>zt (S k))):=by rw[<- f];rfl
 have z:=iH l A1;have n:(A1++[O.lst ((Ml K).map zr)])[A1.length]? =some (.lst ((Ml K).map zr)):=qY;have v:A1.length=1:=by rw[<- f];rfl
 obtain⟨u,B,e,y5,y6,a,x⟩:=kU (j:=⟨λA i=>(qb (.ref A1.length) A).map λws=>ws[i]?,((Ml K).map zr).length⟩) (st:=turn (zG 5) bB) (N:=(Ml K).length)
  (I:=λi ρ B=>∃y5 y6,ρ=[some (zt t),some (zr ks),some (.ref 0),some (bW (((Ml K).take i).foldl (ki K S ks) none)),some (lW (((Ml K).take i).foldl (ki K S ks) none)),y5,y6]/\Ext (A1++[O.lst ((Ml K).map zr)]) B)
  (λi ρ B hi ⟨y5,y6,a,x⟩=>by
   subst a;have H:(Ml K)[i]? =some (Ml K)[i]:=aa hi;obtain⟨g1,g2⟩:=YM (aN hi);obtain⟨y,C,e,X⟩:=iS (A:=B) (r:=0) (o:=((Ml K).take i).foldl (ki K S ks) none) (x6:=y6) b g p d c g1 g2 (x.at (jO w));refine⟨zr (Ml K)[i],_,C,Ql (x.at n) (by rw[aw,H];rfl),(kq (ρ1:=[some (zt t),some (zr ks),some (.ref 0),some (bW (((Ml K).take i).foldl (ki K S ks) none)),some (lW (((Ml K).take i).foldl (ki K S ks) none)),some (zr (Ml K)[i]),y6]) rfl).trans e,some (zr (Ml K)[i]),y,by rw[Og H],x.trans X⟩)
  (λρ B ⟨_,_,_,x⟩=>Qi (x.at n) (by rw[ag];exact av _)) (Ml K).length 0 [some (zt t),some (zr ks),some (.ref 0),some .non,some .non,none,none] (A1++[O.lst ((Ml K).map zr)]) (by omega) ⟨_,_,rfl,Ext.refl⟩
 subst a;rw[bI]at e;refine⟨B,BG ?_⟩;unfold Jw;refine(zE (w9 ((qg (zQ (zq rfl) qc)).trans (G0 b s [])))).trans ?_;refine(zE ((jA (A1:=[]) (gc ((zO (E _ _ rfl) qE).trans (show XX (.int (K:Int)) (.int 4) []=.ok (.bl false) [] by show R.ok (W.bl (decide ((4:Int)<(K:Int)))) []=_;rw[az (by omega)])))).trans qD)).trans ?_
 refine(zE (w9 ((qg (zQ (zq rfl) (zQ (zq rfl) qc))).trans (Nn b g d [])))).trans ?_;refine(zE ((jA (A1:=[]) (gc ((zO (zq rfl) (Zk qc)).trans ((eq_nil ks []).trans (by rw[az c]))))).trans qD)).trans ?_
 refine gc ?_;refine(zE (qz ((qg (zQ (zq rfl) qc)).trans q))).trans ?_;refine(zE (qz qE)).trans ?_;refine(zE (qz qE)).trans ?_;exact(zE (GO ((qg (zQ (E _ _ rfl) qc)).trans z) n (ag ..) e)).trans (qx (qW (zq rfl)))
def N1 (o:Option (List Int×Int)):(bW o).nr=true:=by cases o with
 |none=>rfl|some c=>exact QZ c.1
def iU (b:qA t)(s:wz t)(d:qI t=(K:Int))(a:K<=4)(c:HS t K S)(H:QE K ks)(h:ks≠[])(A:Hx):Ju [zt t,zr ks] A=.ok (bW (X4 K S ks)) A:=by
 obtain⟨B,e⟩:=iT b s d a c H h;exact gR (A1:=B) (by show((zt t).nr&&((zr ks).nr&&true))=true;rw[QY,QZ];rfl) (N1 _) (gc e)
variable {y:bQ}{p f:Nat}{C:Hx}{u v:W}
def O8 {ma mb:Ev}{A2:Hx}(H:ma ρ A=.ok u A1)(h:mb ρ A1=.ok v A2):Wl i j ma mb ρ A=.ok (.nx ((ρ.set i (some u)).set j (some v))) A2:=by
 unfold Wl;rw[H,zV,h,zV]
def wj (K:Nat)(S:Nat->List (bQ))(m:bQ)(k i:Nat):Int:=sm i λi=>m.getD i 0 * sm K λj=>m.getD j 0 * at2 (S k) i j
def BU (K:Nat)(S:Nat->List (bQ))(m:bQ)(k:Nat):wj K S m k K=ds K λi j=>m.getD i 0 * m.getD j 0 * at2 (S k) i j:=by
 unfold wj ds;refine Gy λi _=>?_;rw[<- iB];exact Gy λj _=>(Int.mul_assoc _ _ _).symm
abbrev sI:Ex:=zp (zS 6 (zi zD zX jj)) (zp (zS 4 (zi qh qB (zi qT (zi zD zw jj) (mQ gG (zR 1 [1,6] (qR (mQ qZ (qw zw))) (zG 0) zU (zN (zi qT (zi zD zw zo) (zi zD zL zo)))))))) zA)
abbrev sO:Ex:=zp (zS 4 zI) (zp (jL (qR (mQ qZ (qw zw))) (zG 5) sI) (zp (yK (yx wa zL qB)) zA))
def Mb (h:m.length=K)(hi:ρ[i]? =some (some (zr m)))(A:Hx):mQ qZ (qw (qd i)) ρ A=.ok (.int (K:Int)) A:=by
 have e:=Xd (ws:=m.map W.int) (A:=A) hi;rw[ag,h]at e;exact e
def iV {y5 y6:Option W}(l:qA t)(D:qI t=(K:Int))(C:HS t K S)(u:m.length=K)(hm:Sl m)(v:k<K):
  ∃Y y,yI (yd 0 K) (turn (zG 5) sI) K 0 [some (.ref r),some (zr m),some (.ref f),some (zt (S k)),some (.int 0),y5,y6] A=.ok (.nx [some (.ref r),some (zr m),some (.ref f),some (zt (S k)),some (.int (wj K S m k K)),Y,y]) A:=by
 have J:=kP l;obtain⟨μ,E,q⟩:=Sk l D C v;have z:(S k).length=K:=by rw[E];exact V2
 have c:∀r∈S k,r.length=K:=by rw[E];intro r s;rw[BH r s,V2]
 obtain⟨p,B,e,d,Y,y,h⟩:=kU (j:=yd 0 K) (st:=turn (zG 5) sI) (N:=K)
  (I:=λi ρ B=>B=A/\∃y5 y6,ρ=[some (.ref r),some (zr m),some (.ref f),some (zt (S k)),some (.int (wj K S m k i)),y5,y6])
  (λi ρ B hi ⟨d,y5,y6,h⟩=>by
   subst d h;have n:=c _ (yX (show i<(S k).length by omega))
   have H:=gy (k:=(K:Int)) (Mb (i:=1) (ρ:=[some (.ref r),some (zr m),some (.ref f),some (zt (S k)),some (.int (wj K S m k i)),some (.int (i:Int)),some (zr ((S k).getD i []))]) u rfl B) (wK (by omega))
   rw[aG]at H;have o:=w5 (cap:=[1,6]) (me:=zi qT (zi zD zw zo) (zi zD zL zo)) (ρ:=[some (.ref r),some (zr m),some (.ref f),some (zt (S k)),some (.int (wj K S m k i)),some (.int (i:Int)),some (zr ((S k).getD i []))]) (A:=B) (N:=K) (item:=λj=>.int (0+(j:Int))) (g:=λj=>.int (m.getD j 0 * at2 (S k) i j)) H rfl (by unfold zY;omega) (λi hi=>yQ hi) (yP (by omega)) (λj L=>by
    rw[bo];have x:=YN hm j;exact(zO ((zO (zq rfl) (zq rfl)).trans (Qj (by omega))) ((zO (zq rfl) (zq rfl)).trans (Qj (by omega)))).trans (UW (by omega) (by omega)))
   have b:((List.range K).map λj=>W.int (m.getD j 0 * at2 (S k) i j))=((List.range K).map λj=>m.getD j 0 * at2 (S k) i j).map W.int:=by rw[aP];rfl
   rw[b]at o;have es':=(j6 (g:=gG) o).trans (UA _);have x:=YN hm i;refine⟨_,_,B,yQ hi,(kq (ρ1:=[some (.ref r),some (zr m),some (.ref f),some (zt (S k)),some (.int (wj K S m k i)),some (.int (i:Int)),y6]) (by rw[bo];rfl)).trans ?_,rfl,some (.int (i:Int)),some (zr ((S k).getD i [])),rfl⟩
   refine(zE (qz ((zO (zq rfl) (zq rfl)).trans (Q4 (by omega))))).trans ?_
   refine(zE ((qz (w:=.int (wj K S m k (i+1))) (A1:=B) ?_).trans rfl)).trans qD;refine(zO (zq rfl) ((zO ((zO (zq rfl) (zq rfl)).trans (Qj (by omega))) es').trans (UW (by omega) (by omega)))).trans ?_
   have a:wj K S m k (i+1)=wj K S m k i+m.getD i 0 * ((List.range K).map λj=>m.getD j 0 * at2 (S k) i j).sum:=KZ i _;rw[a]
   rfl)
  (λρ B _=>yP (by omega)) K 0 [some (.ref r),some (zr m),some (.ref f),some (zt (S k)),some (.int 0),y5,y6] A (by omega) ⟨rfl,_,_,rfl⟩
 subst d h;exact⟨Y,y,e⟩
def iW (q:qA t)(E:qI t=(K:Int))(D:HS t K S)(s:m.length=K)(hm:Sl m)(p:A[r]? =some (.lst ((List.range K).map λk=>zt (S k)))):
  Yj [.ref r,zr m] A=.ok (.ref A.length) (A++[.lst ((pv K S m m).map W.int)]):=by
 have L:=kP q;unfold Yj VD;have set_new:∀o o':O,(A++[o]).set A.length o'=A++[o']:=λo o'=>by rw[List.set_append_right _ _ (av _),Nat.sub_self];rfl
 obtain⟨v,B,e,c,d,a,y5,y6,h⟩:=kU (j:=⟨λA i=>(qb (.ref r) A).map λws=>ws[i]?,((List.range K).map λk=>zt (S k)).length⟩) (st:=turn (zG 3) sO) (N:=K)
  (I:=λk ρ B=>B=A++[.lst ((List.range k).map λk=>.int (wj K S m k K))]/\∃d a y5 y6,ρ=[some (.ref r),some (zr m),some (.ref A.length),d,a,y5,y6])
  (λk ρ B u ⟨c,d,a,y5,y6,h⟩=>by
   subst c h;generalize l:A++[O.lst ((List.range k).map λk=>.int (wj K S m k K))]=H;have n:H[A.length]? =some (.lst ((List.range k).map λk=>.int (wj K S m k K))):=by rw[<- l];exact qY
   have g:H[r]? =some (.lst ((List.range K).map λk=>zt (S k))):=by rw[<- l];exact jO p
   have b:=gy (k:=(K:Int)) (Mb (i:=1) (ρ:=[some (.ref r),some (zr m),some (.ref A.length),some (zt (S k)),some (.int 0),y5,y6]) s rfl H) (wK (by omega))
   rw[aG]at b;obtain⟨Y,y,e⟩:=iV (A:=H) (r:=r) (f:=A.length) (y5:=y5) (y6:=y6) q E D s hm u;have x:jL (qR (mQ qZ (qw zw))) (zG 5) sI [some (.ref r),some (zr m),some (.ref A.length),some (zt (S k)),some (.int 0),y5,y6] H=.ok (.nx [some (.ref r),some (zr m),some (.ref A.length),some (zt (S k)),some (.int (wj K S m k K)),Y,y]) H:=(wt b).trans e;generalize C:wj K S m k K=T at x;refine⟨zt (S k),[some (.ref r),some (zr m),some (.ref A.length),some (zt (S k)),some (.int T),Y,y],A++[.lst ((List.range (k+1)).map λk=>.int (wj K S m k K))],Ql g (by rw[aw,aU u];rfl),(kq (ρ1:=[some (.ref r),some (zr m),some (.ref A.length),some (zt (S k)),a,y5,y6]) rfl).trans ?_,rfl,_,_,_,_,rfl⟩
   have J:zS 4 zI [some (.ref r),some (zr m),some (.ref A.length),some (zt (S k)),a,y5,y6] H=.ok (.nx [some (.ref r),some (zr m),some (.ref A.length),some (zt (S k)),some (.int 0),y5,y6]) H:=rfl;refine(zE J).trans ((zE x).trans ((zE (w9 (w:=.non) ?_)).trans qD));refine(Jz (zq rfl) n (zq rfl)).trans ((Gj n (by rw[ag,aJ];omega)).trans ?_)
   rw[<- l,set_new,bc,aO,<- C]
   rfl)
  (λρ B ⟨c,_⟩=>by subst c;exact Qi (jO p) (by rw[ag,aJ];exact av _)) K 0 [some (.ref r),some (zr m),some (.ref A.length),none,none,none,none] (A++[.lst []]) (by omega) ⟨rfl,_,_,_,_,rfl⟩
 subst c h;have z:((List.range K).map λk=>W.int (wj K S m k K))=(pv K S m m).map W.int:=by
  unfold pv;rw[aP];exact a3 λk _=>by rw[BU];rfl
 rw[z]at e;refine qO ?_;unfold Pa;refine(zE (qz (j9 qc))).trans ?_;exact(zE (GO (zq rfl) (jO p) (by rw[ag,aJ]) e)).trans (qx (qW (zq rfl)))
abbrev lB:Ex:=zp (zS 9 (zJ Yj (zc zL (zc kS zl)))) (zp (qy (zi kF (mQ yj (zR 1 [9] (qj zw) (zG 0) zU (zN (zi zD zw zo)))) zI) (zp (zS 10 (zi qh zM (zi wQ (zi zD X0 zI) (mQ gU (zR 1 [9] (qj zw) (zG 0) zU (zN (zi yT zI (zi zD zw zo)))))))) (zp (qy (kE (zi (wH false) Zy yi) (zi kF Wg Zy)) (zp (Wl 7 8 kS Wg) zA) zA) zA)) zA) zA)
def iX {o:Option (List Int×Int)}{x3 x4 x5 x9 x10:Option W}(D:qA t)(Q:qI t=(K:Int))(P:HS t K S)(s:QE K ks)(i:ks≠[])(hl:m.length=K)(hm:Sl m)(hA:A[r]? =some (.lst ((List.range K).map λk=>zt (S k)))):
  ∃y9 Y B,lB [some (zt t),some (zr ks),some (.ref r),x3,x4,x5,some (zr m),some (bW o),some (lW o),x9,x10] A=.ok (.nx [some (zt t),some (zr ks),some (.ref r),x3,x4,x5,some (zr m),some (bW (ki K S ks o m)),some (lW (ki K S ks o m)),y9,Y]) B/\Ext A B:=by
 have kb:=kP D;have I:(pv K S m m).length=K:=UM;have p:=NT (S:=S) D Q P hm;have M:=iW D Q P hl hm hA;unfold ki J5;generalize pv K S m m=pp at I p M;generalize T:A++[O.lst (pp.map W.int)]=B at M;have X:Ext A B:=⟨_,T.symm⟩;have U:B[A.length]? =some (.lst (pp.map W.int)):=by rw[<- T];exact qY
 have comp:∀(me:Ev)(g:Int->Int)(ρ:En),ρ[1]? =some (some (zr ks))->(∀k∈ks,me [some (.int k),(ρ[9]?).join] B=.ok (.int (g k)) B)->zR 1 [9] (qj zw) (zG 0) zU (zN me) ρ B=.ok ((ks.map g).map W.int) B:=λme g ρ h1 J=>by
  have:=QS (cap:=[9]) (A:=B) (ρ:=ρ) (ws:=ks.map W.int) (m:=qd 1) (me:=me) (g:=λw=>match w with|.int k=>.int (g k)|w=>w) (zq h1) (by rw[ag];have:=s.len;unfold zY;omega) (λw hw=>by
   obtain⟨k,a,rfl⟩:=cw.mp hw;exact J k a)
  rw[this,aP,aP]
  rfl
 have N:∀k∈ks,zD (.ref A.length) (.int k) B=.ok (.int (pp.getD k.toNat 0)) B:=λk a=>by
  have hkb:=s.lo k a;obtain⟨j,rfl⟩:=aY (show 0<=k by omega)
  exact wM U (int_at (b:=j) (by omega))
 generalize h:([some (zt t),some (zr ks),some (.ref r),x3,x4,x5,some (zr m),some (bW o),some (lW o),some (.ref A.length),x10]:En)=ρ;have d:(ks.map λk=>pp.getD k.toNat 0)≠[]:=by intro z;exact i (List.map_eq_nil_iff.mp z)
 have H:(ks.map λk=>-(pp.getD k.toNat 0))≠[]:=by intro z;exact i (List.map_eq_nil_iff.mp z)
 have y:zi kF (mQ yj (zR 1 [9] (qj zw) (zG 0) zU (zN (zi zD zw zo)))) zI ρ B=.ok (.bl (decide (wc (ks.map λk=>pp.getD k.toNat 0)<0))) B:=
  (zO ((j6 (comp (zi zD zw zo) (λk=>pp.getD k.toNat 0) ρ (by subst h;rfl) (λk a=>by subst h;exact(zO (zq rfl) (zq rfl)).trans (N k a)))).trans (Uw d)) qE).trans rfl
 have e2:mQ gU (zR 1 [9] (qj zw) (zG 0) zU (zN (zi yT zI (zi zD zw zo)))) ρ B=.ok (.int (minD 0 (ks.map λk=>-(pp.getD k.toNat 0)))) B:=
  (j6 (comp (zi yT zI (zi zD zw zo)) (λk=>-(pp.getD k.toNat 0)) ρ (by subst h;rfl) (λk a=>by
   subst h;refine(zO qE ((zO (zq rfl) (zq rfl)).trans (N k a))).trans ?_;show R.ok (W.int (0-pp.getD k.toNat 0)) B=_;rw[Int.zero_sub]))).trans (CY H)
 have f:wc (ks.map λk=>pp.getD k.toNat 0)<0↔¬minD 0 (ks.map λk=>-(pp.getD k.toNat 0))<=0:=by
  rw[DH d,Int.not_le,D3 H]
  constructor
  ·intro z x C
   obtain⟨k,a,rfl⟩:=cw.mp C
   have:=z _ (cw.mpr ⟨k,a,rfl⟩)
   omega
  ·intro z x C
   obtain⟨k,a,rfl⟩:=cw.mp C
   have:=z _ (cw.mpr ⟨k,a,rfl⟩)
   omega
 have n:=minD_mem H;have L:minD 0 (ks.map λk=>-(pp.getD k.toNat 0))<=4608:=by
  obtain⟨k,_,e⟩:=cw.mp n
  have:=p k.toNat
  omega
 generalize minD 0 (ks.map λk=>-(pp.getD k.toNat 0))=l at e2 f L;have go:∀m2:Ex,zp (zS 9 (zJ Yj (zc zL (zc kS zl)))) m2 [some (zt t),some (zr ks),some (.ref r),x3,x4,x5,some (zr m),some (bW o),some (lW o),x9,x10] A=m2 ρ B:=λm2=>by
  subst h;exact zE ((qz ((qg (zQ (zq rfl) (zQ (zq rfl) qc))).trans M)).trans rfl)
 by_cases u:l<=0
 ·rw[az (λq=>f.mp q u)]at y
  rw[ah u];refine⟨some (.ref A.length),x10,B,(go _).trans ((zE ((jA y).trans qD)).trans ?_),X⟩;subst h;exact qD
 ·rw[aB (f.mpr u)]at y
  rw[ar u];have Z:zi qh zM (zi wQ (zi zD X0 zI) (mQ gU (zR 1 [9] (qj zw) (zG 0) zU (zN (zi yT zI (zi zD zw zo)))))) ρ B=.ok (.int (pp.getD 0 0/l+1)) B:=by
   refine(zO qE ((zO (x:=.int (pp.getD 0 0)) (A1:=B) ?_ e2).trans (G9 (by omega) (by omega)))).trans ?_
   ·subst h
    exact(zO (zq rfl) (qE (w:=.int 0))).trans (wM U (int_at (b:=0) (by omega)))
   ·show R.ok (W.int (1+pp.getD 0 0/l)) B=_
    rw[Int.add_comm]
  generalize pp.getD 0 0/l+1=v at Z;have go2:∀m2:Ex,zp (zS 10 (zi qh zM (zi wQ (zi zD X0 zI) (mQ gU (zR 1 [9] (qj zw) (zG 0) zU (zN (zi yT zI (zi zD zw zo)))))))) m2 ρ B=m2 [some (zt t),some (zr ks),some (.ref r),x3,x4,x5,some (zr m),some (bW o),some (lW o),some (.ref A.length),some (.int v)] B:=λm2=>by
   refine zE ((qz Z).trans ?_);subst h
   rfl
  refine⟨some (.ref A.length),some (.int v),B,(go _).trans ((zE ((yo y).trans ((go2 _).trans ?_))).trans qD),X⟩;cases o with
  |none=>exact(zE ((yo (Tf ((zO (zq rfl) qE).trans rfl))).trans ((zE (O8 (zq rfl) (zq rfl))).trans qD))).trans qD|some c=>
   have E:kE (zi (wH false) Zy yi) (zi kF Wg Zy) [some (zt t),some (zr ks),some (.ref r),x3,x4,x5,some (zr m),some (bW (some c)),some (lW (some c)),some (.ref A.length),some (.int v)] B=.ok (.bl (decide (v<c.2))) B:=(YQ ((zO (zq rfl) qE).trans rfl)).trans ((zO (zq rfl) (zq rfl)).trans rfl);dsimp only
   by_cases q:v<c.2
   ·rw[aB q]at E
    rw[ah q];exact(zE ((yo E).trans ((zE (O8 (zq rfl) (zq rfl))).trans qD))).trans qD
   ·rw[az q]at E
    rw[ar q];exact(zE ((jA E).trans qD)).trans qD
def Ag (J:qA t)(X:qI t=(K:Int))(Q:K<=4)(U:HS t K S)(P:QE K ks)(M:ks≠[])(A:Hx):Js [zt t,zr ks] A=.ok (bW (X4 K S ks)) A:=by
 have kb:=kP J;obtain⟨B,e1,l,x1⟩:=DR J X U [];have hit:qj (zJ Kf (zc zo zl)) [some (zt t),some (zr ks),none,none,none,none,none,none,none,none,none] []=.ok ⟨λA i=>(qb (.ref (0+K)) A).map λws=>ws[i]?,((List.range K).map λi=>W.ref (0+i)).length⟩ B:=Qg ((qg (zQ (zq rfl) qc)).trans e1) l.top;obtain⟨n,acc,a,e2,hB,H,_⟩:=ZK (nl:=1) (cap:=[]) (tw:=zG 0) (ifs:=zW (.bl true)) (em:=zN (zi zD zo zI)) (N:=K)
  (I:=λi ρ acc C=>C=B/\acc=((List.range i).map λk=>zt (S k))/\∃y,ρ=[y]) hit (by show((List.range K).map _).length=K;rw[ag,aJ])
  (λi ρ acc C hi ⟨T,H,y,h⟩=>by
   subst T H h;have g:=l.row i hi;refine⟨.ref (0+i),[some (.ref (0+i))],Ql l.top (by rw[aw,aU hi];rfl),rfl,.inl ⟨_,_,_,_,rfl,Zf (y:=zt (S i)) ((zO (zq rfl) (qE (w:=.int 0))).trans (wM (s:=0) (ws:=[zt (S i)]) g rfl)) (by rw[ag,aJ];unfold zY;omega),rfl,?_,_,rfl⟩⟩
   rw[bc,aO]
   rfl)
  (λρ acc C ⟨T,_⟩=>by subst T;exact Qi l.top (by rw[ag,aJ];exact av _)) ⟨rfl,rfl,_,rfl⟩
 subst hB H;have f:=kJ e2;generalize hb:a++[O.lst ((List.range K).map λk=>zt (S k))]=b at f;have hn:b[a.length]? =some (.lst ((List.range K).map λk=>zt (S k))):=by rw[<- hb];exact qY
 have el:mQ qZ (qw zL) [some (zt t),some (zr ks),some (.ref a.length),some (.ref b.length),none,none,none,none,none,none,none] (b++[.lst [.tup []]])=.ok (.int (K:Int)) (b++[.lst [.tup []]]):=by
  rw[j6 (kY (w:=.ref a.length) (zq rfl) (by unfold qb;dsimp only;rw[jO hn]))]
  unfold qZ;rw[ag,aJ]
 have g:=gy (k:=(K:Int)) el (wK (by omega))
 rw[aG]at g;obtain⟨q,Y,y5,y6,D,e3,L,_,xD⟩:=Eu (x0:=some (zt t)) (x1:=some (zr ks)) (x2:=some (.ref a.length)) (x4:=none) (x5:=none) (x6:=none) (x7:=none) (x8:=none) (x9:=none) (x10:=none) (C:=b++[.lst [.tup []]]) (p:=b.length) (b:=b) Q Ext.one qY (av _);obtain⟨n,E,e4,v,Z,z,h,xE⟩:=kU (j:=⟨λA i=>(qb (.ref q) A).map λws=>ws[i]?,((Ml K).map zr).length⟩) (st:=turn (zG 6) lB) (N:=(Ml K).length)
  (I:=λi ρ E=>∃v Z z,ρ=[some (zt t),some (zr ks),some (.ref a.length),some (.ref q),Y,y5,v,some (bW (((Ml K).take i).foldl (ki K S ks) none)),some (lW (((Ml K).take i).foldl (ki K S ks) none)),Z,z]/\Ext D E)
  (λi ρ E hi ⟨v,Z,z,h,x⟩=>by
   subst h;have c:(Ml K)[i]? =some (Ml K)[i]:=aa hi;obtain⟨g1,g2⟩:=YM (aN hi);obtain⟨u,d,E',e,x'⟩:=iX (A:=E) (r:=a.length) (o:=((Ml K).take i).foldl (ki K S ks) none) (x3:=some (.ref q)) (x4:=Y) (x5:=y5) (x9:=Z) (x10:=z) J X U P M g1 g2 (x.at (xD.at hn));exact⟨zr (Ml K)[i],_,E',Ql (x.at L) (by rw[aw,c];rfl),(kq (ρ1:=[some (zt t),some (zr ks),some (.ref a.length),some (.ref q),Y,y5,some (zr (Ml K)[i]),some (bW (((Ml K).take i).foldl (ki K S ks) none)),some (lW (((Ml K).take i).foldl (ki K S ks) none)),Z,z]) rfl).trans e,some (zr (Ml K)[i]),u,d,by rw[Og c],x.trans x'⟩)
  (λρ E ⟨_,_,_,_,x⟩=>Qi (x.at L) (by rw[ag];exact av _)) (Ml K).length 0 [some (zt t),some (zr ks),some (.ref a.length),some (.ref q),Y,y5,y6,some .non,some .non,none,none] D (by omega) ⟨_,_,_,rfl,Ext.refl⟩
 subst h;rw[bI]at e4;refine gR (A1:=E) (by show((zt t).nr&&((zr ks).nr&&true))=true;rw[QY,QZ];rfl) (N1 _) (qO ?_)
 unfold R5;refine(zE (qz f)).trans ?_;refine(zE (qz (j9 (zQ (Zk qc) qc)))).trans ?_;refine(zE ((wt g).trans e3)).trans ?_;refine(zE (ρ1:=[some (zt t),some (zr ks),some (.ref a.length),some (.ref q),Y,y5,y6,some .non,some .non,none,none]) (A1:=D) (O3 (w:=.tup [.non,.non]) (Zk (zQ qE (zQ qE qc))) rfl)).trans ?_;exact(zE (GO (zq rfl) L (ag ..) e4)).trans (qx (qW (zq rfl)))
end
end G
namespace Mi
open PySem L2
def TE (m:Ev)(ρ:En)(ws:List W):Prop:=∀A,m ρ A=.ok (.tup ws) A
section
variable {m m':Ev}{xs ys:List W}{pl pu:Po}{l u:bZ}
def YI (h:TE m ρ xs)(h':TE m' ρ ys)(H:xs.length+ys.length<=1000):TE (zi qh m m') ρ (xs++ys):=λA=>(zO (h A) (h' A)).trans (by
 unfold qh;dsimp only;rw[ah (by unfold zY;omega)])
def iY {A2 a:Hx}(h:m ρ A=.ok (.tup xs) A1)(b:pl ρ A1=.ok l A2)(H:pu ρ A2=.ok u a):yh m pl pu ρ A=.ok (.tup (wd xs l u)) a:=by
 unfold yh;rw[h,zV,b,zV,H,zV]
def G1 (h:TE m ρ xs)(a:∀A,pl ρ A=.ok l A)(H:∀A,pu ρ A=.ok u A):TE (yh m pl pu) ρ (wd xs l u):=λA=>iY (h A) (a A) (H A)
def UJ {w:W}(h:∀A,m ρ A=.ok w A):TE (zB (zc m zl)) ρ [w]:=λA=>Zk (zQ (h A) qc)
def JB {x:W}(h:x∈wd xs l u):x∈xs:=List.mem_of_mem_drop (List.mem_of_mem_take h)
def GR:(wd xs l u).length<=xs.length:=by
 unfold wd;rw[ba,bJ];omega
end
end Mi
namespace G
open PySem L2 Mi
def BR (A:Hx)(w:W):Prop:=(∃ws,w=.tup ws/\ws.length<=100/\∀x∈ws,It x)∨∃ty,jY w A=some ty/\ty≠.tup
def BR.mono {w:W}(k:Ky A B)(h:BR A w):BR B w:=by
 rcases h with h|⟨ty,h,hn⟩
 ·exact .inl h
 ·exact .inr ⟨ty,k _ _ h,hn⟩
def BR.ris {w:W}{lo hi:Int}(h:BR A w)(h0:0<=lo)(c:hi<8):∃b a B,Zd [w,.int lo,.int hi] A=.ok (.bl b) A/\gL [w,.int lo,.int hi] A=.ok (.bl a) B/\Ext A B/\(b=true->a=true):=by
 rcases h with ⟨ws,rfl,H,hw⟩|⟨ty,h,hn⟩
 ·obtain⟨a,B,e,x,q⟩:=iP (lo:=lo) (hi:=hi) H hw h0 c A
  exact⟨_,a,B,rw_T H hw A,e,x,q⟩
 ·exact⟨false,false,A,rw_N h hn,iO h hn,Ext.refl,λz=>z⟩
section
variable {C:Hx}{w:W}{r:bQ}{m:Ev}{a:Ea}{k:Nat}
def EB (C:Hx)(m:Ev)(ρ:En):Prop:=∀A,Ext C A->∃w A1,m ρ A=.ok w A1/\Ext A A1/\BR A1 w
def AB (C:Hx)(a:Ea)(ρ:En)(k:Nat):Prop:=∀A,Ext C A->∃ws A1,a ρ A=.ok ws A1/\Ext A A1/\ws.length=k/\∀w∈ws,BR A1 w
def NM:AB C zl ρ 0:=λA _=>⟨[],A,rfl,Ext.refl,rfl,λ_ h=>by cases h⟩
def Zj (h:EB C m ρ)(t:AB C a ρ k):AB C (zc m a) ρ (k+1):=λA x=>by
 obtain⟨w,A1,E,x1,c⟩:=h A x;obtain⟨ws,A2,e,x2,l,b⟩:=t A1 (x.trans x1);refine⟨w::ws,A2,zQ E e,x1.trans x2,by rw[a9,l],λy H=>?_⟩
 rcases cn.mp H with rfl|H
 ·exact c.mono x2.ky
 ·exact b y H
def NI {ty:Ty}(h:∀A,m ρ A=.ok w A)(hw:∀A,jY w A=some ty)(hn:ty≠.tup):EB C m ρ:=λA _=>⟨w,A,h A,Ext.refl,.inr ⟨ty,hw A,hn⟩⟩
def JQ (h:TE m ρ ws)(l:ws.length<=100)(H:∀x∈ws,It x):EB C m ρ:=λA x=>⟨.tup ws,A,h A,Ext.refl,.inl ⟨ws,rfl,l,H⟩⟩
def iZ:∀w∈([.int 0,.int (-1),.bl true,.non,.str "0",.tup [.int 0],.bl false,.int (10 ^ 29)]:List W),It w:=λw hw=>by
 simp only[mem_cons,not_mem_nil,or_false]at hw;rcases hw with rfl|rfl|rfl|rfl|rfl|rfl|rfl|rfl
 ·exact JH _
 ·exact JH _
 ·exact⟨⟨.bl,λ_=>rfl⟩,rfl,⟨_,λ_=>rfl⟩⟩
 ·exact⟨⟨.non,λ_=>rfl⟩,rfl,⟨_,λ_=>rfl⟩⟩
 ·exact⟨⟨.str,λ_=>rfl⟩,rfl,⟨.str "0",λ_=>by show(if PyData.strOk (Str.ofString "0")=true then some (PyData.str (Str.ofString "0")) else none)=_;rw[ah (by decide +kernel)]⟩⟩
 ·exact Nm [0]
 ·exact⟨⟨.bl,λ_=>rfl⟩,rfl,⟨_,λ_=>rfl⟩⟩
 ·exact JH _
def Ug {i:Int}(h:m ρ A=.ok (.int i) A):j8 m ρ A=.ok (some i) A:=by
 unfold j8;rw[h,zV]
def i0 {far:Nat}(s:ju n A)(hr:r.length<=8)(hf:far<=8):∃w B,Jn [.ref n,.int (far:Int),zr r] A=.ok w B/\BR B w/\Kn n A B:=by
 unfold Jn X9;unfold Sf;have Z:=Xd (ws:=r.map W.int) (ρ:=[some (.ref n),some (.int (far:Int)),some (zr r),none,none,none]) (i:=2) (A:=A) rfl;rw[ag]at Z;obtain⟨a,B1,e1,ha,k1,_⟩:=JE (ρ:=[some (.ref n),some (.int (far:Int)),some (zr r),none,none,none]) (me:=zi qh (mQ qZ (qw zL)) zM) (m:=(r.length:Int)+1) s rfl ((zO Z qE).trans rfl) (by omega) (by omega)
 obtain⟨v,T,e2,hv,k2,_⟩:=JE (ρ:=[some (.ref n),some (.int (far:Int)),some (zr r),some (.int (a:Int)),none,none]) (me:=zi qh zw zM) (m:=(far:Int)+1) k1.st rfl ((zO (zq rfl) qE).trans rfl) (by omega) (by omega)
 have er:(zc zw (zc zI (zc (jf yr zM) (zc zU (zc yi (zc (zW (.str "0")) (zc (zB (zc zI zl)) (zc WA (zc (zi JV Jf (zW (.int 29))) zl)))))))):Ea) [some (.ref n),some (.int (far:Int)),some (zr r),some (.int (a:Int)),none,none] T=.ok [.int (far:Int),.int 0,.int (-1),.bl true,.non,.str "0",.tup [.int 0],.bl false,.int (10 ^ 29)] T:=by
  refine zQ (zq rfl) ?_
  kernel_rfl
 have eo:=j9 (zQ e2 er);obtain⟨j,D,e3,hj,k3,_⟩:=JE (ρ:=[some (.ref n),some (.int (far:Int)),some (zr r),some (.int (a:Int)),none,none]) (me:=zW (.int 10)) (k2.st.ext (Ext.one (o:=.lst [.int (v:Int),.int (far:Int),.int 0,.int (-1),.bl true,.non,.str "0",.tup [.int 0],.bl false,.int (10 ^ 29)]))) rfl qE (by decide:(0:Int)<10) (by decide)
 have hB2:=k2.st.lt;have M:=k3.kp.get (qY (A:=T)) (by omega)
 have p:j < [W.int (v:Int),.int (far:Int),.int 0,.int (-1),.bl true,.non,.str "0",.tup [.int 0],.bl false,.int (10 ^ 29)].length:=by show j<10;omega
 obtain⟨f,L,ev⟩:∃f,It f/\zi zD (zZ (zc (zJ yN (zc zo (zc (zi qh zw zM) zl))) (zc zw (zc zI (zc (jf yr zM) (zc zU (zc yi (zc (zW (.str "0")) (zc (zB (zc zI zl)) (zc WA (zc (zi JV Jf (zW (.int 29))) zl))))))))))) (zJ yN (zc zo (zc Jf zl))) [some (.ref n),some (.int (far:Int)),some (zr r),some (.int (a:Int)),none,none] B1=.ok f D:=by
  refine⟨_,?_,(zO eo e3).trans (wM M (aa p))⟩;have hm:=aN p;rcases cn.mp hm with h|hm
  ·rw[h];exact JH _
  ·rcases cn.mp hm with h|hm
   ·rw[h];exact JH _
   ·exact iZ _ hm
 have K:Kn n A D:=((k1.trans k2).trans (Kn.ext k2.st Ext.one)).trans k3;generalize H:([some (.ref n),some (.int (far:Int)),some (zr r),some (.int (a:Int)),some f,none]:En)=ρ;have tt:TE zL ρ (r.map W.int):=λA=>by subst H;rfl
 have tl:(r.map W.int).length=r.length:=ag ..;have pi:∀x∈r.map W.int,It x:=λx d=>by obtain⟨v,_,rfl⟩:=cw.mp d;exact JH v
 have E:∀A,qd 3 ρ A=.ok (.int (a:Int)) A:=λA=>by subst H;rfl
 have v4:∀A,qd 4 ρ A=.ok f A:=λA=>by subst H;rfl
 have S:TE (yh zL yG (j8 zX)) ρ (wd (r.map W.int) none (some (a:Int))):=G1 tt (λ_=>rfl) (λA=>Ug (E A));have c2:TE (yh zL (j8 zX) yG) ρ (wd (r.map W.int) (some (a:Int)) none):=G1 tt (λA=>Ug (E A)) (λ_=>rfl);have c3:TE (yh zL (j8 (zi qh zX zM)) yG) ρ (wd (r.map W.int) (some ((a:Int)+1)) none):=G1 tt (λA=>Ug ((zO (E A) qE).trans rfl)) (λ_=>rfl);have z1:=GR (xs:=r.map W.int) (l:=none) (u:=some (a:Int));have z2:=GR (xs:=r.map W.int) (l:=some (a:Int)) (u:=none);have z3:=GR (xs:=r.map W.int) (l:=some ((a:Int)+1)) (u:=none);have z4:=GR (xs:=r.map W.int) (l:=some (-1)) (u:=none);have two:∀{xs ys:List W},(∀x∈xs,It x)->(∀x∈ys,It x)->∀x∈xs++ys,It x:=λh1 h2 x d=>by
  rcases List.mem_append.mp d with d|d
  ·exact h1 x d
  ·exact h2 x d
 have one:∀x∈[f],It x:=λx d=>by rw[cy.mp d];exact L
 have sB:=K.st;obtain⟨ws,e,e4,x4,l4,h4⟩:=Zj (m:=zi qh (zi qh (yh zL yG (j8 zX)) (zB (zc qB zl))) (yh zL (j8 zX) yG)) (ρ:=ρ) (C:=D)
   (JQ (YI (YI S (UJ v4) (by simp;omega)) c2 (by rw[aq,aV];omega)) (by rw[aq,aq,aV];omega) (two (two (λx h=>pi x (JB h)) one) λx h=>pi x (JB h)))
  (Zj (m:=zi qh (zi qh (yh zL yG (j8 zX)) (zB (zc qB zl))) (yh zL (j8 (zi qh zX zM)) yG))
   (JQ (YI (YI S (UJ v4) (by simp;omega)) c3 (by rw[aq,aV];omega)) (by rw[aq,aq,aV];omega) (two (two (λx h=>pi x (JB h)) one) λx h=>pi x (JB h)))
  (Zj (m:=zi qh (yh zL yG (j8 zX)) (yh zL (j8 (zi qh zX zM)) yG))
   (JQ (YI S c3 (by omega)) (by rw[aq];omega) (two (λx h=>pi x (JB h)) λx h=>pi x (JB h)))
  (Zj (m:=qL (qw zL)) (λA _=>⟨_,_,kJ (kY (tt A) rfl),Ext.one,.inr ⟨.lst,UK,by decide⟩⟩) NM))) D Ext.refl
 have s4:=sB.ext x4;have n4:n<e.length:=s4.lt;generalize c:ρ.set 5 (some (.ref e.length))=b;have t:TE zL b (r.map W.int):=λA=>by subst c H;rfl
 have Q:TE (yh zL (j8 (jf yr zM)) yG) b (wd (r.map W.int) (some (-1)) none):=G1 t (λA=>rfl) (λ_=>rfl);have P:TE (YR zL (jf yr zM)) b (r.map W.int).reverse:=λA=>by
  unfold YR;rw[t A,zV]
  have:j8 (jf yr zM) b A=.ok (some (-1)) A:=rfl
  rw[this,zV];dsimp only;rw[ah rfl]
 obtain⟨us,z,e6,x6,l6,h6⟩:=Zj (m:=YR zL (jf yr zM)) (ρ:=b) (C:=e++[.lst ws]) (JQ P (by rw[List.length_reverse];omega) λx h=>pi x (List.mem_reverse.mp h))
  (Zj (m:=zi qh zL (yh zL (j8 (jf yr zM)) yG)) (JQ (YI t Q (by omega)) (by rw[aq];omega) (two pi λx h=>pi x (JB h)))
  (Zj (m:=zW .non) (NI (w:=.non) (ty:=.non) (λ_=>rfl) (λ_=>rfl) (by decide))
  (Zj (m:=Jk) (λA _=>⟨.ref A.length,A++[.dct []],rfl,Ext.one,.inr ⟨.dct,by unfold jY;dsimp only;rw[qY],by decide⟩⟩)
  (Zj (m:=zW (.int 0)) (NI (w:=.int 0) (ty:=.int) (λ_=>rfl) (λ_=>rfl) (by decide))
  (Zj (m:=zB (zc zL zl)) (JQ (UJ t) (by simp) (λx d=>by rw[cy.mp d];exact Nm r))
  (Zj (m:=zB zl) (JQ (ws:=[]) (λA=>rfl) (by simp) (λx d=>by cases d)) NM)))))) (e++[.lst ws]) Ext.refl
 have s6:=(s4.ext (Ext.one (o:=.lst ws))).ext x6;have J:(z++[O.lst us])[e.length]? =some (.lst ws):=jO (x6.at qY);have ea:=(zO (ma:=qd 5) (mb:=zZ (zc (YR zL (jf yr zM)) (zc (zi qh zL (yh zL (j8 (jf yr zM)) yG)) (zc yi (zc Jk (zc zI (zc (zB (zc zL zl)) (zc (zB zl) zl)))))))) (ρ:=b) (A:=e++[.lst ws]) (x:=.ref e.length) (by subst c H;rfl) (j9 e6)).trans (Gu J qY (by unfold zY;omega))
 have x8:Ext z (z++[O.lst us]++[O.lst (ws++us)]):=Ext.one.app;generalize N:z++[O.lst us]++[O.lst (ws++us)]=B8 at ea x8;have h8:B8[(z++[O.lst us]).length]? =some (.lst (ws++us)):=by rw[<- N];exact qY
 have U:=s6.ext x8;obtain⟨q,B9,e9,hq,I,_⟩:=JE (ρ:=b) (me:=zW (.int 11)) U (by subst c H;rfl) qE (by decide:(0:Int)<11) (by decide)
 have g:q<(ws++us).length:=by rw[aq,l4,l6];omega
 have y:=I.kp.get h8 (by rw[aq];have:=x6.len;rw[aq]at this;omega)
 have X:Ext e B8:=((Ext.one (o:=.lst ws)).trans x6).trans x8;have kn:Kn n A B9:=((K.trans (Kn.ext sB x4)).trans (Kn.ext s4 X)).trans I;refine⟨(ws++us)[q],B9,qO ?_,?_,kn⟩
 ·refine(zE ((qz e1).trans rfl)).trans ((zE (ρ1:=ρ) (A1:=D) ((qz ev).trans (by subst H;rfl))).trans ((zE (ρ1:=b) (A1:=e++[.lst ws]) ((qz (j9 e4)).trans (by subst c;rfl))).trans (qx (qW ?_))))
  exact(zO ea e9).trans (wM y (aa g))
 ·have Y:=I.ky U
  rcases List.mem_append.mp (aN g) with hm|hm
  ·exact((h4 _ hm).mono X.ky).mono Y
  ·exact((h6 _ hm).mono x8.ky).mono Y
end
section
variable {ks:bQ}{k K g:Nat}{C:Hx}{w u v z:W}{PF:j3}
def i3 (h:gm A w):jM [w,u] A=.exc "NoTable" A:=by
 refine Qb ?_;unfold Jw;exact w8 (GN ((qg (zQ (zq rfl) qc)).trans (ir h)))
def i4 (h:XZ t)(A:Hx):jM [zt t,u] A=.exc "NotSteady" A:=by
 refine Qb ?_;unfold Jw;exact w8 (GN ((qg (zQ (zq rfl) qc)).trans (iu h A)))
def TY (h:qA t)(H:qI t=(K:Int))(h0:ρ[0]? =some (some (zt t)))(A:Hx):zi XX (zJ ZH (zc zo zl)) yA ρ A=.ok (.bl (decide ((4:Int)<(K:Int)))) A:=
 (zO ((qg (zQ (zq h0) qc)).trans ((KS h A).trans (by rw[H]))) qE).trans rfl
def i5 (h:qA t)(s:wz t)(H:qI t=(K:Int))(a:4<K)(A:Hx):jM [zt t,u] A=.exc "TooMany" A:=by
 refine Qb ?_;unfold Jw;exact(zE (w9 ((qg (zQ (zq rfl) qc)).trans (G0 h s A)))).trans (w8 ((yo (gc ((TY h H rfl A).trans (by rw[aB (by omega)])))).trans (w8 rfl)))
def i6 (H:qA t)(s:wz t)(a:qI t=(K:Int))(b:K<=4)(h:Zd [u,.int 1,.int ((K:Int)-1)] A=.ok (.bl false) A):jM [zt t,u] A=.exc "NoKinds" A:=by
 refine Qb ?_;unfold Jw;exact(zE (w9 ((qg (zQ (zq rfl) qc)).trans (G0 H s A)))).trans ((zE ((jA (gc ((TY H a rfl A).trans (by rw[az (by omega)])))).trans qD)).trans (w8 (GN ((qg (zQ (zq rfl) (zQ (zq rfl) qc))).trans (iR H a h)))))
def i7 (H:qA t)(s:wz t)(a:qI t=(K:Int))(b:K<=4)(A:Hx):jM [zt t,zr []] A=.exc "NoKinds" A:=by
 refine Qb ?_;unfold Jw;exact(zE (w9 ((qg (zQ (zq rfl) qc)).trans (G0 H s A)))).trans ((zE ((jA (gc ((TY H a rfl A).trans (by rw[az (by omega)])))).trans qD)).trans ((zE (w9 ((qg (zQ (zq rfl) (zQ (zq rfl) qc))).trans (Nn H a ⟨λk h=>by(cases h),.nil,by simp⟩ A)))).trans (w8 ((yo (gc ((zO (zq rfl) (Zk qc)).trans ((eq_nil [] A).trans (by rw[aB rfl]))))).trans (w8 rfl)))))
def i8 (A:Hx):yS LS 0 [u,v] A=jM [u,v] A:=by
 rw[KQ (t:=Yy jM) rfl];unfold Yy ZY;dsimp only;exact qg (ws:=[u,v]) (A1:=A) rfl
def i9 (A:Hx):yS LS 1 [u,v] A=jM [u,v] A:=by
 rw[KQ (t:=Yw jM) rfl];unfold Yw ZY;dsimp only;exact qg (ws:=[u,v]) (A1:=A) rfl
def js (A:Hx):yS LS 2 [u,v] A=jM [u,v] A:=by
 rw[KQ (t:=YA jM) rfl];unfold YA ZY;dsimp only;exact qg (ws:=[u,v]) (A1:=A) rfl
def kc (A:Hx):yS LS 3 [u,v] A=jM [v,u] A:=by
 rw[KQ (t:=Yv jM) rfl];unfold Yv ZY;dsimp only;exact qg (ws:=[v,u]) (A1:=A) rfl
def kd (A:Hx):yS LS 4 [u,v] A=jM [u,v] A:=by
 rw[KQ (t:=Ys jM) rfl];unfold Ys ZY;dsimp only;exact qg (ws:=[u,v]) (A1:=A) rfl
def ke (s:ju n A)(p:qA t)(v:qI t=(K:Int)):∃c B,Jr [.ref n,zt t] A=.ok (zr c) B/\QE K c/\Kn n A B:=by
 have x:=kP p;have hm:Qo (zW (.int 1)) (zJ kT (zc (qd 1) zl)) [some (.ref n),some (zt t)] A=.ok (yd 1 (K-1)) A:=by
  unfold Qo;rw[qE,zV,(qg (zQ (zq rfl) qc)).trans ((Yo p A).trans (by rw[v])),zV]
  dsimp only;have H:jP (K:Int)=true:=wK (by omega)
  rw[H,show(((K:Int)-1).toNat)=K-1 by omega]
  rfl
 obtain⟨r,acc,B,e,_,⟨c,f,H,g,w⟩,d⟩:=ZK (nl:=1) (cap:=[0]) (tw:=zG 0) (ifs:=zi jv (zJ yN (zc (qd 1) (zc (zW (.int 2)) zl))) (zW (.int 1))) (em:=zN (qd 0)) (N:=K-1)
  (I:=λi ρ acc C=>(∃y,ρ=[y,some (.ref n)])/\(∃c:bQ,acc=c.map W.int/\(∀k∈c,1<=k/\k<1+(i:Int))/\c.Pairwise (· < ·)/\c.length<=i)/\Kn n A C) hm rfl
  (λi ρ acc C hi ⟨⟨y,l⟩,⟨c,f,H,g,w⟩,d⟩=>by
   subst l f;obtain⟨q,j,e,D,o,_⟩:=Nq d.st (m:=2) (by decide) (by decide)
   have E:zi jv (zJ yN (zc (qd 1) (zc (zW (.int 2)) zl))) (zW (.int 1)) [some (.int (1+(i:Int))),some (.ref n)] C=.ok (.bl (decide ((q:Int)=1))) j:=(zO ((qg (zQ (zq rfl) (zQ qE qc))).trans e) qE).trans (Y4 _ _ _);refine⟨_,[some (.int (1+(i:Int))),some (.ref n)],yQ hi,rfl,?_⟩
   by_cases z:(q:Int)=1
   ·rw[aB z]at E
    refine .inl ⟨j,_,_,j,E,Zf (zq rfl) (by rw[ag];unfold zY;omega),⟨_,rfl⟩,⟨c++[1+(i:Int)],by rw[aO];rfl,λk h=>?_,?_,by rw[aq,aV];omega⟩,d.trans o⟩
    ·rcases List.mem_append.mp h with h|h
     ·have:=H k h;omega
     ·rw[cy.mp h];omega
    ·rw[List.pairwise_append]
     refine⟨g,List.pairwise_singleton _ _,λa f b u=>?_⟩;rw[cy.mp u]
     have:=H a f
     omega
   ·rw[az z]at E
    exact .inr ⟨j,E,⟨_,rfl⟩,⟨c,rfl,λk h=>by have:=H k h;omega,g,by omega⟩,d.trans o⟩)
  (λρ acc C _=>yP (by omega)) ⟨⟨none,rfl⟩,⟨[],rfl,λk h=>by(cases h),.nil,by simp⟩,⟨Kp.refl,s⟩⟩
 subst f;unfold Jr VH;refine⟨c,B,qO ?_,⟨λk h=>by have:=H k h;omega,g,by omega⟩,d⟩
 unfold RY;exact qx (qW (gO e))
noncomputable def Jj:bP:=[[0,1,1,2],[1,0,2,1],[1,2,0,1],[2,1,1,0]]
def Cm:qA Jj:=Yt (by decide +kernel)
def kl:wz Jj:=VM (by decide +kernel)
def DU:qI Jj=3:=by decide +kernel
def ko {x:Option W}:∀{a b:Nat},a<4->b<4->∀C:Hx,zi zD (zZ (zc zI (zc zM (zc zM (zc ql zl))))) (zi gk zw zo) [some (.int (0+(b:Int))),some (.int (0+(a:Int)))] C=.ok (.int (at2 Jj a b)) (C++[.lst [.int 0,.int 1,.int 1,.int 2]]):=λ {a b} H h C=>by
 have E:zZ (zc zI (zc zM (zc zM (zc ql zl)))) [some (.int (0+(b:Int))),some (.int (0+(a:Int)))] C=.ok (.ref C.length) (C++[.lst [.int 0,.int 1,.int 1,.int 2]]):=j9 rfl;have key:∀a:Nat,a<4->∀b:Nat,b<4->Builtin.bitXor (0+(a:Int)) (0+(b:Int))=((a ^^^ b:Nat):Int)/\([0,1,1,2]:bQ)[a ^^^ b]? =some (at2 Jj a b):=by decide +kernel
 obtain⟨k1,k2⟩:=key a H b h;have e:zi gk zw zo [some (.int (0+(b:Int))),some (.int (0+(a:Int)))] (C++[.lst [.int 0,.int 1,.int 1,.int 2]])=.ok (.int ((a ^^^ b:Nat):Int)) (C++[.lst [.int 0,.int 1,.int 1,.int 2]]):=by
  rw[<- k1];exact(zO (zq rfl) (zq rfl)).trans rfl
 refine(zO E e).trans (wM (s:=a ^^^ b) qY ?_)
 have:([.int 0,.int 1,.int 1,.int 2]:List W)=([0,1,1,2]:bQ).map W.int:=rfl
 rw[this,aw,k2]
 rfl
def kr (s:ju n A):∃t B,Jv [.ref n] A=.ok (zt t) B/\qA t/\wz t/\qI t<=4/\Kn n A B:=by
 obtain⟨t,B,e,l,K,k1,_⟩:=Ah s;unfold Jv VS;have E:zi kF (zJ kT (zc zw zl)) Y5 [some (.ref n),some (zt t)] B=.ok (.bl (decide (qI t<5))) B:=(zO ((qg (zQ (zq rfl) qc)).trans (Yo l B)) qE).trans rfl;have p:zS 1 (zJ Kk (zc zo zl)) [some (.ref n),none] A=.ok (.nx [some (.ref n),some (zt t)]) B:=(qz ((qg (zQ (zq rfl) qc)).trans e)).trans rfl
 by_cases q:qI t<5
 ·rw[aB q]at E
  refine⟨t,B,qO ?_,l,Hz K,by omega,k1⟩
  unfold VP;exact(zE p).trans (qx ((yo E).trans (qx (qW (zq rfl)))))
 ·rw[az q]at E
  obtain⟨f,acc,C,i,_,H,c⟩:=ZK (nl:=1) (cap:=[]) (mi:=qR yA) (j:=yd 0 4) (tw:=zG 0) (ifs:=zW (.bl true)) (em:=zN (mQ jU (zR 1 [0] (qR yA) (zG 0) zU (zN (zi zD (zZ (zc zI (zc zM (zc zM (zc ql zl))))) (zi gk zw zo)))))) (N:=4) (ρ:=[some (.ref n),some (zt t)]) (A:=B)
   (I:=λa ρ acc C=>(∃y,ρ=[y])/\acc=(Jj.take a).map zr/\Ext B C) rfl rfl
   (λa ρ acc C d ⟨⟨y,h⟩,H,c⟩=>by
    subst h H;obtain⟨f,acc,r,i,_,H,g⟩:=ZK (nl:=1) (cap:=[0]) (mi:=qR yA) (j:=yd 0 4) (tw:=zG 0) (ifs:=zW (.bl true)) (em:=zN (zi zD (zZ (zc zI (zc zM (zc zM (zc ql zl))))) (zi gk zw zo))) (N:=4) (ρ:=[some (.int (0+(a:Int)))]) (A:=C)
     (I:=λb ρ acc D=>(∃y,ρ=[y,some (.int (0+(a:Int)))])/\acc=(List.range b).map (λb=>W.int (at2 Jj a b))/\Ext C D) rfl rfl
     (λb ρ acc D o ⟨⟨y,h⟩,H,c⟩=>by
      subst h H;refine⟨_,[some (.int (0+(b:Int))),some (.int (0+(a:Int)))],yQ o,rfl,.inl ⟨D,_,_,_,rfl,Zf (ko (x:=none) d o D) (by rw[ag,aJ];unfold zY;omega),⟨_,rfl⟩,?_,c.app⟩⟩
      rw[bc,aO]
      rfl)
     (λρ acc D _=>yP (by omega)) ⟨⟨none,rfl⟩,rfl,Ext.refl⟩
    subst H;refine⟨_,[some (.int (0+(a:Int)))],yQ d,rfl,.inl ⟨C,_,_,r,rfl,Zf (gO i) (by rw[ag,ba];unfold zY;omega),⟨_,rfl⟩,?_,c.trans g⟩⟩
    have ca:a=0∨a=1∨a=2∨a=3:=by omega
    rcases ca with rfl|rfl|rfl|rfl<;>rfl)
   (λρ acc C _=>yP (by omega)) ⟨⟨none,rfl⟩,rfl,Ext.refl⟩
  subst H;refine⟨Jj,C,qO ?_,Cm,kl,by rw[DU];decide,k1.trans (Kn.ext k1.st c)⟩
  unfold VP;exact(zE p).trans ((zE ((jA E).trans qD)).trans (qx (qW (gO i))))
noncomputable def Jd:bP:=(List.range 8).map λ(a:Nat)=>(List.range 8).map λ(b:Nat)=>Builtin.bitXor (a:Int) (b:Int)
def Ey:qA Jd:=Yt (by decide +kernel)
def CV:wz Jd:=VM (by decide +kernel)
def EU:qI Jd=8:=by decide +kernel
def kv (A:Hx):mQ jU (zR 1 [] (qR yV) (zG 0) zU (zN (mQ jU (zR 1 [0] (qR yV) (zG 0) zU (zN (zi gk zw zo)))))) ρ A=.ok (zt Jd) A:=by
 have E:∀a:Nat,a<8->mQ jU (zR 1 [0] (qR yV) (zG 0) zU (zN (zi gk zw zo))) [some (.int (0+(a:Int)))] A=.ok (zr ((List.range 8).map λ(b:Nat)=>Builtin.bitXor (a:Int) (b:Int))) A:=λa h=>by
  have e:=w5 (cap:=[0]) (mi:=qR yV) (j:=yd 0 8) (me:=zi gk zw zo) (ρ:=[some (.int (0+(a:Int)))]) (A:=A) (N:=8) (item:=λi=>.int (0+(i:Int))) (g:=λ(b:Nat)=>.int (Builtin.bitXor (a:Int) (b:Int))) rfl rfl (by unfold zY;omega) (λi hi=>yQ hi) (yP (by omega)) (λb H=>by
   rw[bo,bo];exact(zO (zq rfl) (zq rfl)).trans rfl)
  refine(gO e).trans ?_;unfold zr;rw[aP]
  rfl
 have e:=w5 (cap:=[]) (mi:=qR yV) (j:=yd 0 8) (me:=mQ jU (zR 1 [0] (qR yV) (zG 0) zU (zN (zi gk zw zo)))) (ρ:=ρ) (A:=A) (N:=8) (item:=λi=>.int (0+(i:Int))) (g:=λ(a:Nat)=>zr ((List.range 8).map λ(b:Nat)=>Builtin.bitXor (a:Int) (b:Int))) rfl rfl (by unfold zY;omega) (λi hi=>yQ hi) (yP (by omega)) (λa h=>E a h)
 refine(gO e).trans ?_;unfold zt Jd;rw[aP]
 rfl
abbrev BL (P:Addr)(PF:j3):Ex:=zp (zS 2 (zJ Yf (zc zo (zc zw zl)))) (zp (zS 3 (zJ Jv (zc zL zl))) (zp (zS 4 (zJ Jr (zc zL (zc zX zl)))) (zp (qy (zi jv qB (zB zl)) (zp (qy (zi jb (wy (yH jM) PF (wA RF) (zc (kD 1 jh P 0 (PF 0)) zl)) (zZ (zc Z5 zl))) yB zA) zA) (zp (qy (yf (zJ Ze (zc (zJ Ju (zc zX (zc qB zl))) (zc (zJ Js (zc zX (zc qB zl))) zl)))) yB zA) zA)) (zp (Qx (zB (zc (zJ Jo (zc zL zl)) (zc (zJ Jp (zc zL zl)) zl))) (jx 5 6)) (zp (zS 7 (zJ Jn (zc zL (zc (zJ kT (zc zX zl)) (zc qB zl))))) (zp (zS 8 (mQ jU (zR 1 [] (qR yV) (zG 0) zU (zN (mQ jU (zR 1 [0] (qR yV) (zG 0) zU (zN (zi gk zw zo)))))))) (zp (qy (zi jb (wy (yH jM) PF (wA RF) (zc (kD 1 jh P 1 (PF 1)) zl)) (zZ (zc zI zl))) yB zA) (zp (qy (zi jb (wy (yH jM) PF (wA RF) (zc (kD 1 jh P 2 (PF 2)) zl)) (zZ (zc zM zl))) yB zA) (zp (qy (zi jb (wy (yH jM) PF (wA RF) (zc (kD 1 jh P 3 (PF 3)) zl)) (zZ (zc (zW (.int 11)) zl))) yB zA) (zp (qy (ym (yf (zJ gL (zc wm (zc zM (zc (zi yT (zJ kT (zc zX zl)) zM) zl))))) (zi jb (wy (yH jM) PF (wA RF) (zc (kD 1 jh P 4 (PF 4)) zl)) (zZ (zc Z5 zl)))) yB zA) zA))))))))))
def kx {x:bQ}(h:x.length<=100)(A:Hx):Ze [zr x,zr x] A=.ok (.bl true) A:=
 E6 (ws:=x.map W.int) (ty:=.tup) rfl rfl rfl rfl (.inl rfl) (by simp;omega) λw hw=>by
  obtain⟨v,_,rfl⟩:=cw.mp hw;exact EY v A
def k6 {K:Nat}{o:Option (List Int×Int)}(h:∀c,o=some c->c.1.length<=100)(A:Hx):Ze [bW o,bW o] A=.ok (.bl true) A:=by
 cases o with
 |none=>unfold Ze R7;exact qO (w:=.bl true) (A1:=A) rfl|some c=>exact kx (h c rfl) A
def Ac {S:Nat->List (bQ)}(b:K<=4):∀c,X4 K S ks=some c->c.1.length<=100:=by
 have:∀(l:bP)(o:Option (List Int×Int)),(∀m∈l,m.length<=100)->(∀c,o=some c->c.1.length<=100)->∀c,l.foldl (ki K S ks) o=some c->c.1.length<=100:=by
  intro l
  induction l with
  |nil=>intro o _ h c e;exact h c e|cons m l i=>
   intro o H h c e;refine i (ki K S ks o m) (λx a=>H x (ao _ a)) (λd hd=>?_) c e;unfold ki at hd;cases s:J5 K S ks m with
   |none=>rw[s]at hd;exact h d hd|some v=>
    rw[s]at hd;dsimp only at hd;cases o with
    |none=>cases hd;exact H m (ax ..)|some C=>
     dsimp only at hd
     split at hd
     ·cases hd;exact H m (ax ..)
     ·exact h d hd
 exact this (Ml K) none (λm hm=>by have:=(YM hm).1;omega) (λc e=>by cases e)
def BF {x2 x3 x4 x5 x6 x7 x8:Option W}(h0:A[0]? =some (.ro (ns.map W.int)))(h1:A[1]? =some (.tab jh Pt)):
  ∃y2 y3 y4 y5 y6 y7 y8 B,BL Pt PF [some (.ref 0),some (.int (k:Int)),x2,x3,x4,x5,x6,x7,x8] A=.ok (.nx [some (.ref 0),some (.int (k:Int)),y2,y3,y4,y5,y6,y7,y8]) B/\B[0]? =some (.ro (ns.map W.int))/\B[1]? =some (.tab jh Pt):=by
 obtain⟨o,e1,s1⟩:=BE h0 k;have X:=Zg h1;have g0:(A++[o])[0]? =some (.ro (ns.map W.int)):=jO h0;have g1:(A++[o])[1]? =some (.tab jh Pt):=jO h1;generalize hA1:A++[o]=A1 at e1 s1 g0 g1;generalize A.length=n at e1 s1 X;obtain⟨t,A2,e2,d,st,hk4,k2⟩:=kr s1;have kb:=kP d;obtain⟨K,p⟩:=aY (show 0<=qI t by omega)
 obtain⟨S,hS⟩:=DE d st K;obtain⟨s,c,e3,l,k3⟩:=ke k2.st d p;have t3:c[1]? =some (.tab jh Pt):=(k2.trans k3).kp.get g1 (by omega)
 obtain⟨M,e4,k4⟩:∃M,qy (zi jv qB (zB zl)) (zp (qy (zi jb (wy (yH jM) PF (wA RF) (zc (kD 1 jh Pt 0 (PF 0)) zl)) (zZ (zc Z5 zl))) yB zA) zA) (zp (qy (yf (zJ Ze (zc (zJ Ju (zc zX (zc qB zl))) (zc (zJ Js (zc zX (zc qB zl))) zl)))) yB zA) zA) [some (.ref 0),some (.int (k:Int)),some (.ref n),some (zt t),some (zr s),x5,x6,x7,x8] c=.ok (.nx [some (.ref 0),some (.int (k:Int)),some (.ref n),some (zt t),some (zr s),x5,x6,x7,x8]) M/\Ext c M:=by
  have eq:zi jv qB (zB zl) [some (.ref 0),some (.int (k:Int)),some (.ref n),some (zt t),some (zr s),x5,x6,x7,x8] c=.ok (.bl (decide (s=[]))) c:=(zO (zq rfl) (Zk qc)).trans (eq_nil s c)
  by_cases q:s=[]
  ·subst q
   rw[aB rfl]at eq;obtain⟨B,e,x⟩:=Kt (k:=0) (PF:=PF) (ρ:=[some (.ref 0),some (.int (k:Int)),some (.ref n),some (zt t),some (zr []),x5,x6,x7,x8]) (t:=Yy jM) t3 rfl (Wr (i:=3) (j:=4) rfl rfl) ((i8 c).trans (i7 d st p (by omega) c)) RP
   exact⟨B,(yo eq).trans ((zE ((jA e).trans qD)).trans qD),x⟩
  ·rw[az q]at eq
   refine⟨c,(jA eq).trans ((zE ((jA (yY (k:=true) ((qg (zQ ((qg (zQ (zq rfl) (zQ (zq rfl) qc))).trans (iU d st p (by omega) hS l q c)) (zQ ((qg (zQ (zq rfl) (zQ (zq rfl) qc))).trans (Ag d p (by omega) hS l q c)) qc))).trans (k6 (K:=K) (Ac (by omega)) c)))).trans qD)).trans qD),Ext.refl⟩
 have D:Kn n A1 M:=(k2.trans k3).trans (Kn.ext k3.st k4);obtain⟨bad,A5,e5,hb,k5⟩:=ib D.st;obtain⟨U,A6,e6,P⟩:=iy k5.st;obtain⟨g,L,e7,Q,k7⟩:=i0 (far:=K) (r:=s) P.st l.len (by omega)
 have E:=((D.trans k5).trans P).trans k7;have T:L[1]? =some (.tab jh Pt):=E.kp.get g1 (by omega)
 have b7:=hb.mono ((P.trans k7).ky k5.st);generalize H:([some (.ref 0),some (.int (k:Int)),some (.ref n),some (zt t),some (zr s),some bad,some (zt (wI U)),some g,some (zt Jd)]:En)=ρ;obtain⟨B1,f1,z1⟩:=Kt (k:=1) (PF:=PF) (ρ:=ρ) (t:=Yw jM) T rfl (Wr (i:=5) (j:=7) (a:=bad) (b:=g) (by subst H;rfl) (by subst H;rfl)) ((i9 L).trans (i3 b7)) HD
 obtain⟨B2,f2,z2⟩:=Kt (k:=2) (PF:=PF) (ρ:=ρ) (t:=YA jM) (z1.at T) rfl (Wr (i:=6) (j:=7) (a:=zt (wI U)) (b:=g) (by subst H;rfl) (by subst H;rfl)) ((js B1).trans (i4 (iw U) B1)) L4
 have y:=z1.trans z2;obtain⟨I,f3,z3⟩:=Kt (k:=3) (PF:=PF) (ρ:=ρ) (t:=Yv jM) (y.at T) rfl (Wr (i:=7) (j:=8) (a:=g) (b:=zt Jd) (by subst H;rfl) (by subst H;rfl)) ((kc B2).trans (i5 (K:=8) Ey CV EU (by decide) B2)) Hg
 have w:=y.trans z3;have C:=Q.mono w.ky;obtain⟨b,b',u,J,r2,z4,himp⟩:=C.ris (lo:=1) (hi:=(K:Int)-1) (by decide) (by omega)
 have Z:=w.trans z4;have er:zJ gL (zc wm (zc zM (zc (zi yT (zJ kT (zc zX zl)) zM) zl))) ρ I=.ok (.bl b') u:=by
  subst H;exact(qg (ws:=[g,.int 1,.int ((K:Int)-1)]) (A1:=I) (zQ (zq rfl) (zQ qE (zQ ((zO ((qg (zQ (zq rfl) qc)).trans ((Yo d I).trans (by rw[p]))) qE).trans rfl) qc)))).trans r2
 obtain⟨v,f4,z5⟩:∃v,ym (yf (zJ gL (zc wm (zc zM (zc (zi yT (zJ kT (zc zX zl)) zM) zl))))) (zi jb (wy (yH jM) PF (wA RF) (zc (kD 1 jh Pt 4 (PF 4)) zl)) (zZ (zc Z5 zl))) ρ I=.ok (.bl false) v/\Ext u v:=by
  cases b' with
  |true=>exact⟨u,Q8 (yY er),Ext.refl⟩|false=>
   have Y:b=false:=by
    cases b with
    |false=>rfl|true=>exact absurd (himp rfl) aA
   subst Y;have N:Zd [g,.int 1,.int ((K:Int)-1)] u=.ok (.bl false) u:=by
    rcases C with ⟨ws,rfl,hl,hw⟩|⟨ty,h,hn⟩
    ·rw[rw_T hl hw u]
     rw[rw_T hl hw I]at J;injection J with J
     rw[J]
    ·exact rw_N (z4.ky _ _ h) hn
   obtain⟨v,f,z⟩:=Kt (k:=4) (PF:=PF) (ρ:=ρ) (t:=Ys jM) (Z.at T) rfl (Wr (i:=3) (j:=7) (a:=zt t) (b:=g) (by subst H;rfl) (by subst H;rfl)) ((kd u).trans (i6 d st p (by omega) N)) RP
   exact⟨v,(gB (yY er)).trans f,z⟩
 have zz:=Z.trans z5;refine⟨some (.ref n),some (zt t),some (zr s),some bad,some (zt (wI U)),some g,some (zt Jd),v,?_,zz.at (E.kp.get g0 (by omega)),zz.at T⟩
 refine(zE (qz ((qg (zQ (zq rfl) (zQ (zq rfl) qc))).trans e1))).trans ?_;refine(zE (qz ((qg (zQ (zq rfl) qc)).trans e2))).trans ?_;refine(zE (qz ((qg (zQ (zq rfl) (zQ (zq rfl) qc))).trans e3))).trans ?_;refine(zE e4).trans ?_;refine(zE (ρ1:=[some (.ref 0),some (.int (k:Int)),some (.ref n),some (zt t),some (zr s),some bad,some (zt (wI U)),x7,x8]) (A1:=A6) (O3 (Zk (zQ ((qg (zQ (zq rfl) qc)).trans e5) (zQ ((qg (zQ (zq rfl) qc)).trans e6) qc))) rfl)).trans ?_;refine(zE (qz ((qg (zQ (zq rfl) (zQ ((qg (zQ (zq rfl) qc)).trans ((Yo d A6).trans (by rw[p]))) (zQ (zq rfl) qc)))).trans e7))).trans ?_
 refine(zE (ρ1:=ρ) (A1:=L) ((qz (kv L)).trans (by subst H;rfl))).trans ?_
 refine(zE ((jA f1).trans qD)).trans ((zE ((jA f2).trans qD)).trans ((zE ((jA f3).trans qD)).trans ((zE ((jA f4).trans qD)).trans ?_)));subst H;exact qD
end
def U9 (P:Addr)(PF:j3):Fn:=qU 9 (Ti Jo Jn Js Jv kT gL Ze Yf Jr Jp Ju jM RF P PF)
def CG:Nl jh U9:=λns A P PF=>by
 have s:qb (.ref 0) [.ro (ns.map W.int),.tab jh P]=some (ns.map W.int):=rfl;have E:mQ qZ (qw zo) [some (.ref 0),none,none,none,none,none,none,none,none] [.ro (ns.map W.int),.tab jh P]=.ok (.int ns.length) [.ro (ns.map W.int),.tab jh P]:=by
  rw[j6 (kY (w:=.ref 0) (A1:=[.ro (ns.map W.int),.tab jh P]) (zq rfl) s)];unfold qZ;rw[ag]
 have em:zi U7 zM (zi Xc (mQ qZ (qw zo)) ql) [some (.ref 0),none,none,none,none,none,none,none,none] [.ro (ns.map W.int),.tab jh P]=
   .ok (.int (if (if (2:Int)<ns.length then 2 else(ns.length:Int)) > 1 then(if (2:Int)<ns.length then 2 else(ns.length:Int)) else 1)) [.ro (ns.map W.int),.tab jh P]:=
  (zO (qE (w:=.int 1)) ((zO E (qE (w:=.int 2))).trans rfl)).trans rfl
 generalize n:(if (if (2:Int)<ns.length then 2 else(ns.length:Int)) > 1 then(if (2:Int)<ns.length then 2 else(ns.length:Int)) else 1)=v at em;have H:jP v=true:=by
  have:0<=v/\v<1000:=by
   rw[<- n]
   split<;>split<;>omega
  obtain⟨k,rfl⟩:=aY this.1;exact Fh (by omega)
 obtain⟨l,B,e,_⟩:=kU (j:=yd 0 v.toNat) (st:=turn (zG 1) (BL P PF)) (N:=v.toNat) (I:=λ_ ρ B=>B[0]? =some (.ro (ns.map W.int))/\B[1]? =some (.tab jh P)/\∃g c b a y5 y6 Y y,ρ=[some (.ref 0),g,c,b,a,y5,y6,Y,y])
  (λi ρ B hi ⟨h0,o,g,c,b,a,y5,y6,Y,y,h⟩=>by
   subst h;obtain⟨x,u,t,r,q,Z,z,p,e,f,d⟩:=BF (k:=i) (PF:=PF) (x2:=c) (x3:=b) (x4:=a) (x5:=y5) (x6:=y6) (x7:=Y) (x8:=y) h0 o;refine⟨_,_,p,yQ hi,(kq (ρ1:=[some (.ref 0),some (.int (i:Int)),c,b,a,y5,y6,Y,y]) ?_).trans e,f,d,_,_,_,_,_,_,_,_,rfl⟩;rw[bo];rfl)
  (λρ B _=>yP (by omega)) v.toNat 0 [some (.ref 0),none,none,none,none,none,none,none,none] [.ro (ns.map W.int),.tab jh P] (by omega) ⟨rfl,rfl,_,_,_,_,_,_,_,_,rfl⟩
 refine⟨B,qO ?_⟩;unfold Ti;exact(zE ((wt (gy em H)).trans e)).trans (qx (qW qE))
section
variable {K:Frag}
def LV (Z:Zz K h mg){PG:j3}{lam:Nat->Fn}(H:∀k,JM P w K mg base 8 (PG k) (lam k)):zP P w K mg base 9 "_law_refused" 1 ((qU 4 (Kg PG lam))):=by
 obtain⟨f,fd,F,a⟩:=Z.T.Ia;exact(Ic (k:=8) Z.B Z.C Z.T.zcp F (aW Z.X Z.G a) (av _) H)
def k8 (Z:Zz K h mg)(F:gv K "law" "law" Qr f fd)(hn:nsIn K mainGlobals "law"=some (some (.ref f)))(H:tabIn K "law"=some (c,Pt))(a:BMain mg base)(C:CodeHd base c Pt):kh P w K mg base g8 10 f fd ["_law_script"] (spT K 1 (U9 Pt)):=
 o_law (k:=9) (j:=7) (kk:=9) Z.B F hn H a C (LJ Z).up (Lk Z).up (HK Z).up (F4 Z).up (Kl Z).up (Io Z).up (Fb Z).up (HB Z).up (HJ Z).up (LQ Z).up (FV Z).up (by decide)
  (hG (k:=7) Z.B (λbase=>(R9 Z).up)) (λbase PG L=>(LV Z L).imp λus A _=>il us A)
def all_mk {l:PySem.W.OpenLaw}{i:Addr}(X:K.In h)(Gl:h.Ns mainGlobals mg)(b:mg "law"=some (.ref i))(T:Tx K)(H:∃c,tabIn K "law"=some (c,Pt)/\codeHdIn K c Pt=true):
  ∃fd:FuncData,(∀(s:Shared)(v:Value),BindsTo s fd ⟨[v],[]⟩ [("_law_script",v)])/\∀base:Heap,K.In base->base.Ns mainGlobals mg->BMain mg base->kh l.prog w K mg base g8 10 i fd ["_law_script"] (spT K 1 (U9 Pt)):=by
 obtain⟨c,H,d⟩:=H;obtain⟨f,fd,F,a⟩:=T.zdw;have e:=b.symm.trans (aW X Gl a);cases e;obtain⟨p,n,kV,doc,pm,an,C,ct,o,rfl,lk,g⟩:=id F.ex;exact⟨_,λs v=>.of_eq rfl,λbase j nb B=>k8 (zz X Gl T) F a H B (codeHd_of_K j d)⟩
end
end G
namespace PySem.W.Fast
def tw1590222041282371988:Nat:=0
def tw10347071343971179464:Nat:=0
def tw15292497721190474285:Nat:=0
def tw14135246512721296460:Nat:=0
def tw6938225443233799834:Nat:=0
def tw9288474352819978930:Nat:=0
def tw5872426924566619494:Nat:=0
def tw5421401187235724376:Nat:=0
def tw7275687805221359686:Nat:=0
def tw1913140983004676472:Nat:=0
def tw2292653972761852652:Nat:=0
def tw11732431584083802490:Nat:=0
def tw13573335839109280966:Nat:=0
def tw10684387335930266760:Nat:=0
def tw14402851779964583601:Nat:=0
def tw529979918863046731:Nat:=0
def tw14885122805570038995:Nat:=0
def tw7461504415422279619:Nat:=0
def tw10352330896739657515:Nat:=0
def tw2929395059092393497:Nat:=0
def tw9367460806018713758:Nat:=0
def tw14871414811072770871:Nat:=0
def tw15414273215143465453:Nat:=0
def tw4526243877837174304:Nat:=0
def tw10737581873663959859:Nat:=0
def tw17535605937405515107:Nat:=0
def tw9928731163051439874:Nat:=0
def tw7281234912708997623:Nat:=0
def tw5310931199667749564:Nat:=0
def tw1341066159474622504:Nat:=0
def tw13732222455758683605:Nat:=0
def tw13215693914677777710:Nat:=0
def tw2033145321286677939:Nat:=0
def tw171121491845479479:Nat:=0
def tw15139452841505477446:Nat:=0
def tw1429313048831758596:Nat:=0
def tw7953584915523957190:Nat:=0
def tw150141770590116797:Nat:=0
def tw3465180636227076901:Nat:=0
def tw11584846808316025926:Nat:=0
def tw1573059148230931027:Nat:=0
def tw12515086721345231260:Nat:=0
def tw14595843275915566538:Nat:=0
def tw17658127950067233431:Nat:=0
end PySem.W.Fast
open PySem PySem.W PyProof.Rows
set_option maxRecDepth 100000 in
set_option maxHeartbeats 0 in
theorem PySem.Challenge.cw_nearkinds_k52_best_mixes_holds : PySem.Challenge.rw_nearkinds_k52_best_mixes.Holds := by
 w_on;o_law;k_head;(case hw=>w_witness2)
 k_fill
 refine' Mi.zc0 (l:=PySem.Challenge.rw_nearkinds_k52_best_mixes) (k:=10) (x := "_law_script") G.CG rfl rfl ⟨rfl,by decide,by decide⟩ (λw h Y=>PySem.W.km_in_of Y) (λw h Y=>PySem.W.km_tabs_of Y _ (ax ..)) ?ht ?hKP ?F
 case ht=>exact λp=>by kernel_rfl
 case hKP=>exact λp=>by kernel_rfl
 case F=>
  intro w mg fa h KX Gl hmg ht;have T:G.Tx (L2.MD KX):=by
   dsimp only [L2.MD]
   apply G.Tx.mk<;>first | (refine' Mi.zc9 ?a ?l ?c ?k;(case a=>k_is);(case l=>k_is);(case c=>k_is);(case k=>k_is)) | (refine' Mi.zcz ?a;(case a=>k_is)) | k_is|kernel_rfl
  exact G.all_mk KX Gl hmg T ht
