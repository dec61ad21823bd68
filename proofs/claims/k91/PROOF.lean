import PyProof.Rows.All
import Wide.All
import OpenK.AllK
import Wide.FinOn
import Lean
import PyProof.EqAt
import PyProof.EqKinds
import PyProof.TupleCall
import OpenK.KOwn
import PyProof.Rows.FStr
import PyProof.FString
import PyProof.NsDelKeeps
import KE.KIsAll
import PyProof.ExcArgs
import KE.KLam
import KE.KNestM
import PyProof.Rows.SetFrom
import PyProof.ListMulRoad
import PyProof.FactsAll.set_1
import PyProof.FactsAll.set_2
import PyProof.CollectIter
import PyProof.TupleIter
import PyProof.CollectWalk
import PyProof.Rows.SortShell
import PyProof.SumAny
import PyProof.ListOps
import KE.KDictList
import PyProof.NoPylong
import KE.KUnpack
import KE.KSortTup
import KE.KIntText
import PySem.Challenge.RW_nearkinds_k91_texts_that_write_none
noncomputable section
open PySem.W (Frag)
open List (all_map any_cons drop_length ext_getElem? forIn_cons forIn_nil length_drop length_filter_le length_nil length_set lookup_cons map_id mem_append_left mem_cons mem_filter nil_append not_mem_nil of_mem_zip range'_succ range_eq_range' range_succ take_length)
open Nat (le_add_right le_succ lt_trans zero_le)
open Int (emod_nonneg)
open Option (any_eq_true getD_none)
open Array (toList_append)
open PySem.W (CodeHd callWith_K cellsFrom_some codeHdIn codeHd_of_K codeIn envX fnOf hideAll hideAll_none hideAll_size instObj keepIn kitAny kitOne kitx_bool kitx_dict kitx_float kitx_int kitx_list kitx_none kitx_str kitx_tuple kla_fn kla_obj lookIn methodObj nsIn of_hideAll plainGet tabIn tabObj)
open PySem.F (args_tuple_add_2 entry_tuple_add plain_sum_loop slot_set_iter slot_tuple_add)
abbrev aa:=@List.getElem?_eq_getElem
abbrev ae:=@List.getD_eq_getElem?_getD
abbrev af:=@PySem.Heap.get?_push_of_some
abbrev ag:=@if_pos
abbrev ah:=@List.length_map
abbrev ai:=@List.getElem?_append_left
abbrev aj:=@Bool.and_eq_true
abbrev ak:=@decide_eq_true_iff
abbrev ao:=@List.mem_cons_of_mem
abbrev aq:=@PySem.Heap.get?_push_size
abbrev ar:=@if_neg
abbrev au:=@Nat.le_refl
abbrev av:=@List.getElem?_append_right
abbrev aw:=@List.getElem?_map
abbrev ax:=@decide_eq_true
abbrev ay:=@decide_eq_false
abbrev az:=@List.mem_cons_self
abbrev aA:=@Bool.false_ne_true
abbrev aB:=@Option.some.inj
abbrev aC:=@Nat.lt_of_lt_of_le
abbrev aD:=@List.length_append
abbrev aE:=@List.size_toArray
abbrev aF:=@PySem.Heap.lt_size
abbrev aG:=@Array.length_toList
abbrev aH:=@List.getElem?_set_self
abbrev aI:=@beq_iff_eq
abbrev aJ:=@List.getElem?_set_ne
abbrev aK:=@Nat.ne_of_lt
abbrev aL:=@List.getElem?_eq_none
abbrev aM:=@Int.toNat_natCast
abbrev aN:=@List.getElem_mem
abbrev aO:=@List.map_map
abbrev aP:=@List.append_assoc
abbrev aQ:=@Nat.le_trans
abbrev aR:=@List.mem_append_right
abbrev aS:=@List.flatten_cons
abbrev aT:=@PySem.W.mg_none_of
abbrev aU:=@List.map_cons
abbrev aV:=@PySem.Heap.get?_update_other
abbrev aW:=@Nat.lt_irrefl
abbrev aX:=@List.map_append
abbrev aY:=@PySem.Heap.get?_update_self
abbrev aZ:=@Nat.lt_succ_of_lt
abbrev a5:=@List.length_singleton
abbrev a6:=@Int.toNat_of_nonneg
abbrev a7:=@Bool.false_eq_true
abbrev a8:=@Int.eq_ofNat_of_zero_le
abbrev a9:=@PySem.Heap.size_push
abbrev ba:=@List.getElem?_range
abbrev bb:=@PySem.W.mg_of
abbrev bc:=@List.length_cons
abbrev bf:=@List.length_range
abbrev bg:=@List.append_nil
abbrev bh:=@Array.getElem?_toList
abbrev bj:=@List.replicate_succ
abbrev bo:=@List.length_take
abbrev bp:=@List.filterMap_cons
abbrev bq:=@Nat.lt_succ_self
abbrev br:=@Bool.not_eq_true'
abbrev bt:=@Nat.le_of_lt
abbrev bw:=@List.getElem?_replicate
abbrev bx:=@Nat.ne_of_gt
abbrev bz:=@beq_self_eq_true
abbrev bA:=@List.getElem_of_mem
abbrev bB:=@PySem.W.kia_one
abbrev bC:=@List.length_replicate
abbrev bD:=@Int.zero_add
abbrev bE:=@List.mem_of_getElem?
abbrev bF:=@PySem.W.hideAll_get
abbrev bG:=@Int.emod_lt_of_pos
abbrev bH:=@Bool.or_eq_true
abbrev bI:=@List.map_congr_left
abbrev bJ:=@List.ext_getElem
abbrev bK:=@List.all_eq_true
abbrev bL:=List (List Int)
abbrev bM:=List Int
abbrev bN:=List PySem.Value
abbrev bO:=List PySem.Addr
abbrev bP:=List (PySem.Addr×PySem.Obj)
abbrev bQ:=List Nat
abbrev bR:=List PySem.Str
abbrev bS:=PySem.Value->PySem.Shared->Prop
abbrev bT:=List PySem.Expr
abbrev bU:=Option Int
abbrev bV:=PySem.Str->Option PySem.Value
abbrev bW:=List PySem.Env
abbrev bX:=List (PySem.Str×PySem.Addr)
abbrev bY:=List PySem.Keyword
abbrev bZ:=Option PySem.Addr
abbrev b8:=List PySem.Stmt
abbrev b9:=@PySem.wpAny_bind
abbrev cb:=@PySem.wpAny_pure
abbrev cg:=@List.getElem?_eq_some_iff
abbrev cc:=@List.mem_cons
abbrev cm:=@List.all_eq_true
abbrev ck:=@List.mem_range
abbrev cf:=@List.mem_map
abbrev cn:=@List.mem_singleton
set_option Elab.async false
set_option linter.all false
set_option maxRecDepth 1000000
set_option maxHeartbeats 4000000
variable {XP:(PySem.Str->Option PySem.Value)->PySem.Heap->Prop}{D Pt a b c f:PySem.Addr}{osl:Array (Option PySem.Value)}{led:Bool}{op:PySem.CmpOp}{env:PySem.Env}{e elt tg:PySem.Expr}{fd:PySem.FuncData}{base h:PySem.Heap}{pins:List (PySem.Addr×PySem.Obj)}{es:List (Int×PySem.Value)}{t:bL}{cells:List (PySem.Str×PySem.Addr)}{fp φ:List PySem.Addr}{gens gs:List PySem.Comprehension}{elts ifs:List PySem.Expr}{ns:bM}{cap:bQ}{body:List PySem.Stmt}{N ps:List PySem.Str}{its us:List PySem.Value}{M:PySem.Model}{i j k kk n t':Nat}{μ:Nat->Nat->Int}{apos cpos p pos tpos:PySem.Pos}{P:PySem.Program}{sc scope:PySem.Scope}{s s':PySem.Shared}{qual x:PySem.Str}{mg:PySem.Str->Option PySem.Value}{α:Type}{u:PySem.Value}{E Q:PySem.Value->PySem.Shared->Prop}{w:PySem.World}
namespace L2
open PySem PySem.Spec PyProof.Rows
noncomputable abbrev Key:=Sum Int Str
noncomputable def Rp:Key->Value->Bool
 |.inl k,v=>Value.isInt k v|.inr x,v=>Value.isStrOf x v
noncomputable def Bm (w:World):Key->Int
 |.inl k=>hashInt k|.inr x=>hashStr w x
theorem gZ:∀{k:Key}{v:Value},Rp k v=true->(∃i t,k=Sum.inl i/\v=Value.int i t)∨(∃x t,k=Sum.inr x/\v=Value.str x t)
 |.inl i,v,h=>by
  obtain⟨t,e⟩:=Value.isInt_shape (k:=i) (v:=v) h;exact .inl ⟨i,t,rfl,e⟩
 |.inr x,v,h=>by
  obtain⟨t,e⟩:=Value.isStrOf_shape (x:=x) (v:=v) h;exact .inr ⟨x,t,rfl,e⟩
def FY (a b:Int):decide ((Sum.inl a:Key)=Sum.inl b)=(a==b):=by
 by_cases e:a=b
 ·subst e;simp
 ·have h:¬(Sum.inl a:Key)=Sum.inl b:=λq=>e (Sum.inl.inj q)
  rw[ay h];exact(beq_eq_false_iff_ne.mpr e).symm
def FV (a b:Str):decide ((Sum.inr a:Key)=Sum.inr b)=decide (a=b):=by
 by_cases e:a=b
 ·subst e;simp
 ·have h:¬(Sum.inr a:Key)=Sum.inr b:=λq=>e (Sum.inr.inj q)
  rw[ay h,ay e]
def Eo (a:Int)(b:Str):decide ((Sum.inl a:Key)=Sum.inr b)=false:=ay (λq=>nomatch q)
def ET (a:Str)(b:Int):decide ((Sum.inr a:Key)=Sum.inl b)=false:=ay (λq=>nomatch q)
def TL (prog:Program)(w:World):PySem.KeyKind prog w Key where
 is:=Rp
 hash:=Bm w
 inj:=λv a b f c=>by
  rcases gZ f with ⟨i,t,rfl,rfl⟩|⟨x,t,rfl,rfl⟩
  ·rcases gZ c with ⟨j,u,rfl,e⟩|⟨y,u,rfl,e⟩
   ·injection e with E _;rw[E]
   ·exact nomatch e
  ·rcases gZ c with ⟨j,u,rfl,e⟩|⟨y,u,rfl,e⟩
   ·exact nomatch e
   ·injection e with E _;rw[E]
 byValue:=λk v h=>by
  rcases gZ h with ⟨i,t,rfl,rfl⟩|⟨x,t,rfl,rfl⟩<;>rfl
 pyHash:=λH h=>by
  rcases gZ H with ⟨i,t,rfl,rfl⟩|⟨x,t,rfl,rfl⟩
  ·exact wpAny_pyHash_int h
  ·exact wpAny_pyHash_str h
 eqBool:=λd H h=>by
  rcases gZ d with ⟨i,t,rfl,rfl⟩|⟨x,t,rfl,rfl⟩
  ·rcases gZ H with ⟨j,u,rfl,rfl⟩|⟨y,u,rfl,rfl⟩
   ·rw[FY]at h;exact wpAny_eqBool_int h
   ·rw[Eo]at h;exact SeqAt.EqAt.int_str i t y u _ _ _ _ h
  ·rcases gZ H with ⟨j,u,rfl,rfl⟩|⟨y,u,rfl,rfl⟩
   ·rw[ET]at h;exact SeqAt.EqAt.str_int x t j u _ _ _ _ h
   ·rw[FV]at h;exact wpAny_eqBool_str h
 «strs»:=λk x t v h=>by
  rcases gZ h with ⟨i,u,rfl,e⟩|⟨y,u,rfl,e⟩
  ·exact nomatch e
  ·injection e with E _
   subst E;cases v<;>rfl
inductive V where
 |non|bl (b:Bool)|int (i:Int)|str (x:Str)|byt (b:Array UInt8)|flt (b:UInt64)|ref (a:Addr)|ty (n:String)
 deriving DecidableEq
noncomputable def RelV:V->Value->Prop
 |.non,u=>u=Value.none|.bl b,u=>u=Value.bool b|.int i,u=>∃t,u=Value.int i t|.str x,u=>∃t,u=Value.str x t|.byt b,u=>∃t,u=Value.bytes b t|.flt b,u=>∃t,u=Value.float b t|.ref a,u=>u=Value.ref a|.ty n,u=>u=Value.type n
abbrev Vals:List V->List Value->Prop:=Paired RelV
theorem Vals.length {xs:List V}(r:Vals xs us):xs.length=us.length:=Paired.length r
theorem Vals.get:∀{xs:List V}{us:bN}{i:Nat}{x:V},Vals xs us->xs[i]? =some x->∃u,us[i]? =some u/\RelV x u
 |_,_,_,_,.nil,e=>by simp at e|_,_,0,_,.cons r _,e=>by simp at e;subst e;exact⟨_,rfl,r⟩|_,_,i+1,x,.cons _ t,e=>by
  obtain⟨u,H,h⟩:=Vals.get (i:=i) (x:=x) t (by simpa using e)
  exact⟨u,by simpa using H,h⟩
theorem Vals.set {x:V}(r:RelV x u):∀{xs:List V}{us:bN}(i:Nat),Vals xs us->Vals (xs.set i x) (us.set i u)
 |_,_,_,.nil=>.nil|_,_,0,.cons _ t=>.cons r t|_,_,i+1,.cons q t=>.cons q (Vals.set r i t)
theorem Vals.append:∀{xs ys:List V}{us ws:bN},Vals xs us->Vals ys ws->Vals (xs++ys) (us++ws)
 |_,_,_,_,.nil,s=>s|_,_,_,_,.cons r t,s=>.cons r (Vals.append t s)
theorem Vals.take:∀{xs:List V}{us:bN}(n:Nat),Vals xs us->Vals (xs.take n) (us.take n)
 |_,_,0,_=>.nil|_,_,_+1,.nil=>.nil|_,_,n+1,.cons r t=>.cons r (Vals.take n t)
theorem Vals.drop:∀{xs:List V}{us:bN}(n:Nat),Vals xs us->Vals (xs.drop n) (us.drop n)
 |_,_,0,r=>r|_,_,_+1,.nil=>.nil|_,_,n+1,.cons _ t=>Vals.drop n t
def Vals.none_of:∀{xs:List V}{us:bN}{i:Nat},Vals xs us->xs[i]? =none->us[i]? =none:=λ {xs us i} r e=>by
 have H:=r.length;have h:xs.length<=i:=List.getElem?_eq_none_iff.mp e;exact List.getElem?_eq_none_iff.mpr (by omega)
def X0:Option V->Option Value->Prop
 |some v,some u=>RelV v u|none,none=>True|_,_=>False
def KV {κ:Type}:List (κ×V)->List (κ×Value)->Prop:=Paired λ(p:κ×V) (q:κ×Value)=>p.1=q.1/\RelV p.2 q.2
noncomputable def kV:Key->V
 |.inl i=>.int i|.inr x=>.str x
inductive HO where
 |lst (xs:List V)
 |tup (xs:List V)
 |dK (kvs:List (Key×V))|dT (kvs:List (List Key×V))
 |set (S:Int->Bool) (n:Nat)
 |ins (C dx:Addr) (fs:List (Str×V))
 |own (x:Addr)
 |xd (fs:List (Str×V))
 |met (f x:Addr)
 |rng (lo hi:Int)
 |frz (o:Obj) (u:HO)
 |tbl (ps:Array Value)
 |ext (φ:Heap->Prop)
noncomputable abbrev Hp:=Addr->Option HO
noncomputable def upd (H:Hp)(a:Addr)(o:HO):Hp:=λb=>if b=a then some o else H b
def jI {H:Hp}{o:HO}:upd H a o a=some o:=by unfold upd;rw[ag rfl]
def qc {H:Hp}{o:HO}(h:b≠a):upd H a o b=H b:=by unfold upd;rw[ar h]
def Yj {H:Hp}{o u:HO}(h:H a=some o)(h':H b=some u)(d:o≠u):a≠b:=by
 intro e;subst e;rw[h]at h';exact d (aB h')
def kv {H:Hp}{o:HO}(h:H a=some o)(h':H b=none):a≠b:=by
 intro e;subst e;rw[h]at h';cases h'
def Qq (h:Heap)(a:Addr)(items:Array Value):Prop:=∃o,h.get? a=some o/\(o.cls=.type "tuple" /\ o.dict=none)/\∃n,o.data=.seq items n
def Qq.tup {h:Heap}{a:Addr}{items:Array Value}(x:Qq h a items):IsTup h a items:=let ⟨o,e,c,d⟩:=x;⟨o,e,c.1,d⟩
def Qq.new (h:Heap)(items:Array Value):Qq (h.push { cls:=.type "tuple",data:=.seq items }) h.objs.size items:=⟨_,aq h rfl,⟨rfl,rfl⟩,0,rfl⟩
section
variable (P:Program)(w:World)
def jb (H:Hp)(h:Heap)(a:Addr):HO->Prop
 |.lst xs=>xs.length<=sizeLine/\∃(its:bN) (n:Nat),Vals xs its/\h.get? a=some { cls:=.type "list",data:=.seq its.toArray n }
 |.tup xs=>xs.length<=sizeLine/\∃its:bN,Vals xs its/\Qq h a its.toArray|.dK k=>k.length<=sizeLine/\(a==sysModules)=false/\∃vs,KV k vs/\h.DictOf (TL P w) a vs|.dT k=>k.length<=sizeLine/\(a==sysModules)=false/\∃xs:List (List Key×Addr×Value),
   Paired (λ(p:List Key×V) (q:List Key×Addr×Value)=>p.1=q.1/\H q.2.1=some (.tup (p.1.map kV))/\RelV p.2 q.2.2) k xs/\
   ∃o e E,h.get? a=some o/\o.ExactDict/\o.data=.dict e E/\e.toList=xs.map (entryOfKey (tupleKind (TL P w)))/\(xs.map (·.1)).Nodup
 |.set S n=>h.SetOf (intKind P w) a S n|.ins C d fs=>H d=some (.own a)/\fs.length<=1000/\d≠a/\h.get? a=some (instObj C d)/\
   ∃M,h.Ns1 d M/\(∀f,X0 (fs.lookup f) (M f))/\PySem.Within M (fs.map (·.1))
 |.own _=>∃o,h.get? a=some o|.xd fs=>∃M,h.Ns1 a M/\∀f,X0 (fs.lookup f) (M f)|.rng lo i=>∃t u v,h.get? a=some { cls:=.type "range",data:=.fields #[.int lo t,.int i u,.int 1 v] }
 |.frz o u=>h.get? a=some o/\jb H h a u|.tbl ps=>h.get? a=some { cls:=.none,data:=.fields ps }|.met f x=>h.get? a=some (methodObj (.ref f) (.ref x))|.ext φ=>φ h/\(∃o,h.get? a=some o)/\∀c b:Heap,φ c->(∀o,c.get? a=some o->b.get? a=some o)->φ b
def j0 (H:Hp)(h:Heap):Prop:=∀a o,H a=some o->jb P w H h a o
end
section
variable {H H':Hp}{h':Heap}{o:HO}
theorem jb.lt (x:jb P w H h a o):a<h.objs.size:=by
 cases o with
 |lst xs=>obtain⟨_,_,_,_,e⟩:=x;exact aF e|tup xs=>obtain⟨_,_,_,p⟩:=x;exact p.tup.lt|dK k=>obtain⟨_,_,_,_,o,_,_,e,_⟩:=x;exact aF e|dT k=>obtain⟨_,_,_,_,o,_,_,e,_⟩:=x;exact aF e|set S n=>obtain⟨o,_,_,_,e,_⟩:=x;exact aF e|ins C d fs=>obtain⟨_,_,_,e,_⟩:=x;exact aF e|own y=>obtain⟨_,e⟩:=x;exact aF e|xd fs=>obtain⟨_,⟨_,_,_,e,_⟩,_⟩:=x;exact aF e|rng lo i=>obtain⟨_,_,_,e⟩:=x;exact aF e|frz ob u=>obtain⟨e,_⟩:=x;exact aF e|tbl ps=>exact aF (show h.get? a=some _ from x)|met f y=>exact aF (show h.get? a=some _ from x)|ext φ=>obtain⟨_,⟨_,e⟩,_⟩:=x;exact aF e
theorem Paired.mapP {β:Type}{F G:α->β->Prop}:∀{L:List α}{l:List β},Paired F L l->(∀a b,F a b->G a b)->Paired G L l
 |_,_,.nil,_=>.nil|_,_,.cons r t,f=>.cons (f _ _ r) (Paired.mapP t f)
def jb.stay (x:jb P w H h a o)(k:∀b u,(b=a∨H b=some (.own a))->h.get? b=some u->h'.get? b=some u)
  (s:∀b,H b=some (.own a)->H' b=some (.own a))(l:∀b xs,H b=some (.tup xs)->H' b=some (.tup xs)):jb P w H' h' a o:=by
 induction o with
 |lst xs=>obtain⟨z,i,n,r,e⟩:=x;exact⟨z,i,n,r,k _ _ (.inl rfl) e⟩|tup xs=>obtain⟨z,i,r,ob,e,c⟩:=x;exact⟨z,i,r,ob,k _ _ (.inl rfl) e,c⟩|dK K=>obtain⟨z,y,vs,r,ob,E,g,e,c⟩:=x;exact⟨z,y,vs,r,ob,E,g,k _ _ (.inl rfl) e,c⟩|dT K=>
  obtain⟨z,y,xs,r,ob,E,g,e,c⟩:=x;exact⟨z,y,xs,Paired.mapP r λp q z=>⟨z.1,l _ _ z.2.1,z.2.2⟩,ob,E,g,k _ _ (.inl rfl) e,c⟩
 |set S n=>obtain⟨ob,E,g,t,e,c⟩:=x;exact⟨ob,E,g,t,k _ _ (.inl rfl) e,c⟩|ins C D fs=>
  obtain⟨d,z,ne,e,M,⟨j,E,g,A,c⟩,r⟩:=x;exact⟨s _ d,z,ne,k _ _ (.inl rfl) e,M,⟨j,E,g,k _ _ (.inr d) A,c⟩,r⟩
 |own y=>obtain⟨ob,e⟩:=x;exact⟨ob,k _ _ (.inl rfl) e⟩|xd fs=>obtain⟨M,⟨j,E,g,e,c⟩,r⟩:=x;exact⟨M,⟨j,E,g,k _ _ (.inl rfl) e,c⟩,r⟩|rng lo B=>obtain⟨t,u,v,e⟩:=x;exact⟨t,u,v,k _ _ (.inl rfl) e⟩|frz ob u I=>obtain⟨e,q⟩:=x;exact⟨k _ _ (.inl rfl) e,I q⟩|tbl ps=>
  have e:h.get? a=some { cls:=.none,data:=.fields ps }:=x;show h'.get? a=some { cls:=.none,data:=.fields ps };exact k a _ (.inl rfl) e
 |met f y=>
  have e:h.get? a=some (methodObj (.ref f) (.ref y)):=x;show h'.get? a=some (methodObj (.ref f) (.ref y));exact k a _ (.inl rfl) e
 |ext φ=>obtain⟨p,⟨o,e⟩,st⟩:=x;exact⟨st _ _ p λo q=>k _ _ (.inl rfl) q,⟨o,k _ _ (.inl rfl) e⟩,st⟩
theorem j0.lt (x:j0 P w H h)(e:H a=some o):a<h.objs.size:=(x a o e).lt
def j0.fresh (x:j0 P w H h)(e:h.objs.size<=a):H a=none:=by
 cases q:H a with
 |none=>rfl|some u=>exact absurd (aC (x.lt q) e) (aW _)
def j0.kept (x:j0 P w H h)(k:∀b u,h.get? b=some u->h'.get? b=some u):j0 P w H h':=λa o e=>
 (x a o e).stay (λb u _ q=>k b u q) (λ_ q=>q) λ_ _ q=>q
def j0.laid (x:j0 P w H h)(k:∀b u,h.get? b=some u->h'.get? b=some u)(p:h.objs.size<=a)(new:jb P w (upd H a o) h' a o):j0 P w (upd H a o) h':=λb u e=>by
 have hn:=x.fresh p
 by_cases d:b=a
 ·subst d;rw[jI]at e;cases e;exact new
 ·rw[qc d]at e
  exact(x b u e).stay (λc v _ q=>k c v q) (λc q=>by rw[qc (kv q hn)];exact q) λc xs q=>by rw[qc (kv q hn)];exact q
end
def Rd (H:Hp)(a:Addr)(u:HO):Prop:=H a=some u∨∃o,H a=some (.frz o u)
def Rd.ok {H:Hp}{u:HO}(r:Rd H a u)(x:j0 P w H h):jb P w H h a u:=by
 rcases r with r|⟨o,r⟩
 ·exact x a u r
 ·obtain⟨_,q⟩:=x a _ r
  exact q
noncomputable def Wm:Option HO->Prop
 |some (.lst _)=>True|some (.dK _)=>True|some (.dT _)=>True|some (.set _ _)=>True|some (.ins _ _ _)=>True|some (.ext _)=>True|_=>False
section
variable {H:Hp}{h':Heap}{x e:Addr}{o':HO}
def j0.write (ok:j0 P w H h)(M:Wm (H x))(he:e=x∨H e=some (.own x))(k:∀b u,b≠e->h.get? b=some u->h'.get? b=some u)(o:∃u,h'.get? e=some u)
  (new:jb P w (upd H x o') h' x o'):j0 P w (upd H x o') h':=λb u q=>by
 have n:∀c y,H c=some (.own y)->c≠x:=λc y r z=>by subst z;rw[r]at M;exact M
 have N:∀c xs,H c=some (.tup xs)->c≠x:=λc xs r z=>by subst z;rw[r]at M;exact M
 by_cases f:b=x
 ·subst f;rw[jI]at q;cases q;exact new
 ·rw[qc f]at q
  by_cases a:b=e
  ·have Q:H b=some (.own x):=by
    rcases he with z|z
    ·exact absurd (a.trans z) f
    ·rw[a];exact z
   rw[q]at Q;cases Q;obtain⟨v,g⟩:=o;exact⟨v,by rw[a];exact g⟩
  ·refine(ok b u q).stay (λc v d r=>k c v ?_ r) (λc r=>by rw[qc (n c b r)];exact r) λc xs r=>by rw[qc (N c xs r)];exact r
   rcases d with rfl|d
   ·exact a
   ·rintro rfl
    rcases he with z|z
    ·exact n c b d z
    ·rw[d]at z;cases z;exact f rfl
end
structure Un (fs ex:bO)(H H':Hp)(h h':Heap):Prop where
 keep:∀b o,h.get? b=some o->H b=none->b∉fs->b∉ex->h'.get? b=some o
 slot:∀b o,h.get? b=some o->H b=none->b∈fs->b∉ex->∃sl,h'.get? b=some { o with slots:=sl }
 free:∀b o,h.get? b=some o->H b=none->b∉ex->H' b=none
 there:∀b o,h.get? b=some o->b∉ex->∃o',h'.get? b=some o'
 tups:∀b xs,H b=some (.tup xs)->H' b=some (.tup xs)
 frzs:∀b o u,H b=some (.frz o u)->H' b=some (.frz o u)
 tbls:∀b ps,H b=some (.tbl ps)->∃more,H' b=some (.tbl (ps++more))
section
variable {fs ex:bO}{H H1:Hp}{h1 h':Heap}{x e:Addr}{o:HO}
def Un.any (u:Un fs ex H H1 h h1){ob:Obj}(q:h.get? b=some ob)(n:H b=none)(x:b∉ex):∃s,h1.get? b=some { ob with slots:=s }:=by
 by_cases a:b∈fs
 ·exact u.slot b ob q n a x
 ·exact⟨ob.slots,u.keep b ob q n a x⟩
def Un.kept (k:∀b u,h.get? b=some u->h'.get? b=some u):Un fs ex H H h h':=
 ⟨λb ob q _ _ _=>k b ob q,λb ob q _ _ _=>⟨ob.slots,k b ob q⟩,λ_ _ _ n _=>n,λb ob q _=>⟨ob,k b ob q⟩,λ_ _ q=>q,λ_ _ _ q=>q,λ_ ps q=>⟨#[],by rw[q];simp⟩⟩
def Un.refl:Un fs ex H H h h:=Un.kept λ_ _ q=>q
def Un.laid (k:∀b u,h.get? b=some u->h'.get? b=some u)(p:h.objs.size<=a)(hn:H a=none):Un fs ex H (upd H a o) h h' where
 keep:=λb u q _ _ _=>k b u q
 slot:=λb u q _ _ _=>⟨u.slots,k b u q⟩
 free:=λb u q n _=>by rw[qc (aK (aC (aF q) p))];exact n
 there:=λb u q _=>⟨u,k b u q⟩
 tups:=λb xs q=>by rw[qc (kv q hn)];exact q
 frzs:=λb u xs q=>by rw[qc (kv q hn)];exact q
 tbls:=λb ps q=>⟨#[],by rw[qc (kv q hn),q];simp⟩
def Un.write (M:Wm (H x))(he:e=x∨H e=some (.own x))(k:∀b u,b≠e->h.get? b=some u->h'.get? b=some u)(c:∃u,h'.get? e=some u):Un fs ex H (upd H x o) h h':=by
 have d:∀b,H b=none->b≠x:=λb n z=>by subst z;rw[n]at M;exact M
 have f:∀b,H b=none->b≠e:=λb n z=>by
  subst z;rcases he with r|r
  ·exact d b n r
  ·rw[n]at r;cases r
 have hm:∀b u,H b=some u->¬Wm (some u)->b≠x:=λb u q nm z=>by subst z;rw[q]at M;exact nm M
 refine⟨λb u q n _ _=>k b u (f b n) q,λb u q n _ _=>⟨u.slots,k b u (f b n) q⟩,λb u q n _=>by rw[qc (d b n)];exact n,λb u q _=>?_,
  λb xs q=>by rw[qc (hm b _ q λz=>z)];exact q,λb u xs q=>by rw[qc (hm b _ q λz=>z)];exact q,λb ps q=>⟨#[],by rw[qc (hm b _ q λz=>z),q];simp⟩⟩
 by_cases a:b=e
 ·subst a;exact c
 ·exact⟨u,k b u a q⟩
end
noncomputable def Wt (h:Heap)(H:Hp):bO:=(List.range h.objs.size).filter λa=>(H a).isSome
def gO (h:Heap)(H:Hp):Heap:=hideAll h (Wt h H)
def Ma (h:Heap)(H:Hp):(gO h H).objs.size=h.objs.size:=hideAll_size _ _
def Lu {H:Hp}{o:Obj}(e:h.get? b=some o)(n:H b=none):(gO h H).get? b=some o:=
 bF _ e λhm=>by
  have q:(H b).isSome=true:=(List.mem_filter.mp hm).2;rw[n]at q;simp at q
def Fp {H:Hp}{o:Obj}(e:(gO h H).get? b=some o):h.get? b=some o/\H b=none:=by
 have E:h.get? b=some o:=of_hideAll (Wt h H) e;refine⟨E,?_⟩;cases q:H b with
 |none=>rfl|some x=>
  have hm:b∈Wt h H:=List.mem_filter.mpr ⟨ck.mpr (aF E),by simp[q]⟩
  have z:(gO h H).get? b=none:=hideAll_none (Wt h H) hm;rw[z]at e;cases e
structure Mod (K:Frag)(mg:bV)(base:Heap):Prop where
 kin:K.In base
 glob:base.Ns mainGlobals mg
 blt:∃mb,base.Ns builtinsNs mb/\∀x:Str,x ≠ "__name__" -> mb x=bootBuiltins x
 nolimit:base.NoLimit
structure Cx where
 prog:Program
 w:World
 K:Frag
 mg:Str->Option Value
 base:Heap
 A:Around
 N:bR
 s0:Shared
 H0:Hp
 env:Env
 outer:bW
 stack:bW
 ex:bO
 fn:Str->Bool
 calm:Bool
 pn:bP
 xe:Value->Shared->Prop
noncomputable def qu (l:bW):bO:=l.filterMap (·.frame)
abbrev Cx.fs (X:Cx):bO:=qu X.outer
def Ww (sc:Scope)(x:Str):Prop:=sc.names.lookup x=some .local∨sc.names.lookup x=some .cell∨sc.names.lookup x=some .free
def Loc (sc:Scope)(x:Str):Prop:=sc.names.lookup x=some .local∨sc.names.lookup x=some .cell
def Look (env:Env)(h:Heap)(m:bV)(x:Str)(u:Value):Prop:=
 (env.kindOf x=some .local/\m x=some u)∨((env.kindOf x=some .cell∨env.kindOf x=some .free)/\∃c,env.cells.lookup x=some c/\h.IsCell c (some u))
structure Cx.Ok (X:Cx):Prop where
 mod:Mod X.K X.mg X.base
 kind:X.env.scope.kind=.function
 glob:X.env.globals=mainGlobals
 blt:X.env.builtins=builtinsNs
 above:X.s0.heap.objs.size<=X.env.locals
 inj:∀x y c,X.env.cells.lookup x=some c->X.env.cells.lookup y=some c->x=y
 has:∀x,(X.env.kindOf x=some .cell∨X.env.kindOf x=some .free)->∃c,X.env.cells.lookup x=some c
 cab:∀x c,X.fn x=true->X.env.cells.lookup x=some c->X.s0.heap.objs.size<=c
 hd:X.calm=true->X.A.handled=none
 frames:X.A.frames=some X.stack
 stk:X.stack=X.outer∨(X.stack=X.env::X.outer/\X.env.frame=some X.env.locals)
 exf:∀b∈X.ex,b≠X.env.locals/\∀x c,X.env.cells.lookup x=some c->c≠b
 bs:∀b o,X.base.get? b=some o->X.s0.heap.get? b=some o/\X.H0 b=none
 bsz:X.base.objs.size<=X.s0.heap.objs.size
 noex:∀b o,X.base.get? b=some o->b∉X.ex
 exfs:∀b∈X.ex,b∉X.fs
 funs:X.s0.heap.FunFrames X.base X.outer
 frf:∀b∈X.fs,X.H0 b=none
structure Inv (X:Cx)(pins:bP)(σ:List (Option V))(H:Hp)(s:Shared):Prop where
 ok:X.Ok
 os:s.os=X.s0.os
 bare:AllBare s.gens
 base:Un X.fs X.ex X.H0 H X.s0.heap s.heap
 loc:∃m,s.heap.Ns X.env.locals m/\∀(i:Nat)(x:Str)(v:V),X.N[i]? =some x->σ[i]? =some (some v)->Ww X.env.scope x->∃u,RelV v u/\Look X.env s.heap m x u
 cell:∀x c,X.env.cells.lookup x=some c->∃v,s.heap.IsCell c v
 free:H X.env.locals=none
 freeC:∀x c,X.env.cells.lookup x=some c->H c=none
 pin:∀p∈X.pn++pins,s.heap.get? p.1=some p.2/\H p.1=none/\p.1≠X.env.locals/\p.1∉X.fs/\∀v,p.2.data≠.cell v
 hok:j0 X.prog X.w H s.heap
 len:σ.length=X.N.length
section
variable {X:Cx}{σ:List (Option V)}{H H':Hp}{h':Heap}
def Cx.Ok.nofr (ok:X.Ok){o:Obj}(e:X.base.get? b=some o):b∉X.fs:=λh=>by
 have:=(ok.funs.mem h).1
 rw[e]at this;cases this
theorem Inv.bs (I:Inv X pins σ H s):∀b o,X.base.get? b=some o->s.heap.get? b=some o/\H b=none:=λb o e=>
 ⟨I.base.keep b o (I.ok.bs b o e).1 (I.ok.bs b o e).2 (I.ok.nofr e) (I.ok.noex b o e),I.base.free b o (I.ok.bs b o e).1 (I.ok.bs b o e).2 (I.ok.noex b o e)⟩
def Inv.bk (I:Inv X pins σ H s):∀b o,X.base.get? b=some o->s.heap.get? b=some o:=λb o e=>(I.bs b o e).1
theorem Inv.mod (I:Inv X pins σ H s):Mod X.K X.mg X.base:=I.ok.mod
def Inv.kIn (I:Inv X pins σ H s):X.K.In s.heap:=I.ok.mod.kin.keeps I.bk
theorem Inv.lt (I:Inv X pins σ H s):X.env.locals<s.heap.objs.size:=let ⟨_,hn,_⟩:=I.loc;hn.lt
def Inv.sz (I:Inv X pins σ H s):X.s0.heap.objs.size<=s.heap.objs.size:=aQ I.ok.above (bt I.lt)
def Inv.nofs (I:Inv X pins σ H s)(h:s.heap.objs.size<=a):a∉X.fs:=λc=>by
 obtain⟨_,o,b,_⟩:=I.ok.funs.mem c;exact absurd (aC (aF b) (aQ I.sz h)) (aW _)
def Inv.cne (I:Inv X pins σ H s):∀x c,X.env.cells.lookup x=some c->c≠X.env.locals:=λx c e z=>by
 obtain⟨v,o,b,hd⟩:=I.cell x c e;obtain⟨m,⟨o',E,p,h,a,_⟩,_⟩:=I.loc;rw[z,h]at b;cases b;rw[a]at hd;cases hd
theorem Inv.funs (I:Inv X pins σ H s):s.heap.FunFrames X.base X.outer:=by
 have all:∀(l:bW),(∀b∈qu l,b∈X.fs)->X.s0.heap.FunFrames X.base l->s.heap.FunFrames X.base l:=by
  intro l
  induction l with
  |nil=>intro _ _;trivial|cons env r i=>
   intro c g;obtain⟨k,⟨L,o,hf,hn,f,hd⟩,d⟩:=g;have a:L∈X.fs:=c L (by unfold qu;rw[bp,hf];exact az)
   obtain⟨S,e⟩:=I.base.slot L o f (I.ok.frf L a) a λz=>I.ok.exfs L z a;exact⟨k,⟨L,_,hf,hn,e,hd⟩,i (λb h=>c b (by unfold qu;rw[bp,hf];exact ao _ h)) d⟩
 exact all X.outer (λ_ h=>h) I.ok.funs
theorem Inv.stack (I:Inv X pins σ H s):s.heap.FunFrames X.base X.stack:=by
 rcases I.ok.stk with e|⟨e,hf⟩
 ·rw[e];exact I.funs
 ·rw[e]
  obtain⟨m,hn,_⟩:=I.loc;refine .cons (by rw[I.ok.kind];decide) hf hn ?_ I.funs
  exact Heap.get?_none_of_le (aQ I.ok.bsz I.ok.above)
def Inv.stkSub (I:Inv X pins σ H s):∀b∈qu X.stack,b∈X.env.locals::X.fs:=λb h=>by
 rcases I.ok.stk with e|⟨e,hf⟩
 ·rw[e]at h;exact ao _ h
 ·rw[e]at h
  unfold qu at h;rw[bp,hf]at h;exact h
def Inv.stkFree (I:Inv X pins σ H s):∀b∈qu X.stack,H b=none:=λb h=>by
 rcases cc.mp (I.stkSub b h) with e|h
 ·rw[e];exact I.free
 ·obtain⟨_,o,a,_⟩:=I.ok.funs.mem h
  exact I.base.free b o a (I.ok.frf b h) λz=>I.ok.exfs b z h
def Inv.step {g':Array GenState}{d':Drawn}{ch:bO}(I:Inv X pins σ H s)
  (a:∀b∈ch,(b∈X.ex∨X.s0.heap.objs.size<=b)/\b≠X.env.locals/\(∀x c,X.env.cells.lookup x=some c->c≠b)/\∀p∈X.pn++pins,p.1≠b)
  (keep:∀b o,b≠X.env.locals->b∉X.fs->b∉ch->s.heap.get? b=some o->H b=none->h'.get? b=some o)
  (slot:∀b o,b≠X.env.locals->b∈X.fs->b∉ch->s.heap.get? b=some o->H b=none->∃t,h'.get? b=some { o with slots:=t })(free:∀b o,b∉ch->s.heap.get? b=some o->H b=none->H' b=none)
  (there:∀b o,b∉ch->s.heap.get? b=some o->∃o',h'.get? b=some o')
  (tups:∀b xs,H b=some (.tup xs)->H' b=some (.tup xs))(frzs:∀b o u,H b=some (.frz o u)->H' b=some (.frz o u))(tbls:∀b ps,H b=some (.tbl ps)->∃more,H' b=some (.tbl (ps++more)))
  (ns:∀m,s.heap.Ns X.env.locals m->h'.Ns X.env.locals m)(hok:j0 X.prog X.w H' h')(J:AllBare g'):
  Inv X pins σ H' { s with heap:=h',gens:=g',drawn:=d',toks:=t' }:=by
 have QM:∀b o,X.s0.heap.get? b=some o->b≠X.env.locals:=λb o e=>aK (aC (aF e) I.ok.above);have C:∀b o,X.s0.heap.get? b=some o->b∉X.ex->b∉ch:=λb o e h f=>by
  rcases(a b f).1 with z|z
  ·exact h z
  ·exact absurd (aC (aF e) z) (aW _)
 have cellK:∀x c,X.env.cells.lookup x=some c->∀v,s.heap.IsCell c v->h'.IsCell c v:=λx c e v ⟨o,g,hd⟩=>by
  have N:c∉ch:=λz=>(a c z).2.2.1 x c e rfl
  by_cases B:c∈X.fs
  ·obtain⟨t,q⟩:=slot c o (I.cne x c e) B N g (I.freeC x c e)
   exact⟨_,q,hd⟩
  ·exact⟨o,keep c o (I.cne x c e) B N g (I.freeC x c e),hd⟩
 refine⟨I.ok,I.os,J,⟨λb o e n f h=>?_,λb o e n f h=>?_,λb o e n h=>?_,λb o e h=>?_,λb xs e=>tups b xs (I.base.tups b xs e),λb o xs e=>frzs b o xs (I.base.frzs b o xs e),λb ps e=>?_⟩,?_,λx c e=>?_,?_,λx c e=>?_,λp A=>?_,hok,I.len⟩
 ·exact keep b o (QM b o e) f (C b o e h) (I.base.keep b o e n f h) (I.base.free b o e n h)
 ·obtain⟨t,E⟩:=I.base.slot b o e n f h
  obtain⟨S,j⟩:=slot b _ (QM b o e) f (C b o e h) E (I.base.free b o e n h);exact⟨S,j⟩
 ·obtain⟨o',E⟩:=I.base.there b o e h
  exact free b o' (C b o e h) E (I.base.free b o e n h)
 ·obtain⟨o',E⟩:=I.base.there b o e h
  exact there b o' (C b o e h) E
 ·obtain⟨m1,E⟩:=I.base.tbls b ps e
  obtain⟨m2,j⟩:=tbls b _ E;exact⟨m1++m2,by rw[j,Array.append_assoc]⟩
 ·obtain⟨m,hn,D⟩:=I.loc
  refine⟨m,ns m hn,λi x v E j K=>?_⟩;obtain⟨u,r,l⟩:=D i x v E j K;refine⟨u,r,?_⟩;rcases l with l|⟨k,c,e,z⟩
  ·exact .inl l
  ·exact .inr ⟨k,c,e,cellK x c e _ z⟩
 ·obtain⟨v,z⟩:=I.cell x c e
  exact⟨v,cellK x c e v z⟩
 ·obtain⟨m,⟨o,_,_,g,_⟩,_⟩:=I.loc
  exact free _ o (λz=>(a _ z).2.1 rfl) g I.free
 ·obtain⟨v,o,g,hd⟩:=I.cell x c e
  exact free c o (λz=>(a c z).2.2.1 x c e rfl) g (I.freeC x c e)
 ·obtain⟨e,n,ne,y,d⟩:=I.pin p A
  have N:p.1∉ch:=λz=>(a p.1 z).2.2.2 p A rfl;exact⟨keep p.1 p.2 ne y N e n,free p.1 p.2 N e n,ne,y,d⟩
def Inv.un (I:Inv X pins σ H s)(u:Un X.fs [] H H' s.heap h')(hok:j0 X.prog X.w H' h'):Inv X pins σ H' { s with heap:=h',toks:=t' }:=by
 obtain⟨m,⟨o,f,p,c,r⟩,_⟩:=id I.loc;obtain⟨S,L⟩:=u.any c I.free (by simp)
 exact I.step (g':=s.gens) (d':=s.drawn) (ch:=[]) (λ_ z=>nomatch z) (λb o _ a _ e n=>u.keep b o e n a (by simp)) (λb o _ a _ e n=>u.slot b o e n a (by simp)) (λb o _ e n=>u.free b o e n (by simp)) (λb o _ e=>u.there b o e (by simp)) u.tups u.frzs u.tbls (λM hm=>by
  obtain⟨o',es',E,h,d⟩:=hm;rw[c]at h;cases h;exact⟨_,es',E,L,d⟩) hok I.bare
def Inv.call {g':Array GenState}{d':Drawn}{ch:bO}(I:Inv X pins σ H s)(u:Un (qu X.stack) ch H H' s.heap h')(hok:j0 X.prog X.w H' h')(i:AllBare g')
  (d:∀b∈ch,(b∈X.ex∨X.s0.heap.objs.size<=b)/\b≠X.env.locals/\(∀x c,X.env.cells.lookup x=some c->c≠b)/\∀p∈X.pn++pins,p.1≠b):
  Inv X pins σ H' { s with heap:=h',gens:=g',drawn:=d',toks:=t' }:=by
 obtain⟨m,⟨o,k,l,f,r⟩,_⟩:=id I.loc;obtain⟨S,L⟩:=u.any f I.free λz=>(d _ z).2.1 rfl;exact I.step (ch:=ch) d (λb o L j h e n=>u.keep b o e n (λz=>(cc.mp (I.stkSub b z)).elim L j) h) (λb o _ _ h e n=>u.any e n h) (λb o h e n=>u.free b o e n h) (λb o h e=>u.there b o e h) u.tups u.frzs u.tbls (λM hm=>by
  obtain⟨o',es',E,a,g⟩:=hm;rw[f]at a;cases a;exact⟨_,es',E,L,g⟩) hok i
def Inv.turned {it:Addr}(I:Inv X pins σ H s)(k:∀b o,b≠it->s.heap.get? b=some o->h'.get? b=some o)(hn:H it=none)(L:it≠X.env.locals)
  (i:it∈X.ex∨X.s0.heap.objs.size<=it)(g:∀x c,X.env.cells.lookup x=some c->c≠it)(f:∀p∈X.pn++pins,p.1≠it):Inv X pins σ H { s with heap:=h',toks:=t' }:=by
 have N:∀b u,H b=some u->b≠it:=λb u e z=>by rw[z,hn]at e;cases e
 refine I.step (g':=s.gens) (d':=s.drawn) (ch:=[it]) (λb d=>?_) (λb o _ _ h e _=>k b o (λz=>h (by simp[z])) e) (λb o _ _ h e _=>⟨o.slots,k b o (λz=>h (by simp[z])) e⟩) (λ_ _ _ _ n=>n)
  (λb o h e=>⟨o,k b o (λz=>h (by simp[z])) e⟩) (λ_ _ e=>e) (λ_ _ _ e=>e) (λb ps e=>⟨#[],by rw[e];simp⟩) (λm hm=>?_) (λb u e=>?_) I.bare
 ·have e:b=it:=by simpa using d
  subst e;exact⟨i,L,g,f⟩
 ·obtain⟨o,E,j,a,r⟩:=hm
  exact⟨o,E,j,k _ o (Ne.symm L) a,r⟩
 ·refine(I.hok b u e).stay (λc v h q=>k c v ?_ q) (λ_ q=>q) λ_ _ q=>q
  rcases h with z|z
  ·rw[z];exact N b u e
  ·exact N c _ z
def Inv.tok (I:Inv X pins σ H s)(t:Nat):Inv X pins σ H { s with toks:=t }:=I.un (h':=s.heap) (t':=t) Un.refl I.hok
theorem Inv.kept (I:Inv X pins σ H s)(k:∀b u,s.heap.get? b=some u->h'.get? b=some u):Inv X pins σ H { s with heap:=h',toks:=t' }:=I.un (Un.kept k) (I.hok.kept k)
theorem Inv.laid {o:HO}(I:Inv X pins σ H s)(k:∀b u,s.heap.get? b=some u->h'.get? b=some u)(h:s.heap.objs.size<=a)(new:jb X.prog X.w (upd H a o) h' a o):
  Inv X pins σ (upd H a o) { s with heap:=h',toks:=t' }:=I.un (Un.laid k h (I.hok.fresh h)) (I.hok.laid k h new)
theorem Inv.write {x e:Addr}{o:HO}(I:Inv X pins σ H s)(M:Wm (H x))(he:e=x∨H e=some (.own x))(k:∀b u,b≠e->s.heap.get? b=some u->h'.get? b=some u)(h:∃u,h'.get? e=some u)
  (new:jb X.prog X.w (upd H x o) h' x o):Inv X pins σ (upd H x o) { s with heap:=h',toks:=t' }:=I.un (Un.write M he k h) (I.hok.write M he k h new)
def Inv.pins_of {P:bP}(I:Inv X pins σ H s)(h:∀p∈P,s.heap.get? p.1=some p.2/\H p.1=none/\p.1≠X.env.locals/\p.1∉X.fs/\∀v,p.2.data≠.cell v):Inv X P σ H s:=
 ⟨I.ok,I.os,I.bare,I.base,I.loc,I.cell,I.free,I.freeC,λp a=>(List.mem_append.mp a).elim (λz=>I.pin p (mem_append_left _ z)) (h p),I.hok,I.len⟩
def Gp (h:N.Nodup)(a:N[i]? =some x)(b:N[j]? =some x):i=j:=by
 obtain⟨c,E⟩:=cg.mp a;obtain⟨H,e⟩:=cg.mp b;exact(List.getElem_inj h).mp (E.trans e.symm)
def Us {A:Around}{v:V}{Q:Unit->Shared->Prop}(I:Inv X pins σ H s)(hN:X.N.Nodup)(U:X.N[i]? =some x)(t:Loc X.env.scope x)(r:RelV v u)
  (h:∀s',Inv X pins (σ.set i (some v)) H s'->(∃a,Heap.SameBut a s.heap s'.heap/\(a=X.env.locals∨X.env.cells.lookup x=some a))->Q () s')(hf:X.fn x=true∨X.env.scope.names.lookup x=some .local:=by first|exact .inl rfl|exact .inr rfl|assumption):wpAny M A (storeName X.env x u) Q E s:=by
 obtain⟨m,hn,hl⟩:=id I.loc;have Y:(X.env.scope.kind==.class || (X.env.scope.kind==.module&&X.env.locals != X.env.globals))=false:=by rw[I.ok.kind];rfl
 have J:i < σ.length:=by rw[I.len];exact(cg.mp U).1
 have cne:=I.cne;have tracked:∀{a:Addr}{h':Heap},(∃o,s.heap.get? a=some o/\H a=none)->Heap.SameBut a s.heap h'->j0 X.prog X.w H h':=λ {a h'} ha f b ob e=>by
  obtain⟨_,_,B⟩:=ha;refine(I.hok b ob e).stay (λc w' l q=>(f.2 c ?_).trans q) (λ_ q=>q) λ_ _ q=>q
  rintro rfl
  rcases l with rfl|l
  ·rw[B]at e;cases e
  ·rw[B]at l;cases l
 rcases t with D|D
 ·refine wpAny_storeName_local D hn (λh' hn' f=>?_) Y
  obtain⟨oL,_,_,hoL,_⟩:=id hn;refine h _ ⟨I.ok,I.os,I.bare,⟨λb o e n P t=>?_,λb o e n P t=>?_,I.base.free,λb o e t=>?_,I.base.tups,I.base.frzs,I.base.tbls⟩,⟨_,hn',λj y v' g C e3=>?_⟩,λy c e=>?_,I.free,I.freeC,λp hp=>?_,tracked ⟨oL,hoL,I.free⟩ f,by simpa using I.len⟩ ⟨_,f,.inl rfl⟩
  ·exact(f.2 b (aK (aC (aF e) I.ok.above))).trans (I.base.keep b o e n P t)
  ·obtain⟨sl,g⟩:=I.base.slot b o e n P t
   exact⟨sl,(f.2 b (aK (aC (aF e) I.ok.above))).trans g⟩
  ·obtain⟨o',g⟩:=I.base.there b o e t
   exact⟨o',(f.2 b (aK (aC (aF e) I.ok.above))).trans g⟩
  ·by_cases K:j=i
   ·subst K
    rw[U]at g;cases g;rw[aH J]at C;cases C;exact⟨u,r,.inl ⟨D,by simp⟩⟩
   ·rw[aJ (Ne.symm K)]at C
    obtain⟨u',r',q⟩:=hl j y v' g C e3;refine⟨u',r',?_⟩;rcases q with ⟨k,e⟩|⟨k,c,e,z⟩
    ·refine .inl ⟨k,?_⟩
     have:y≠x:=λe=>K (Gp hN g (e ▸ U))
     simp[this,e]
    ·exact .inr ⟨k,c,e,z.sameBut f (cne y c e)⟩
  ·obtain⟨w',z⟩:=I.cell y c e
   exact⟨w',z.sameBut f (cne y c e)⟩
  ·obtain⟨e,n,ne,nf,d⟩:=I.pin p hp
   exact⟨(f.2 p.1 ne).trans e,n,ne,nf,d⟩
 ·have L:X.fn x=true:=by
   rcases hf with z|z
   ·exact z
   ·rw[z]at D;cases D
  obtain⟨c,l⟩:=I.ok.has x (.inl D);obtain⟨w',z⟩:=I.cell x c l;refine wpAny_storeName_cell I.ok.kind D l z (λh' hc' f=>?_);obtain⟨oc,T,S⟩:=id z;refine h { s with heap:=h' } ⟨I.ok,I.os,I.bare,⟨λb o e n P t=>?_,λb o e n P t=>?_,I.base.free,λb o e t=>?_,I.base.tups,I.base.frzs,I.base.tbls⟩,⟨m,hn.sameBut f (Ne.symm (cne x c l)),λj y v' g C e3=>?_⟩,λy c' e=>?_,I.free,I.freeC,λp hp=>?_,tracked ⟨oc,T,I.freeC x c l⟩ f,by simpa using I.len⟩ ⟨c,f,.inr l⟩
  ·exact(f.2 b (aK (aC (aF e) (I.ok.cab x c L l)))).trans (I.base.keep b o e n P t)
  ·obtain⟨sl,g⟩:=I.base.slot b o e n P t
   exact⟨sl,(f.2 b (aK (aC (aF e) (I.ok.cab x c L l)))).trans g⟩
  ·obtain⟨o',g⟩:=I.base.there b o e t
   exact⟨o',(f.2 b (aK (aC (aF e) (I.ok.cab x c L l)))).trans g⟩
  ·by_cases K:j=i
   ·subst K
    rw[U]at g;cases g;rw[aH J]at C;cases C;exact⟨u,r,.inr ⟨.inl D,c,l,hc'⟩⟩
   ·rw[aJ (Ne.symm K)]at C
    obtain⟨u',r',q⟩:=hl j y v' g C e3;refine⟨u',r',?_⟩;rcases q with q|⟨k,c',e,z'⟩
    ·exact .inl q
    ·refine .inr ⟨k,c',e,z'.sameBut f ?_⟩
     rintro rfl
     exact K (Gp hN g (I.ok.inj _ _ _ e l ▸ U))
  ·by_cases Z:c'=c
   ·subst Z;exact⟨_,hc'⟩
   ·obtain⟨w2,z2⟩:=I.cell y c' e
    exact⟨w2,z2.sameBut f Z⟩
  ·obtain⟨e,n,ne,nf,d⟩:=I.pin p hp
   refine⟨(f.2 p.1 ?_).trans e,n,ne,nf,d⟩;intro q;rw[q,T]at e;have q':oc=p.2:=aB e;exact d w' (by rw[<- q'];exact S)
def Q0 {A:Around}{v:V}{Q:Unit->Shared->Prop}(I:Inv X pins σ H s)(c:X.N.Nodup)(b:X.N[i]? =some x)(a:Loc X.env.scope x)(r:RelV v u)
  (h:∀s',Inv X pins (σ.set i (some v)) H s'->Q () s')(hf:X.fn x=true∨X.env.scope.names.lookup x=some .local:=by first|exact .inl rfl|exact .inr rfl|assumption):wpAny M A (storeName X.env x u) Q E s:=
 Us I c b a r (λs' d _=>h s' d) hf
def Inv.call' {ch:bO}(I:Inv X pins σ H s)(o:s'.os=s.os)(u:Un (qu X.stack) ch H H' s.heap s'.heap)(hok:j0 X.prog X.w H' s'.heap)(g:AllBare s'.gens)
  (h:∀b∈ch,(b∈X.ex∨X.s0.heap.objs.size<=b)/\b≠X.env.locals/\(∀x c,X.env.cells.lookup x=some c->c≠b)/\∀p∈X.pn++pins,p.1≠b):Inv X pins σ H' s':=by
 obtain⟨h',g',d',t',o'⟩:=s';have e:o'=s.os:=o;subst e;exact I.call (g':=g') (t':=t') (d':=d') u hok g h
end
abbrev XK:=Value->Option Addr->Hp->Prop
noncomputable abbrev St:=List (Option V)
abbrev VK:=V->Hp->Prop
abbrev TE:=St->Hp->VK->Prop
abbrev TT:=St->Hp->(Bool->Hp->Prop)->Prop
abbrev TA:=St->Hp->(List V->Hp->Prop)->Prop
structure Ends where
 nx:St->Hp->Prop
 rt:VK
 bk:St->Hp->Prop:=λ_ _=>False
 ct:St->Hp->Prop:=λ_ _=>False
abbrev TS:=Ends->St->Hp->Prop
inductive EP (X:Cx)(pins:bP)(σ:St)(Q:VK)(u:Value)(s':Shared):Prop
 |mk (v:V) (H':Hp) (I:Inv X pins σ H' s') (r:RelV v u) (q:Q v H')
def TP (X:Cx)(pins:bP)(σ:St)(Q:Bool->Hp->Prop)(b:Bool)(s':Shared):Prop:=∃H,Inv X pins σ H s'/\Q b H
inductive AP (X:Cx)(pins:bP)(σ:St)(Q:List V->Hp->Prop)(us:bN)(s':Shared):Prop
 |mk (vs:List V) (H':Hp) (I:Inv X pins σ H' s') (r:Vals vs us) (q:Q vs H')
def SP (X:Cx)(pins:bP)(D:Ends)(f:Flow)(s':Shared):Prop:=
 match f with
 |.next=>∃a H,Inv X pins a H s'/\D.nx a H|.brk=>∃a H,Inv X pins a H s'/\D.bk a H|.cont=>∃a H,Inv X pins a H s'/\D.ct a H|.ret u=>∃v a H,Inv X pins a H s'/\RelV v u/\D.rt v H
def PE (X:Cx)(e:Expr)(t:TE):Prop:=
 ∀(pins:bP)(s:Shared)(σ:St)(H:Hp)(Q:VK),Inv X pins σ H s->t σ H Q->wpAny (model X.prog X.w) X.A (eval e X.env) (EP X pins σ Q) X.xe s
def PT (X:Cx)(e:Expr)(t:TT):Prop:=
 ∀(pins:bP)(s:Shared)(σ:St)(H:Hp)(Q:Bool->Hp->Prop),Inv X pins σ H s->t σ H Q->wpAny (model X.prog X.w) X.A (isTrue e X.env (eval e X.env)) (TP X pins σ Q) X.xe s
def PW (X:Cx)(e:Expr)(t:TT):Prop:=
 ∀(whole:Sem Value)(pins:bP)(s:Shared)(σ:St)(H:Hp)(Q:Bool->Hp->Prop),Inv X pins σ H s->t σ H Q->wpAny (model X.prog X.w) X.A (isTrue e X.env whole) (TP X pins σ Q) X.xe s
def PW.pt {X:Cx}{t:TT}(h:PW X e t):PT X e t:=h _
def PA (X:Cx)(e:bT)(t:TA):Prop:=
 ∀(pos:Pos)(pins:bP)(s:Shared)(σ:St)(H:Hp)(Q:List V->Hp->Prop),Inv X pins σ H s->t σ H Q->wpAny (model X.prog X.w) X.A (spliced (backTo pos (starEach e X.env))) (AP X pins σ Q) X.xe s
def PS (X:Cx)(st:Stmt)(t:TS):Prop:=
 ∀(pins:bP)(s:Shared)(σ:St)(H:Hp)(D:Ends),Inv X pins σ H s->t D σ H->wpAny (model X.prog X.w) X.A (exec st X.env) (SP X pins D) X.xe s
def yr (X:Cx)(st:b8)(t:TS):Prop:=
 ∀(pins:bP)(s:Shared)(σ:St)(H:Hp)(D:Ends),Inv X pins σ H s->t D σ H->wpAny (model X.prog X.w) X.A (execs st X.env) (SP X pins D) X.xe s
def zP {t:Sem α}{Q Q':α->Shared->Prop}{A:Around}(h:wpAny M A t Q E s)(H:∀a s,Q a s->Q' a s):wpAny M A t Q' E s:=wpAny_mono h H λ_ _ x=>x
section
variable {X:Cx}
noncomputable def Bi (i:Nat):TE:=λσ H Q=>∃v,σ[i]? =some (some v)/\Q v H
noncomputable def tC (v:V):TE:=λ_ H Q=>Q v H
def EO (j:X.N[i]? =some x)(f:Ww X.env.scope x)(hd:(x==("__debug__":Str))=false:=by decide)(d:(x==("__classdict__":Str))=false:=by decide):PE X (.Name x pos) (Bi i):=by
 intro pins s σ H Q I h;obtain⟨v,e,h⟩:=h;obtain⟨m,hn,g⟩:=I.loc;obtain⟨u,r,l⟩:=g i x v j e f;have fin:EP X pins σ Q u s:=⟨v,H,I,r,h⟩;rcases l with ⟨k,hm⟩|⟨k,c,b,a⟩
 ·exact wpAny_Name (wpAny_loadName_local I.ok.kind k hn hm fin) hd
 ·rcases k with k|k
  ·exact wpAny_Name (wpAny_loadName_cell I.ok.kind k b a fin) hd
  ·exact wpAny_Name (wpAny_loadName_free I.ok.kind k b a fin d) hd
def Ed {i j pos}:PE X (.Constant (.int i) j pos) (tC (.int i)):=λ_ _ _ H _ I h=>wpAny_Constant_int ⟨.int i,H,I.tok _,⟨_,rfl⟩,h⟩
def CL {b j pos}:PE X (.Constant (.bool b) j pos) (tC (.bl b)):=λ_ _ _ H _ I h=>Constant_bool ⟨.bl b,H,I,rfl,h⟩
def Eg {j pos}:PE X (.Constant .none j pos) (tC .non):=λ_ _ _ H _ I h=>Constant_none ⟨.non,H,I,rfl,h⟩
def F7 {x j pos}:PE X (.Constant (.str x) j pos) (tC (.str x)):=λ_ _ _ H _ I h=>Calls.Constant_str ⟨.str x,H,I.tok _,⟨_,rfl⟩,h⟩
def Gl (X:Cx)(x:Str):Prop:=X.env.kindOf x=some .globalImplicit
def J2 {σ:St}{H:Hp}(I:Inv X pins σ H s)(g:Gl X x)(hm:X.mg x=some u)(h:Q u s)
  (hd:(x==("__debug__":Str))=false:=by decide):wpAny (model X.prog X.w) X.A (eval (.Name x pos) X.env) Q E s:=
 Calls.Name_function_global I.ok.kind g (Calls.loadGlobal_global (by rw[I.ok.glob];exact I.mod.glob.keeps I.bk) hm h) hd
def ZT {σ:St}{H:Hp}(I:Inv X pins σ H s)(g:Gl X x)(hm:X.mg x=none)(v:bootBuiltins x=some u)(h:Q u s)
  (hn:x ≠ "__name__":=by decide)(hd:(x==("__debug__":Str))=false:=by decide):wpAny (model X.prog X.w) X.A (eval (.Name x pos) X.env) Q E s:=by
 obtain⟨mb,b,a⟩:=I.mod.blt;exact Calls.Name_function_global I.ok.kind g (Calls.loadGlobal_builtin (by rw[I.ok.glob];exact I.mod.glob.keeps I.bk) hm (by rw[I.ok.blt];exact b.keeps I.bk) ((a x hn).trans v) h) hd
def Sb {v:V}(g:Gl X x)(hm:X.mg x=some u)(r:RelV v u)(hd:(x==("__debug__":Str))=false:=by decide):PE X (.Name x pos) (tC v):=
 λ_ _ _ H _ I h=>J2 I g hm ⟨v,H,I,r,h⟩ hd
def Kf {v:V}(g:Gl X x)(hm:X.mg x=none)(a:bootBuiltins x=some u)(r:RelV v u)(hn:x ≠ "__name__":=by decide)(hd:(x==("__debug__":Str))=false:=by decide):PE X (.Name x pos) (tC v):=
 λ_ _ _ H _ I h=>ZT I g hm a ⟨v,H,I,r,h⟩ hn hd
variable {a b:Expr}{ta tb:TE}
def LY (b:Expr)(h:op≠.In)(H:op≠.NotIn):behindInMarks op b=false:=by
 have E:(op==CmpOp.In)=false:=by cases op<;>first|rfl|exact absurd rfl h
 have e:(op==CmpOp.NotIn)=false:=by cases op<;>first|rfl|exact absurd rfl H
 cases b<;>simp[behindInMarks,E,e]
noncomputable def tB (t:TE):TT:=λσ H Q=>t σ H λx H1=>∃c,x=.bl c/\Q c H1
def EZ {t:TE}(h:PE X e t)(he:∀whole,isTrue e X.env whole=(do let v <- whole;standAt e.pos;holding [v] (truthy v)):=by intro _;rfl):PT X e (tB t):=by
 intro pins s σ H Q I hw;refine isTrue_plain (zP (h pins s σ H _ I hw) λv s1 ⟨x,H1,i,r,a⟩=>?_) (he _);obtain⟨d,rfl,q⟩:=a;cases r;exact wpAny_truthy_bool ⟨H1,i,q⟩
variable {tA tB':TT}{rest:bT}
noncomputable def CP (t u:TT):TT:=λσ H Q=>t σ H λc H1=>if c=true then u σ H1 Q else Q false H1
noncomputable def BJ (t u:TT):TT:=λσ H Q=>t σ H λc H1=>if c=true then Q true H1 else u σ H1 Q
noncomputable def C7 (t:TT):TT:=λσ H Q=>t σ H λc H1=>Q (!c) H1
def pw_and1 (b:PT X a tA):PW X (.BoolOp .And [a] pos) tA:=by
 intro w pins s σ H Q I h;refine isTrue_and (zP (b pins s σ H Q I h) λc s1 e=>?_);cases c with
 |true=>exact isTrue_and_nil e|false=>exact e
def pw_or1 (b:PT X a tA):PW X (.BoolOp .Or [a] pos) tA:=by
 intro w pins s σ H Q I h;refine isTrue_or (zP (b pins s σ H Q I h) λc s1 e=>?_);cases c with
 |false=>exact isTrue_or_nil e|true=>exact e
def pw_and (e:PT X a tA)(d:PW X (.BoolOp .And (b::rest) pos) tB'):PW X (.BoolOp .And (a::b::rest) pos) (CP tA tB'):=by
 intro w pins s σ H Q I h;refine isTrue_and (zP (e pins s σ H _ I h) λc s1 ⟨H1,i,q⟩=>?_);cases c with
 |true=>exact d w pins s1 σ H1 Q i q|false=>exact⟨H1,i,q⟩
def pw_or (e:PT X a tA)(d:PW X (.BoolOp .Or (b::rest) pos) tB'):PW X (.BoolOp .Or (a::b::rest) pos) (BJ tA tB'):=by
 intro w pins s σ H Q I h;refine isTrue_or (zP (e pins s σ H _ I h) λc s1 ⟨H1,i,q⟩=>?_);cases c with
 |true=>exact⟨H1,i,q⟩|false=>exact d w pins s1 σ H1 Q i q
def EM (b:PT X a tA):PT X (.UnaryOp .Not a pos) (C7 tA):=by
 intro pins s σ H Q I h;exact isTrue_not (b pins s σ H (λc H1=>Q (!c) H1) I h)
noncomputable def Cd (T t:TE):TE:=λσ H Q=>T σ H λx H1=>∃c,x=.bl c/\if c=true then t σ H1 Q else Q (.bl false) H1
noncomputable def D3 (t:TE):TE:=λσ H Q=>t σ H λx H1=>∃c,x=.bl c/\Q (.bl (!c)) H1
def Ef {op}{t:TE}(h:PE X a t):PE X (.BoolOp op [a] pos) t:=λpins s σ H Q I hw=>BoolOp_one (h pins s σ H Q I hw)
def E8 (e:PE X a ta)(d:PE X (.BoolOp .And (b::rest) pos) tb):PE X (.BoolOp .And (a::b::rest) pos) (Cd ta tb):=by
 intro pins s σ H Q I h;refine BoolOp_and (zP (e pins s σ H _ I h) λv s1 ⟨x,H1,i,r,q⟩=>?_);obtain⟨c,rfl,q⟩:=q;cases r;refine wpAny_truthy_bool ?_;cases c with
 |true=>exact d pins s1 σ H1 Q i q|false=>exact⟨.bl false,H1,i,rfl,q⟩
def E4 (b:PE X a ta):PE X (.UnaryOp .Not a pos) (D3 ta):=by
 intro pins s σ H Q I h;refine UnaryOp_ (zP (b pins s σ H _ I h) λv s1 ⟨x,H1,i,r,q⟩=>?_);obtain⟨c,rfl,q⟩:=q;cases r;exact not_of (wpAny_truthy_bool ⟨.bl (!c),H1,i,rfl,q⟩)
noncomputable def BD (t:TT)(a T:TE):TE:=λσ H Q=>t σ H λc H1=>if c=true then a σ H1 Q else T σ H1 Q
def Ih {c:Expr}(e:PT X c tA)(g:PE X a ta)(f:PE X b tb):PE X (.IfExp c a b pos) (BD tA ta tb):=by
 intro pins s σ H Q I h;refine wpAny_IfExp (zP (e pins s σ H _ I h) λd s1 ⟨H1,i,q⟩=>?_);cases d with
 |true=>exact g pins s1 σ H1 Q i q|false=>exact f pins s1 σ H1 Q i q
end
def qN (K:Frag)(H:Hp)(a:Addr)(xs:List V):Prop:=
 Rd H a (.lst xs)∨
  ∃(o:Obj) (its:Array Value) (n:Nat),K.lookup a=some o/\o.cls=.type "list" /\ o.dict=none/\o.data=.seq its n/\its.size<=sizeLine/\Vals xs its.toList
def qy (K:Frag)(H:Hp)(a:Addr)(xs:List V):Prop:=
 Rd H a (.tup xs)∨
  ∃(o:Obj) (its:Array Value) (n:Nat),K.lookup a=some o/\(o.cls=.type "tuple" /\ o.dict=none)/\o.data=.seq its n/\its.size<=sizeLine/\Vals xs its.toList
noncomputable def CO:Value->Option V
 |.none=>some .non|.bool b=>some (.bl b)|.int i _=>some (.int i)|.str x _=>some (.str x)|.bytes b _=>some (.byt b)|.float b _=>some (.flt b)|.ref a=>some (.ref a)|.type n=>some (.ty n)|_=>none
def RelV.abs {x:V}(r:RelV x u):CO u=some x:=by
 cases x with
 |non=>cases r;rfl|bl _=>cases r;rfl|int _=>obtain⟨t,rfl⟩:=r;rfl|str _=>obtain⟨t,rfl⟩:=r;rfl|byt _=>obtain⟨t,rfl⟩:=r;rfl|flt _=>obtain⟨t,rfl⟩:=r;rfl|ref _=>cases r;rfl|ty _=>cases r;rfl
def RelV.inj {x y:V}(r:RelV x u)(q:RelV y u):x=y:=aB (r.abs.symm.trans q.abs)
theorem Vals.inj:∀{xs ys:List V}{us:bN},Vals xs us->Vals ys us->xs=ys
 |_,_,_,.nil,.nil=>rfl|_,_,_,.cons r t,.cons a t'=>by rw[r.inj a,Vals.inj t t']
section
variable {X:Cx}{σ:St}{H:Hp}{xs ys:List V}
def qN.of {K:Frag}(h:H a=some (.lst xs)):qN K H a xs:=.inl (.inl h)
def qy.of {K:Frag}(h:H a=some (.tup xs)):qy K H a xs:=.inl (.inl h)
def Inv.list (I:Inv X pins σ H s)(h:qN X.K H a xs):∃i:bN,Vals xs i/\PlainL s.heap a i.toArray/\xs.length<=sizeLine:=by
 rcases h with h|⟨o,i,n,k,c,hd,b,d,r⟩
 ·obtain⟨z,i,n,r,e⟩:=h.ok I.hok
  exact⟨i,r,⟨_,n,e,rfl,rfl,rfl⟩,z⟩
 ·refine⟨i.toList,r,⟨o,n,I.kIn a o k,c,hd,by simpa using b⟩,?_⟩
  have e:=r.length;simp only[aG]at e;omega
def Inv.tuple (I:Inv X pins σ H s)(h:qy X.K H a xs):∃i:bN,Vals xs i/\IsTup s.heap a i.toArray/\xs.length<=sizeLine:=by
 rcases h with h|⟨o,i,n,k,c,b,d,r⟩
 ·obtain⟨z,i,r,p⟩:=h.ok I.hok
  exact⟨i,r,p.tup,z⟩
 ·refine⟨i.toList,r,⟨o,I.kIn a o k,c.1,n,by simpa using b⟩,?_⟩
  have e:=r.length;simp only[aG]at e;omega
def Inv.list_inj (I:Inv X pins σ H s)(h:qN X.K H a xs)(h':qN X.K H a ys):xs=ys:=by
 obtain⟨i,r,⟨o,n,e,_,_,d⟩,_⟩:=I.list h;obtain⟨its',b,⟨o',N,E,_,_,d'⟩,_⟩:=I.list h';rw[e]at E;cases E;rw[d]at d';injection d' with D _
 have:i=its':=by simpa using congrArg Array.toList D
 subst this;exact r.inj b
def Inv.tuple_inj (I:Inv X pins σ H s)(h:qy X.K H a xs)(h':qy X.K H a ys):xs=ys:=by
 obtain⟨i,r,⟨o,e,_,n,d⟩,_⟩:=I.tuple h;obtain⟨its',b,⟨o',E,_,N,d'⟩,_⟩:=I.tuple h';rw[e]at E;cases E;rw[d]at d';injection d' with D _
 have:i=its':=by simpa using congrArg Array.toList D
 subst this;exact r.inj b
end
noncomputable abbrev Cx.wish (X:Cx)(E:bS):Cx:={ X with xe:=E }
noncomputable abbrev Cx.nox (X:Cx):Cx:=X.wish λ_ _=>False
theorem Cx.Ok.wish {X:Cx}(ok:X.Ok)(E:bS):(X.wish E).Ok:=
 ⟨ok.mod,ok.kind,ok.glob,ok.blt,ok.above,ok.inj,ok.has,ok.cab,ok.hd,ok.frames,ok.stk,ok.exf,ok.bs,ok.bsz,ok.noex,ok.exfs,ok.funs,ok.frf⟩
def Cx.Ok.unwish {X:Cx}(ok:(X.wish E).Ok):X.Ok:=
 ⟨ok.mod,ok.kind,ok.glob,ok.blt,ok.above,ok.inj,ok.has,ok.cab,ok.hd,ok.frames,ok.stk,ok.exf,ok.bs,ok.bsz,ok.noex,ok.exfs,ok.funs,ok.frf⟩
section
variable {X:Cx}{σ:St}{H:Hp}
theorem Inv.wish (I:Inv X pins σ H s)(E:bS):Inv (X.wish E) pins σ H s:=⟨I.ok.wish E,I.os,I.bare,I.base,I.loc,I.cell,I.free,I.freeC,I.pin,I.hok,I.len⟩
theorem Inv.unwish (I:Inv (X.wish E) pins σ H s):Inv X pins σ H s:=⟨I.ok.unwish,I.os,I.bare,I.base,I.loc,I.cell,I.free,I.freeC,I.pin,I.hok,I.len⟩
theorem SP.unwish {D:Ends}{f:Flow}(h:SP (X.wish E) pins D f s'):SP X pins D f s':=by
 cases f with
 |next=>obtain⟨a,H,I,q⟩:=h;exact⟨a,H,I.unwish,q⟩|brk=>obtain⟨a,H,I,q⟩:=h;exact⟨a,H,I.unwish,q⟩|cont=>obtain⟨a,H,I,q⟩:=h;exact⟨a,H,I.unwish,q⟩|ret u=>obtain⟨v,a,H,I,r,q⟩:=h;exact⟨v,a,H,I.unwish,r,q⟩
theorem PT.nox {t:TT}(h:PT X.nox e t):PT X e t:=λpins s σ H Q I hw=>
 wpAny_mono (h pins s σ H Q (I.wish _) hw) (λ_ _ ⟨a,i,q⟩=>⟨a,i.unwish,q⟩) λ_ _ z=>False.elim z
theorem yr.nox {st:b8}{t:TS}(h:yr X.nox st t):yr X st t:=λpins s σ H D I hw=>
 wpAny_mono (h pins s σ H D (I.wish _) hw) (λ_ _ q=>q.unwish) λ_ _ z=>False.elim z
end
section
variable {X:Cx}{st:Stmt}{rest:b8}{t u:TS}{te:TE}
noncomputable def Ci:TS:=λD σ H=>D.nx σ H
noncomputable def Bd (t u:TS):TS:=λD σ H=>t { D with nx:=u D } σ H
def ID:yr X [] Ci:=λ_ _ σ H _ I h=>wpAny_execs_nil ⟨σ,H,I,h⟩
def LO (c:PS X st t)(b:yr X rest u):yr X (st::rest) (Bd t u):=by
 intro pins s σ H D I h;refine wpAny_execs_cons (zP (c pins s σ H { D with nx:=u D } I h) λf s1 q=>?_)
 cases f with
 |next=>
  obtain⟨a,d,i,q⟩:=q;exact b pins s1 a d D i q
 |ret v=>exact q|brk=>exact q|cont=>exact q
def Inv.quiet {σ:St}{H:Hp}(I:Inv X pins σ H s):interactive X.env=false:=by simp[interactive,I.ok.kind]
noncomputable def CF (t:TE):TS:=λD σ H=>t σ H λ_ H1=>D.nx σ H1
def Fw (he:PE X e te)(a:swapsWith e none pos.line X.env=pure false:=by rfl):PS X (.Expr e pos) (CF te):=by
 intro pins s σ H D I h;exact wpAny_Expr_any (zP (he pins s σ H _ I h) λv s1 ⟨x,H1,i,r,q⟩=>⟨σ,H1,i,q⟩) I.quiet a
noncomputable def Bo (t:TE):TS:=λD σ H=>t σ H D.rt
def EK (he:PE X e te):PS X (.Return (some e) pos) (Bo te):=by
 intro pins s σ H D I h;exact wpAny_Return_some (zP (he pins s σ H _ I h) λv s1 ⟨x,H1,i,r,q⟩=>⟨x,σ,H1,i,r,q⟩)
noncomputable def Bk (c:TT)(t u:TS):TS:=λD σ H=>c σ H λb H1=>if b=true then t D σ H1 else u D σ H1
def DM {c:Expr}{a b:b8}{T:TT}(e:PT X c T)(g:yr X a t)(f:yr X b u):PS X (.If c a b pos) (Bk T t u):=by
 intro pins s σ H D I h;refine wpAny_If (zP (e pins s σ H _ I h) λd s1 ⟨H1,i,q⟩=>?_);cases d with
 |true=>exact g pins s1 σ H1 D i q|false=>exact f pins s1 σ H1 D i q
end
abbrev TG:=V->St->Hp->(St->Hp->Prop)->Prop
abbrev QO:=List V->St->Hp->(St->Hp->Prop)->Prop
def PG (X:Cx)(target:Expr)(t:TG):Prop:=
 ∀(pins:bP)(s:Shared)(σ:St)(H:Hp)(v:V)(u:Value)(Q:St->Hp->Prop),Inv X pins σ H s->RelV v u->t v σ H Q->
  wpAny (model X.prog X.w) X.A (assign target X.env u) (λ_ s'=>∃a h,Inv X pins a h s'/\Q a h) X.xe s
def Wu (X:Cx)(T:bT)(t:QO):Prop:=
 ∀(pins:bP)(s:Shared)(σ:St)(H:Hp)(vs:List V)(us:bN)(Q:St->Hp->Prop),Inv X pins σ H s->Vals vs us->t vs σ H Q->
  wpAny (model X.prog X.w) X.A (assignInOrder ((assignEach T X.env).map (·.2)) us) (λ_ s'=>∃a h,Inv X pins a h s'/\Q a h) X.xe s
abbrev Yw:=V->V->V->Hp->(Hp->Prop)->Prop
def XJ (X:Cx)(t:Yw):Prop:=
 ∀(pins:bP)(s:Shared)(σ:St)(H:Hp)(o i v:V)(a I u:Value)(Q:Hp->Prop),Inv X pins σ H s->RelV o a->RelV i I->RelV v u->t o i v H Q->
  wpAny (model X.prog X.w) X.A (setItem a I u) (λ_ s'=>∃h,Inv X pins σ h s'/\Q h) X.xe s
section
variable {X:Cx}
noncomputable def KG (i:Nat):TG:=λv σ H Q=>Q (σ.set i (some v)) H
def GR (c:X.N.Nodup)(b:X.N[i]? =some x)(a:Loc X.env.scope x)(hf:X.fn x=true∨X.env.scope.names.lookup x=some .local:=by first|exact .inl rfl|exact .inr rfl|assumption):PG X (.Name x pos) (KG i):=by
 intro pins s σ H v u Q I r h;exact wpAny_assign_Name (Q0 I c b a r (λs' d=>⟨_,H,d,h⟩) hf)
noncomputable def Bf:QO:=λvs σ H Q=>vs=[]/\Q σ H
noncomputable def DH (t:TG)(u:QO):QO:=λvs σ H Q=>∃v r,vs=v::r/\t v σ H λa h=>u r a h Q
def IE:Wu X [] Bf:=by
 intro pins s σ H vs us Q I r h;obtain⟨e,h⟩:=h;subst e;cases r;exact assignInOrder_nil ⟨σ,H,I,h⟩
def U4 {E:bT}{t:TG}{u:QO}(f:PG X e t)(d:Wu X E u)
  (c:(assignEach (e::E) X.env).map (·.2)=assign e X.env::(assignEach E X.env).map (·.2):=by rfl):Wu X (e::E) (DH t u):=by
 intro pins s σ H vs us Q I r h;obtain⟨v,j,g,h⟩:=h;subst g;cases r with
 |cons r b=>
  rw[c];refine assignInOrder_cons (zP (f pins s σ H _ _ _ I r h) λ_ s1 ⟨a,H1,i,q⟩=>?_);exact d pins s1 a H1 _ _ Q i b q
noncomputable def yN (K:Frag)(n:Nat)(t:QO):TG:=λv σ H Q=>∃a xs,v=.ref a/\qy K H a xs/\xs.length=n/\t xs σ H Q
def E9 {E:bT}{t:QO}(g:X.calm=true)(h:Wu X E t)
  (hn:(assignEach E X.env).length=n:=by rfl)(c:(assignEach E X.env).findIdx? (·.1)=none:=by rfl):PG X (.Tuple E k pos) (yN X.K n t):=by
 intro pins s σ H v u Q I r hw;obtain⟨a,xs,j,q,l,hw⟩:=hw;subst j;cases r;obtain⟨i,d,f,z⟩:=I.tuple q;refine assign_Tuple_tuple (I.ok.hd g) f (by simp[hn,<- l,d.length]) c λh' x=>?_
 have p:Inv X pins σ H { s with heap:=h' }:=I.kept (t':=s.toks) λb o e=>x b o (aK (aF e)) e
 exact h pins _ σ H xs _ Q p (by simpa using d) hw
noncomputable def yS (to ti:TE)(t:Yw):TG:=λv σ H Q=>to σ H λo H1=>ti σ H1 λi a=>t o i v a λh=>Q σ h
def Dj {o i:Expr}{to ti:TE}{t:Yw}(f:PE X o to)(g:PE X i ti)(e:XJ X t)
  (j:∀v,assign (.Subscript o i pos) X.env v=(do
   let ov <- holding [v] (eval o X.env)
   let iv <- holding [v,ov] (eval i X.env)
   standAt pos
   holding [v,ov,iv] (setItem ov iv v)
   release [v,ov,iv] []):=by intro _;rfl):PG X (.Subscript o i pos) (yS to ti t):=by
 intro pins s σ H v u Q I r h;rw[j];refine b9 (wpAny_holding (zP (f pins s σ H _ I h) λov s1 ⟨x,H1,n,b,d⟩=>?_));refine b9 (wpAny_holding (zP (g pins s1 σ H1 _ n d) λiv s2 ⟨y,w,l,a,c⟩=>?_));refine b9 (wpAny_standAt (b9 (wpAny_holding (zP (e pins s2 σ w x y v ov iv u _ l b a r c) λ_ s3 ⟨p,k,q⟩=>?_))));exact wpAny_release ⟨σ,p,k,q⟩
noncomputable def KQ (t:TE)(g:TG):TS:=λD σ H=>t σ H λx H1=>g x σ H1 D.nx
def SU {t:TE}{g:TG}(he:PE X e t)(b:PG X tg g)(a:swapsWithSole [tg] e pos.line X.env=pure false:=by rfl)(hw:swappedStores [tg] e X.env=pure none:=by rfl)
  (c:(assignEach [tg] X.env).map (·.2)=[assign tg X.env]:=by rfl):PS X (.Assign [tg] e pos) (KQ t g):=by
 intro pins s σ H D I h;refine wpAny_Assign_stores (zP (he pins s σ H _ I h) λv s1 ⟨x,H1,i,r,Q⟩=>?_) a hw;rw[c];exact zP (b pins s1 σ H1 x v _ i r Q) λ_ s2 q=>q
def EE {t:TE}{pos':Pos}(d:X.N.Nodup)(c:X.N[i]? =some x)(a:Loc X.env.scope x)(he:PE X e t)(b:swapsWith e (some (.Name x pos')) pos.line X.env=pure false:=by rfl)(hf:X.fn x=true∨X.env.scope.names.lookup x=some .local:=by first|exact .inl rfl|exact .inr rfl|assumption):
  PS X (.Assign [.Name x pos'] e pos) (KQ t (KG i)):=by
 intro pins s σ H D I h;refine wpAny_Assign_Name (zP (he pins s σ H _ I h) λv s1 ⟨y,H1,g,r,q⟩=>?_) b;exact Q0 g d c a r (λs2 f=>⟨_,H1,f,q⟩) hf
noncomputable def C8 (i j:Nat)(t:TA):TS:=λD σ H=>t σ H λvs H1=>∃v w,vs=[v,w]/\D.nx ((σ.set i (some v)).set j (some w)) H1
def Dk {y:Str}{a b:Expr}{t:TA}{P py pt:Pos}{kt k2 pt2}(L:X.calm=true)(k:X.N.Nodup)(K:X.N[i]? =some x)(J:X.N[j]? =some y)(d:i≠j)
  (g:X.env.scope.names.lookup x=some .local)(f:X.env.scope.names.lookup y=some .local)(M:PA X [a,b] t)
  (hw:swappedStores [.Tuple [.Name x P,.Name y py] kt pt] (.Tuple [a,b] k2 pt2) X.env=pure (some [x,y]))
  (E:swapsWithSole [.Tuple [.Name x P,.Name y py] kt pt] (.Tuple [a,b] k2 pt2) pos.line X.env=pure false:=by rfl):
  PS X (.Assign [.Tuple [.Name x P,.Name y py] kt pt] (.Tuple [a,b] k2 pt2) pos) (C8 i j t):=by
 intro pins s σ H D I h;rw[exec_Assign_arm];refine b9 (wpAny_standAt ?_);rw[E];refine b9 (cb ?_);rw[ar (by decide)]
 refine b9 (Tuple_ (zP (M _ pins s σ H _ I h) λus s1 ⟨vs,H1,I1,z,Q⟩=>?_));obtain⟨v,w,S,Q⟩:=Q;subst S;obtain⟨U,u,rfl,n,r⟩:∃U u,us=[U,u]/\RelV v U/\RelV w u:=by
  cases z with
  |cons p q=>
   cases q with
   |cons C B=>
    cases B;exact⟨_,_,rfl,p,C⟩
 refine wpAny_newObj_type ?_ (by show 2<=sizeLine;decide)
 have Z:Inv X pins σ H1 { s1 with heap:=s1.heap.push { cls:=.type "tuple",data:=.seq [U,u].toArray } }:=I1.kept (t':=s1.toks) λb o e=>af _ e
 rw[hw];refine b9 (cb ?_);show wpAny (model X.prog X.w) X.A (do rule "assign.swapped-stores";let items <- unpackItems (.ref s1.heap.objs.size) 2 none;assignInOrder [λv=>bindName X.env y v,λv=>bindName X.env x v] items.reverse;pure Flow.next) _ _ _
 refine b9 (wpAny_rule (b9 (unpackItems_tuple (items:=#[U,u]) (I.ok.hd L) (IsTup.new s1.heap _) λh' c=>?_)));have Y:=Z.kept (h':=h') (t':=s1.toks) λb o e=>c b o (aK (aF e)) e;show wpAny _ _ (assignInOrder [λv=>bindName X.env y v,λv=>bindName X.env x v] [u,U] >>= λ_=>pure Flow.next) _ _ _;refine b9 (assignInOrder_cons (wpAny_bindName (Q0 Y k J (.inl f) r (λs2 T=>?_) (.inr f))));refine assignInOrder_cons (wpAny_bindName (Q0 T k K (.inl g) n (λs3 l=>assignInOrder_nil (cb ?_)) (.inr g)));rw[List.set_comm _ _ (Ne.symm d)]at l;exact⟨_,H1,l,Q⟩
def FE (c:TT)(t:TS):TS:=λD σ H=>∃W:Nat->St->Hp->Prop,(∃m,W m σ H)/\∀m σ H,W m σ H->
 c σ H λb H1=>if b=true then ∃N:St->Hp->Prop,(∀a h,N a h->∃M,M<m/\W M a h)/\t { D with nx:=N,ct:=N,bk:=D.nx } σ H1 else D.nx σ H1
def LN {c:Expr}{t:TT}{T:TS}(p:PassesOwn (model X.prog X.w) X.A X.env X.xe)(z:PT X c t)(B:yr X body T):PS X (.While c body [] pos) (FE t T):=by
 intro pins s σ H D I h;obtain⟨W,⟨m0,y⟩,turn⟩:=h;refine wpAny_While (codeAny_whileLoop (λn s'=>∃e u,Inv X pins e u s'/\W n e u) ?_ m0 ⟨σ,H,I,y⟩)
 rintro n s1 ⟨d,H1,C,x⟩
 refine wpAny_passesOwn p (zP (z pins s1 d H1 _ C (turn n d H1 x)) λb s2 ⟨r,o,Q⟩=>?_);cases b with
 |true=>
  obtain⟨N,l,Q⟩:=Q;rw[ag rfl];refine wpAny_passesOwn p (zP (B pins s2 d r _ o Q) λf s3 q=>?_);cases f with
  |next=>
   obtain⟨a,g,k,j⟩:=q;obtain⟨M,hm,i⟩:=l a g j;exact⟨M,hm,a,g,k,i⟩
  |cont=>
   obtain⟨a,g,k,j⟩:=q;obtain⟨M,hm,i⟩:=l a g j;exact⟨M,hm,a,g,k,i⟩
  |brk=>exact q|ret v=>exact q
 |false=>
  rw[ar aA];exact wpAny_execs_nil ⟨d,r,o,Q⟩
end
structure It where
 go:Nat->Hp->Prop
 yld:Nat->Hp->V->Hp->Prop
 stop:Nat->Hp->Prop
def kG (X:Cx)(pins:bP)(H:Hp)(b:Addr):Prop:=
 H b=none/\b≠X.env.locals/\b∉X.fs/\(b∈X.ex∨X.s0.heap.objs.size<=b)/\(∀x c,X.env.cells.lookup x=some c->c≠b)/\∀p∈X.pn++pins,p.1≠b
def Inv.fpOk {X:Cx}{σ:St}{H a:Hp}(I:Inv X pins σ H s)(h:s.heap.objs.size<=b)(hn:a b=none):kG X pins a b:=by
 refine⟨hn,bx (aC I.lt h),I.nofs h,.inr (aQ I.sz h),λx c e z=>?_,λp d z=>?_⟩
 ·obtain⟨v,q⟩:=I.cell x c e
  exact absurd (aC q.lt (by rw[z];exact h)) (aW _)
 ·exact absurd (aC (aF (I.pin p d).1) (by rw[z];exact h)) (aW _)
structure Turn (P:Program)(w:World)(K:Frag)(tg:Expr)(J:It)(fp:bO)(it:Addr)(tn:Nat->Heap->Prop):Prop where
 mem:it∈fp
 obj:∀i h,tn i h->∀b∈fp,∃o,h.get? b=some o/\∀v,o.data≠.cell v
 keep:∀i h h',tn i h->(∀b∈fp,∀o,h.get? b=some o->h'.get? b=some o)->tn i h'
 item:∀(X:Cx),X.prog=P->X.w=w->X.K=K->X.calm=true->∀(i:Nat)(pins:bP)(s:Shared)(σ:St)(H:Hp)(E:bS),Inv X pins σ H s->(∀b∈fp,kG X pins H b)->tn i s.heap->J.go i H->
  wpAny (model P w) X.A (pyNext (.ref it)) (λr s1=>∃u,r=some u/\
   wpAny (model P w) X.A (letOwnedTupleGo tg (.ref it) u) (λ_ s2=>∃x H',Inv X pins σ H' s2/\RelV x u/\J.yld i H x H'/\tn (i+1) s2.heap/\∀b∈fp,H' b=none) E s1) E s
 done:∀(X:Cx),X.prog=P->X.w=w->X.K=K->X.calm=true->∀(i:Nat)(pins:bP)(s:Shared)(σ:St)(H:Hp)(E:bS),Inv X pins σ H s->(∀b∈fp,kG X pins H b)->tn i s.heap->J.stop i H->
  wpAny (model P w) X.A (pyNext (.ref it)) (λr s1=>r=none/\Inv X pins σ H s1) E s
 self:∀(A:Around)(i:Nat)(s:Shared)(Q:bS)(E:bS),tn i s.heap->Q (.ref it) s->wpAny (model P w) A (pyIter (.ref it)) Q E s
abbrev TI:=St->Hp->(It->Hp->Prop)->Prop
inductive Pm (X:Cx)(pins:bP)(σ:St)(tg:Expr)(R:It->Hp->Prop)(itv:Value)(s2:Shared):Prop
 |mk (it:Addr) (fp:bO) (tn:Nat->Heap->Prop) (J:It) (H':Hp) (e:itv=.ref it) (I:Inv X pins σ H' s2) (T:Turn X.prog X.w X.K tg J fp it tn) (t0:tn 0 s2.heap) (f:(∀b∈fp,kG X pins H' b)) (q:R J H')
def PI (X:Cx)(t iter:Expr)(i:TI):Prop:=
 ∀(pins:bP)(s:Shared)(σ:St)(H:Hp)(R:It->Hp->Prop),Inv X pins σ H s->i σ H R->
  wpAny (model X.prog X.w) X.A (eval iter X.env) (λv s1=>wpAny (model X.prog X.w) X.A (pyIter v) (Pm X pins σ t R) X.xe s1) X.xe s
def Kx {A:Around}{it:Addr}{o:Obj}{n:String}{vs:Array Value}{Q:Unit->Shared->Prop}(a:s.heap.get? it=some o)(c:o.cls=.type n)(hd:o.data=.fields vs)
  (hn:["enumerate","zip","dict_itemiterator","dict_reverseitemiterator","odict_iterator","itertools.zip_longest","itertools.pairwise"].contains n=false)(H:Q () s):wpAny M A (letOwnedTupleGo tg (.ref it) u) Q E s:=by
 unfold letOwnedTupleGo;cases tg<;>first
  |exact cb H
  |(cases u<;>first
    |exact cb H
    |(
      refine b9 (wpAny_load a ?_);rw[c,hd];show wpAny M A (if (["enumerate","zip","dict_itemiterator","dict_reverseitemiterator","odict_iterator","itertools.zip_longest","itertools.pairwise"].contains n&&vs[0]?==some (rawInt _))=true then _ else _) Q E s;rw[ar (by intro h;rw[hn,Bool.false_and]at h;cases h)]
      exact cb H))
noncomputable def Pa (K:Frag)(a:Addr):It:=
 ⟨λi H=>∃xs x,qN K H a xs/\xs[i]? =some x,λi H x h=>h=H/\∀xs,qN K H a xs->xs[i]? =some x,λi H=>∃xs,qN K H a xs/\xs.length<=i⟩
noncomputable def Ph (K:Frag)(a:Addr):It:=
 ⟨λi H=>∃xs x,qy K H a xs/\xs[i]? =some x,λi H x h=>h=H/\∀xs,qy K H a xs->xs[i]? =some x,λi H=>∃xs,qy K H a xs/\xs.length<=i⟩
noncomputable def Wq (lo:Int)(n:Nat):It:=⟨λi _=>i<n,λi H x h=>h=H/\x=.int (lo+i),λi _=>n<=i⟩
def ML {K:Frag}(a it:Addr):Turn P w K tg (Pa K a) [it] it (λi h=>h.IsListIter it a i) where
 mem:=by simp
 obj:=λi h st b f=>by
  have e:b=it:=by simpa using f
  subst e;obtain⟨o,e,c,d⟩:=st;exact⟨o,e,λv z=>by rw[d]at z;cases z⟩
 keep:=λi h h' st k=>st.at λo e=>k it (by simp) o e
 item:=by
  intro X n hw t B i pins s σ H E I hf st l;subst n hw t;obtain⟨xs,x,q,j⟩:=l;obtain⟨g,r,p,J⟩:=I.list q;obtain⟨u,M,D⟩:=r.get j;obtain⟨f0,f1,f2,A,f4,y⟩:=hf it (by simp)
  refine wpAny_pyNext_list_item st p.isList (x:=u) (by simpa using M) λh' S C=>?_
  have Q:Inv X pins σ H { s with heap:=h' }:=I.turned (t':=s.toks) (λb o f e=>(C.2 b f).trans e) f0 f1 A f4 y
  obtain⟨o,e,c,d⟩:=id S;exact⟨u,rfl,Kx (s:={ s with heap:=h' }) e c d (by decide) ⟨x,H,Q,D,⟨rfl,λys L=>by rw[I.list_inj L q];exact j⟩,S,λb f=>(hf b f).1⟩⟩
 done:=by
  intro X n hw t B i pins s σ H E I hf st l;subst n hw t;obtain⟨xs,q,j⟩:=l;obtain⟨g,r,p,J⟩:=I.list q;obtain⟨f0,f1,f2,A,f4,y⟩:=hf it (by simp)
  have T:=r.length;exact wpAny_pyNext_list_end (I.ok.hd B) st p.isList (by simp;omega) λh' N=>⟨rfl,I.turned (t':=s.toks) (λb o f e=>N b o f e) f0 f1 A f4 y⟩
 self:=λ_ _ _ _ _ st h=>wpAny_pyIter_listiter st h
def Ni {K:Frag}(a it:Addr):Turn P w K tg (Ph K a) [it] it (λi h=>h.IsTupleIter it a i) where
 mem:=by simp
 obj:=λi h st b g=>by
  have e:b=it:=by simpa using g
  subst e;obtain⟨o,e,c,d⟩:=st;exact⟨o,e,λv z=>by rw[d]at z;cases z⟩
 keep:=λi h h' st k=>st.at λo e=>k it (by simp) o e
 item:=by
  intro X n hw t B i pins s σ H E I hf st l;subst n hw t;obtain⟨xs,x,q,j⟩:=l;obtain⟨f,r,p,J⟩:=I.tuple q;obtain⟨u,M,D⟩:=r.get j;obtain⟨f0,f1,f2,A,f4,y⟩:=hf it (by simp)
  refine wpAny_pyNext_tuple_item st (show s.heap.IsTuple a f.toArray from p) (x:=u) (by simpa using M) λh' S C=>?_
  have Q:Inv X pins σ H { s with heap:=h' }:=I.turned (t':=s.toks) (λb o g e=>(C.2 b g).trans e) f0 f1 A f4 y
  obtain⟨o,e,c,d⟩:=id S;exact⟨u,rfl,Kx (s:={ s with heap:=h' }) e c d (by decide) ⟨x,H,Q,D,⟨rfl,λys L=>by rw[I.tuple_inj L q];exact j⟩,S,λb g=>(hf b g).1⟩⟩
 done:=by
  intro X n hw t B i pins s σ H E I hf st l;subst n hw t;obtain⟨xs,q,j⟩:=l;obtain⟨f,r,p,J⟩:=I.tuple q;obtain⟨f0,f1,f2,A,f4,y⟩:=hf it (by simp)
  have T:=r.length;exact wpAny_pyNext_tuple_end (I.ok.hd B) st (show s.heap.IsTuple a f.toArray from p) (by simp;omega) λh' N=>⟨rfl,I.turned (t':=s.toks) (λb o g e=>N b o g e) f0 f1 A f4 y⟩
 self:=λ_ _ _ _ _ st h=>wpAny_pyIter_tupleiter st h
def NG {K:Frag}(it:Addr)(lo:Int)(n:Nat):Turn P w K tg (Wq lo n) [it] it (λi h=>IsRangeIter h it (lo+(i:Nat) * 1) ((n:Int)-(i:Nat)) 1) where
 mem:=by simp
 obj:=λi h st b a=>by
  have e:b=it:=by simpa using a
  subst e;exact⟨_,st,λv z=>by
   have Z:Data.fields _=Data.cell v:=z;cases Z⟩
 keep:=λi h h' st k=>k it (by simp) _ st
 item:=by
  intro X d hw f c i pins s σ H E I hf st g;subst d hw f;obtain⟨f0,f1,f2,l,f4,j⟩:=hf it (by simp)
  have W:=Walks.range (prog:=X.prog) (w:=X.w) (I.ok.hd c) it lo 1 n;refine W.item i s _ _ g st λv h' tk p S kk=>?_;obtain⟨t,rfl⟩:=p;have r:Inv X pins σ H { s with heap:=h',toks:=tk }:=I.turned (λb o a e=>kk b o (by simpa using a) e) f0 f1 l f4 j
  refine⟨_,rfl,Kx (s:={ s with heap:=h',toks:=tk }) (n := "range_iterator") S rfl rfl (by decide) ⟨.int (lo+i),H,r,⟨t,?_⟩,⟨rfl,rfl⟩,S,λb a=>(hf b a).1⟩⟩
  rw[Int.mul_one]
 done:=by
  intro X d hw f c i pins s σ H E I hf st g;subst d hw f;obtain⟨f0,f1,f2,l,f4,j⟩:=hf it (by simp)
  exact wpAny_pyNext_range_end (I.ok.hd c) st (by have:n<=i:=g;omega) λh' q=>⟨rfl,I.turned (t':=s.toks) (λb o a e=>q b o a e) f0 f1 l f4 j⟩
 self:=λ_ _ _ _ _ st h=>wpAny_pyIter_rangeiter st h
section
variable {X:Cx}
def Lw {σ:St}{H:Hp}{R:It->Hp->Prop}{lo h:Int}{t u v:Tok}{tk:Nat}(I:Inv X pins σ H s)(g:-(2 ^ 62)<=lo)(f:lo<2 ^ 62)(d:-(2 ^ 62)<=h)(c:h<2 ^ 62)
  (q:R (Wq lo (h-lo).toNat) H):wpAny (model X.prog X.w) X.A (pyIter (.ref s.heap.objs.size)) (Pm X pins σ tg R) E { s with heap:=s.heap.push { cls:=.type "range",data:=.fields #[.int lo t,.int h u,.int 1 v] },toks:=tk }:=by
 refine wpAny_pyIter_range (IsRange.new ..) (small_one g f d c) ?_;have i:Inv X pins σ H { s with heap:=s.heap.push { cls:=.type "range",data:=.fields #[.int lo t,.int h u,.int 1 v] },toks:=tk }:=I.kept λb o e=>af _ e
 refine⟨(s.heap.push { cls:=.type "range",data:=.fields #[.int lo t,.int h u,.int 1 v] }).objs.size,[(s.heap.push { cls:=.type "range",data:=.fields #[.int lo t,.int h u,.int 1 v] }).objs.size],_,_,H,rfl,
  i.kept (t':=tk) λb o e=>af _ e,NG _ lo (h-lo).toNat,?_,λb a=>?_,q⟩
 ·have k:lo+((0:Nat):Int) * 1=lo:=by simp
  have j:(((h-lo).toNat:Nat):Int)-((0:Nat):Int)=Builtin.Range.rangeSize lo h 1:=by rw[rangeSize_one];split<;>omega
  show IsRangeIter _ _ (lo+((0:Nat):Int) * 1) ((((h-lo).toNat:Nat):Int)-((0:Nat):Int)) 1;rw[k,j];exact aq _ rfl
 ·have e:b=(s.heap.push { cls:=.type "range",data:=.fields #[.int lo t,.int h u,.int 1 v] }).objs.size:=by simpa using a
  subst e;exact i.fpOk (au _) (i.hok.fresh (au _))
def DB (t:TA):TI:=λσ H R=>t σ H λvs H1=>∃j:Int,vs=[.int j]/\-(2 ^ 62)<=j/\j<2 ^ 62/\R (Wq 0 j.toNat) H1
def N8 {a:Expr}{T:TA}(g:Gl X "range")(hm:X.mg "range"=none)(i:PA X [a] T)(f:starEach [a] X.env=[(false,eval a X.env)]:=by rfl):PI X tg (.Call (.Name "range" p) [a] [] pos) (DB T):=by
 intro pins s σ H R I h;refine Call_ (ZT I g hm boot_range (PyProof.Rows.callWith_type1 (zP (i pos pins s σ H _ I h) λus s1 ⟨vs,H1,k,c,Q⟩=>?_) f rfl));obtain⟨j,e,Q,d,q⟩:=Q;subst e;cases c with
 |cons r b=>
  cases b;obtain⟨t,rfl⟩:=r;exact call_range_1 (Lw k (by omega) (by omega) Q d (by simpa using q))
def Bg (w:TI)(g:TG)(t:TS):TS:=λD σ H=>w σ H λJ H1=>∃W:Nat->Nat->St->Hp->Prop,(∃m,W 0 m σ H1)/\∀i m σ H,W i m σ H->
 (J.stop i H/\D.nx σ H)∨(J.go i H/\∃N:St->Hp->Prop,(∀a h,N a h->∃M,M<m/\W (i+1) M a h)/\∀x h,J.yld i H x h->g x σ h λb c=>t { D with nx:=N,ct:=N,bk:=D.nx } b c)
noncomputable def Ye (fp:bO)(h:Heap):bP:=fp.filterMap λb=>(h.get? b).map λo=>(b,o)
def YT {o:Obj}(H:b∈fp)(e:h.get? b=some o):(b,o)∈Ye fp h:=List.mem_filterMap.mpr ⟨b,H,by rw[e];rfl⟩
def MN {p:Addr×Obj}(H:p∈Ye fp h):p.1∈fp/\h.get? p.1=some p.2:=by
 obtain⟨b,a,e⟩:=List.mem_filterMap.mp H;cases q:h.get? b with
 |none=>rw[q]at e;cases e|some o=>
  rw[q]at e;have E:(b,o)=p:=aB e;subst E;exact⟨a,q⟩
def Inv.pinned {σ:St}{H:Hp}(I:Inv X pins σ H s)(hf:∀b∈fp,kG X pins H b)(c:∀b∈fp,∃o,s.heap.get? b=some o/\∀v,o.data≠.cell v):Inv X (pins++Ye fp s.heap) σ H s:=
 I.pins_of λp a=>(List.mem_append.mp a).elim (λz=>I.pin p (aR _ z)) λz=>by
  obtain⟨h,e⟩:=MN z;obtain⟨f0,f1,f2,_⟩:=hf p.1 h;obtain⟨o,E,d⟩:=c p.1 h;rw[e]at E;cases E;exact⟨e,f0,f1,f2,d⟩
def Inv.unpinned {P:bP}{σ:St}{H:Hp}(I:Inv X (pins++P) σ H s):Inv X pins σ H s:=I.pins_of λp h=>I.pin p (aR _ (mem_append_left _ h))
def Es {iter:Expr}{Q:TI}{g:TG}{Y:TS}(z:PassesOwn (model X.prog X.w) X.A X.env X.xe)(Z:X.calm=true)(hi:PI X tg iter Q)(hg:PG X tg g)(k:yr X body Y)
  (hs:∀x,foldedSetIterable iter X.env x=pure x:=by intro _;rfl):PS X (.For tg iter body [] pos) (Bg Q g Y):=by
 intro pins s σ H D I h;refine wpAny_For (zP (hi pins s σ H _ I h) λv s1 h1=>zP h1 λitv s2 h2=>?_) hs;obtain⟨it,fp,U,J,H2,e,I2,T,wD,f2,W,⟨m0,w0⟩,turn⟩:=h2;subst e;have S:∀{H':Hp},(∀b∈fp,H' b=none)->∀b∈fp,kG X pins H' b:=λhn b k=>⟨hn b k,(f2 b k).2⟩;refine codeAny_forLoop_any (λn s'=>∃i j H',Inv X pins j H' s'/\U i s'.heap/\(∀b∈fp,H' b=none)/\W i n j H') ?_ m0 ⟨0,σ,H2,I2,wD,λb k=>(f2 b k).1,w0⟩
 rintro n s3 ⟨i,c,C,I3,w5,B,w3⟩
 rcases turn i n c C w3 with ⟨stop,qn⟩|⟨go,N,hN,step⟩
 ·refine wpAny_passesOwn z (zP (T.done X rfl rfl rfl Z i pins s3 c C X.xe I3 (S B) w5 stop) λr s4 ⟨L,I4⟩=>?_)
  subst L;exact wpAny_execs_nil ⟨c,C,I4,qn⟩
 ·refine wpAny_passesOwn z (zP (T.item X rfl rfl rfl Z i pins s3 c C X.xe I3 (S B) w5 go) λr s4 ⟨u,L,h4⟩=>?_)
  subst L;refine wpAny_passesOwn z (zP h4 λ_ s5 ⟨x,H5,I5,r5,y5,t,M⟩=>?_);have P:=I5.pinned (S M) (T.obj _ _ t);refine wpAny_passesOwn z (zP (hg _ s5 c H5 x u _ P r5 (step x H5 y5)) λ_ s6 ⟨E,H6,I6,q6⟩=>?_);refine wpAny_passesOwn z (zP (k _ s6 E H6 _ I6 q6) λf K q=>?_);have again:∀{a:St}{p:Hp},Inv X (pins++Ye fp s5.heap) a p K->N a p->∃m,m<n/\∃i j H',Inv X pins j H' K/\U i K.heap/\(∀b∈fp,H' b=none)/\W i m j H':=λ {a p} l y=>by
   obtain⟨m',hm,w7⟩:=hN a p y;refine⟨m',hm,i+1,a,p,l.unpinned,T.keep _ _ _ t λb k o e=>(l.pin (b,o) (aR _ (aR _ (YT k e)))).1,λb k=>?_,w7⟩;obtain⟨o,e,d⟩:=T.obj _ _ t b k;exact(l.pin (b,o) (aR _ (aR _ (YT k e)))).2.1
  cases f with
  |next=>obtain⟨a,p,l,y⟩:=q;exact again l y|cont=>obtain⟨a,p,l,y⟩:=q;exact again l y|brk=>obtain⟨a,p,l,q⟩:=q;exact⟨a,p,l.unpinned,q⟩|ret v=>obtain⟨x7,a,p,l,r7,q⟩:=q;exact⟨x7,a,p,l.unpinned,r7,q⟩
end
abbrev R2:=V->V->Hp->VK->Prop
def qH (X:Cx)(f:Value->Value->Sem Value)(r:R2):Prop:=
 ∀(pins:bP)(s:Shared)(σ:St)(H:Hp)(x y:V)(v u:Value)(Q:VK),Inv X pins σ H s->RelV x v->RelV y u->r x y H Q->
  wpAny (model X.prog X.w) X.A (f v u) (EP X pins σ Q) X.xe s
def Wv (X:Cx)(f:Value->Sem Value)(r:V->Hp->VK->Prop):Prop:=
 ∀(pins:bP)(s:Shared)(σ:St)(H:Hp)(x:V)(v:Value)(Q:VK),Inv X pins σ H s->RelV x v->r x H Q->
  wpAny (model X.prog X.w) X.A (f v) (EP X pins σ Q) X.xe s
def jQ (X:Cx)(f:Value)(r:List V->Hp->VK->Prop):Prop:=
 ∀(pins:bP)(s:Shared)(σ:St)(H:Hp)(xs:List V)(us:bN)(Q:VK),Inv X pins σ H s->Vals xs us->r xs H Q->
  wpAny (model X.prog X.w) X.A (call f us) (EP X pins σ Q) X.xe s
noncomputable def Jx (r:R2)(T t:TE):TE:=λσ H Q=>T σ H λx H1=>t σ H1 λy h=>r x y h Q
noncomputable def Pn (r:V->Hp->VK->Prop)(t:TE):TE:=λσ H Q=>t σ H λx H1=>r x H1 Q
noncomputable def rI (C:Int->Int->Prop)(g:Int->Int->V):R2:=λx y H Q=>∃i j,x=.int i/\y=.int j/\C i j/\Q (g i j) H
noncomputable def gD (g:Int->Int->V):R2:=λx y H Q=>∃i j,x=.int i/\y=.int j/\Q (g i j) H
noncomputable def rU (g:Int->V):V->Hp->VK->Prop:=λx H Q=>∃i,x=.int i/\Q (g i) H
section
variable {X:Cx}{a b:Expr}{ta tb:TE}
def KN (j:PE X a ta)(i:PE X b tb){σ:St}{H:Hp}{R:V->V->Hp->Prop}(I:Inv X pins σ H s)
  (h:ta σ H λx H1=>tb σ H1 λy c=>R x y c){f:Value->Value->Sem Value}
  (hf:∀v u s2 x y c,Inv X pins σ c s2->RelV x v->RelV y u->R x y c->wpAny (model X.prog X.w) X.A (f v u) Q X.xe s2):
  wpAny (model X.prog X.w) X.A (eval a X.env) (λv d=>wpAny (model X.prog X.w) X.A (eval b X.env) (λu S=>wpAny (model X.prog X.w) X.A (f v u) Q X.xe S) X.xe d) X.xe s:=by
 refine zP (j pins s σ H _ I h) λv s1 ⟨x,H1,l,e,g⟩=>?_;refine zP (i pins s1 σ H1 _ l g) λu s2 ⟨y,c,k,r,q⟩=>?_;exact hf v u s2 x y c k e r q
def DP {op:Operator}{r:R2}(o:qH X (binaryOp op) r)(f:PE X a ta)(e:PE X b tb):PE X (.BinOp a op b pos) (Jx r ta tb):=by
 intro pins s σ H Q I h;exact wpAny_BinOp (KN f e I h λv u s2 x y g i d c q=>o pins s2 σ g x y v u Q i d c q)
def CJ {op:UnaryOp}{r:V->Hp->VK->Prop}(o:Wv X (unaryOp op) r)(c:PE X a ta):PE X (.UnaryOp op a pos) (Pn r ta):=by
 intro pins s σ H Q I h;exact UnaryOp_ (zP (c pins s σ H _ I h) λv s1 ⟨x,H1,i,b,q⟩=>o pins s1 σ H1 x v Q i b q)
def Wh {f:Value->Value->Sem Value}{C:Int->Int->Prop}{g:Int->Int->Int}
  (rule:∀(i j:Int)(t u:Tok)(s:Shared)(Q:bS)(E:bS),C i j->Q (.int (g i j) s.toks) { s with toks:=s.toks+1 }->wpAny (model X.prog X.w) X.A (f (.int i t) (.int j u)) Q E s):
  qH X f (rI C λi j=>.int (g i j)):=by
 intro pins s σ H x y v u Q I a r h;obtain⟨i,j,rfl,rfl,c,q⟩:=h;obtain⟨t,rfl⟩:=a;obtain⟨t',rfl⟩:=r;exact rule i j t t' s _ _ c ⟨.int (g i j),H,I.tok _,⟨_,rfl⟩,q⟩
def XO {f:Value->Value->Sem Value}{g:Int->Int->Int}
  (rule:∀(i j:Int)(t u:Tok)(s:Shared)(Q:bS)(E:bS),Q (.int (g i j) s.toks) { s with toks:=s.toks+1 }->wpAny (model X.prog X.w) X.A (f (.int i t) (.int j u)) Q E s):
  qH X f (gD λi j=>.int (g i j)):=by
 intro pins s σ H x y v u Q I a r h;obtain⟨i,j,rfl,rfl,q⟩:=h;obtain⟨t,rfl⟩:=a;obtain⟨t',rfl⟩:=r;exact rule i j t t' s _ _ ⟨.int (g i j),H,I.tok _,⟨_,rfl⟩,q⟩
def K3 {f:Value->Value->Sem Value}{g:Int->Int->Bool}
  (rule:∀(i j:Int)(t u:Tok)(s:Shared)(Q:bS)(E:bS),Q (.bool (g i j)) s->wpAny (model X.prog X.w) X.A (f (.int i t) (.int j u)) Q E s):
  qH X f (gD λi j=>.bl (g i j)):=by
 intro pins s σ H x y v u Q I a r h;obtain⟨i,j,rfl,rfl,q⟩:=h;obtain⟨t,rfl⟩:=a;obtain⟨t',rfl⟩:=r;exact rule i j t t' s _ _ ⟨.bl (g i j),H,I,rfl,q⟩
def RP (i j:Int):Prop:=0<=j/\j<=1000000/\i.natAbs<2 ^ 64
def Ys (i j:Int):Prop:=(-(2 ^ 64)<i/\i<2 ^ 64)∨(-(2 ^ 64)<j/\j<2 ^ 64)
def Ys.ok {i j:Int}(h:Ys i j):IntMulOk i j:=by
 rcases h with ⟨a,H⟩|⟨a,H⟩
 ·exact .of_left (intBits_le_64 a H)
 ·exact .of_right (intBits_le_64 a H)
def Dc:qH X (binaryOp .Add) (gD λi j=>.int (i+j)):=XO λ_ _ _ _ _ _ _ q=>add_int q
def FL:qH X (binaryOp .Sub) (gD λi j=>.int (i-j)):=XO λ_ _ _ _ _ _ _ q=>sub_int q
def FN:qH X (binaryOp .Mult) (rI Ys λi j=>.int (i * j)):=Wh λ_ _ _ _ _ _ _ h q=>mul_int q h.ok
def Dh:qH X (binaryOp .Mod) (rI (λ_ j=>0<j) λi j=>.int (i%j)):=Wh λi j _ _ _ _ _ h q=>by
 have H:(0:Int)<j:=h;exact mod_int' (by omega) (by rw[Int.fmod_eq_emod_of_nonneg i (by omega)];exact q)
def FH:qH X (binaryOp .Pow) (rI RP λi j=>.int (i ^ j.toNat)):=Wh λ_ _ _ _ _ _ _ h q=>pow_int_small h.1 h.2.1 h.2.2 q
def FF:qH X (binaryOp .BitXor) (gD λi j=>.int (Builtin.bitXor i j)):=XO λ_ _ _ _ _ _ _ q=>xor_int q
def BG {f:Value->Sem Value}{g:Int->Int}
  (rule:∀(i:Int)(t:Tok)(s:Shared)(Q:bS)(E:bS),Q (.int (g i) s.toks) { s with toks:=s.toks+1 }->wpAny (model X.prog X.w) X.A (f (.int i t)) Q E s):
  Wv X f (rU λi=>.int (g i)):=by
 intro pins s σ H x v Q I r h;obtain⟨i,rfl,q⟩:=h;obtain⟨t,rfl⟩:=r;exact rule i t s _ _ ⟨.int (g i),H,I.tok _,⟨_,rfl⟩,q⟩
def EJ:Wv X (unaryOp .USub) (rU λi=>.int (-i)):=BG λ_ _ _ _ _ q=>neg_int q
variable {c:Expr}{tc:TE}
def Eh {σ:St}{H:Hp}{Q:VK}{k K:Bool}(I:Inv X pins σ H s)(q:Q (.bl k) H)(e:k=K):EP X pins σ Q (.bool K) s:=by
 subst e;exact⟨.bl k,H,I,rfl,q⟩
def Cn:qH X (compareOp .Lt) (gD λi j=>.bl (decide (i<j))):=K3 λ_ _ _ _ _ _ _ q=>lt_int q
def DY:qH X (compareOp .LtE) (gD λi j=>.bl (decide (i<=j))):=K3 λ_ _ _ _ _ _ _ q=>le_int q
def CM:qH X (compareOp .Gt) (gD λi j=>.bl (decide (j<i))):=K3 λ_ _ _ _ _ _ _ q=>gt_int q
def CG:qH X (compareOp .GtE) (gD λi j=>.bl (decide (j<=i))):=K3 λ_ _ _ _ _ _ _ q=>ge_int q
def Dz:qH X (compareOp .Is) (λx y H Q=>y=.non/\Q (.bl (decide (x=.non))) H):=by
 intro pins s σ H x y v u Q I r a h;obtain⟨rfl,q⟩:=h;cases a;refine is_none_gen (Eh I q ?_);cases x<;>first
  |(cases r;rfl)
  |(obtain⟨t,rfl⟩:=r;rfl)
def qH.or {f:Value->Value->Sem Value}{r c:R2}(h:qH X f r)(h':qH X f c):qH X f (λx y H Q=>r x y H Q∨c x y H Q):=by
 intro pins s σ H x y v u Q I b a q;rcases q with q|q
 ·exact h pins s σ H x y v u Q I b a q
 ·exact h' pins s σ H x y v u Q I b a q
def HD {r:R2}(o:qH X (compareOp op) r)(f:PE X a ta)(e:PE X b tb)(hm:behindInMarks op b=false):PE X (.Compare a [op] [b] pos) (Jx r ta tb):=by
 intro pins s σ H Q I h;exact wpAny_Compare1 (KN f e I h λv u s2 x y g i d c q=>o pins s2 σ g x y v u Q i d c q) hm
noncomputable def RM (t:TE):TT:=λσ H Q=>t σ H λx h=>∃k,x=.bl k/\Q k h
def Hw {r:R2}(o:qH X (compareOp op) r)(n:PE X a ta)(l:PE X b tb)(hm:behindInMarks op b=false):PT X (.Compare a [op] [b] pos) (RM (Jx r ta tb)):=by
 intro pins s σ H Q I h;refine wpAny_isTrue_Compare1 (zP (n pins s σ H _ I h) λv s1 ⟨x,H1,w,g,j⟩=>zP (l pins s1 σ H1 _ w j) λu s2 ⟨y,B,t,f,i⟩=>
  zP (o pins s2 σ B x y v u _ t g f i) λc s3 ⟨z,A,p,d,k,e,q⟩=>?_) hm
 subst e;cases d;exact wpAny_truthy_bool ⟨A,p,q⟩
noncomputable def Xc (r b:R2)(a T t:TE):TE:=λσ H Q=>a σ H λx H1=>T σ H1 λy d=>r x y d λz h=>∃k,z=.bl k/\
 (if k=true then t σ h λw c=>b y w c Q else Q (.bl false) h)
def Ld {o:CmpOp}{r i:R2}(D:qH X (compareOp op) r)(f:qH X (compareOp o) i)(K:PE X a ta)(J:PE X b tb)(E:PE X c tc)
  (hm:lastMarks [op,o] [b,c]=false:=by with_unfolding_all rfl):PE X (.Compare a [op,o] [b,c] pos) (Xc r i ta tb tc):=by
 intro pins s σ H Q I h;refine Compare_chain (zP (K pins s σ H _ I h) λv s1 ⟨x,H1,N,t,C⟩=>chain_link (zP (J pins s1 σ H1 _ N C) λu s2 ⟨y,S,M,g,B⟩=>
  zP (D pins s2 σ S x y v u _ M t g B) λd s3 ⟨z,l,j,p,k,e,q⟩=>?_)) hm
 subst e;cases p;refine wpAny_truthy_bool ?_;cases k with
 |false=>exact ite_ff ⟨.bl false,l,j,rfl,q⟩|true=>exact ite_tt (chain_last (zP (E pins s3 σ l _ j q) λw s4 ⟨Z,P,L,n,A⟩=>f pins s4 σ P y Z u w Q L g n A))
def Lq {o:CmpOp}{r i:R2}(K:qH X (compareOp op) r)(f:qH X (compareOp o) i)(N:PE X a ta)(M:PE X b tb)(L:PE X c tc)
  (hm:lastMarks [op,o] [b,c]=false:=by with_unfolding_all rfl):PT X (.Compare a [op,o] [b,c] pos) (RM (Xc r i ta tb tc)):=by
 intro pins s σ H Q I h;refine isTrue_chain (zP (N pins s σ H _ I h) λv s1 ⟨x,H1,I1,A,E⟩=>test_link (zP (M pins s1 σ H1 _ I1 E) λu s2 ⟨y,H2,Y,g,D⟩=>
  zP (K pins s2 σ H2 x y v u _ Y A g D) λd s3 ⟨z,l,j,t,k,e,q⟩=>?_)) hm
 subst e;cases t;refine wpAny_truthy_bool ?_;cases k with
 |false=>
  obtain⟨k',S,J⟩:=q;cases S;exact ite_ff ⟨l,j,J⟩
 |true=>
  refine ite_tt (test_last (zP (L pins s3 σ l _ j q) λw s4 ⟨Z,H4,U,p,C⟩=>zP (f pins s4 σ H4 y Z u w _ U g p C) λd' s5 ⟨z2,H5,T,n,k2,P,B⟩=>?_));subst P;cases n;exact wpAny_truthy_bool ⟨H5,T,B⟩
def Ya:(sizeLine:Nat)<2 ^ 63:=by rw[sizeLine_eq];decide
def Nj:qH X (binaryOp .Add) (λx y H Q=>∃i j,x=.str i/\y=.str j/\i.length+j.length<=sizeLine/\Q (.str (i++j)) H):=by
 intro pins s σ H x y v u Q I a r h;obtain⟨i,j,rfl,rfl,z,q⟩:=h;obtain⟨t,rfl⟩:=a;obtain⟨t',rfl⟩:=r;exact add_str (λt' tk=>⟨.str (i++j),H,I.tok _,⟨_,rfl⟩,q⟩) z
def U3 (b:Expr):Prop:=∀o i,subscripted b false o i=operate [o,i] (getItem o i)
def O4 (k:PE X a ta)(j:PE X b tb)(f:U3 b):
  PE X (.Subscript a b pos) (Jx (λx y H Q=>∃z i c,x=.str z/\y=.int i/\0<=i/\i<2 ^ 63/\i<z.length/\z.cps[i.toNat]? =some c/\Q (.str ⟨#[c]⟩) H) ta tb):=by
 intro pins s σ H Q I h;refine Subscript_ (KN k j I h λv u s2 x y w p d r q=>?_);obtain⟨z,i,c,rfl,rfl,h0,l,n,g,q⟩:=q;obtain⟨t,rfl⟩:=d;obtain⟨t',rfl⟩:=r;have e:seqIndex? i z.length=some i.toNat:=PySem.StrLaws.seqIndex_nonneg h0 n;exact tail_any (typeIs_str s2 z t) slot_str_getitem.lookup (getItem_str (c:=c) (by
  have o:decide (i < -(2 ^ 63:Int))=false:=ay (by omega)
  have E:decide (i ≥ 2 ^ 63)=false:=ay (by omega)
  rw[o,E]<;>rfl) (by rw[e];exact g) ⟨.str ⟨#[c]⟩,w,p.tok _,⟨_,rfl⟩,q⟩) (f _ _)
def vals1 {x:V}(r:Vals [x] us):∃u,us=[u]/\RelV x u:=by
 cases r with
 |cons b a=>cases a;exact⟨_,rfl,b⟩
def vals2 {x y:V}(r:Vals [x,y] us):∃u w,us=[u,w]/\RelV x u/\RelV y w:=by
 cases r with
 |cons d c=>
  cases c with
  |cons b a=>cases a;exact⟨_,_,rfl,d,b⟩
def Ip:jQ X (.builtin "abs") (λxs H Q=>∃i,xs=[.int i]/\Q (.int (if i<0 then -i else i)) H):=by
 intro pins s σ H xs us Q I r h;obtain⟨i,rfl,q⟩:=h;obtain⟨u,rfl,t,rfl⟩:=vals1 r;exact call_abs_int λu tk=>⟨.int (if i<0 then -i else i),H,I.tok _,⟨_,rfl⟩,q⟩
def Mf (c:X.calm=true):jQ X (.builtin "max") (λxs H Q=>∃i j,xs=[.int i,.int j]/\Q (.int (if j > i then j else i)) H):=by
 intro pins s σ H xs us Q I r h;obtain⟨i,j,rfl,q⟩:=h;obtain⟨u,w,rfl,⟨t,rfl⟩,⟨t',rfl⟩⟩:=vals2 r;refine max_two_ints (I.ok.hd c) λh' tk k=>⟨_,H,I.kept k,?_,q⟩
 by_cases a:j > i
 ·rw[ag a,ag a];exact⟨_,rfl⟩
 ·rw[ar a,ar a];exact⟨_,rfl⟩
def MH (c:X.calm=true):jQ X (.builtin "min") (λxs H Q=>∃i j,xs=[.int i,.int j]/\Q (.int (if j<i then j else i)) H):=by
 intro pins s σ H xs us Q I r h;obtain⟨i,j,rfl,q⟩:=h;obtain⟨u,w,rfl,⟨t,rfl⟩,⟨t',rfl⟩⟩:=vals2 r;refine min_two_ints (I.ok.hd c) λh' tk k=>⟨_,H,I.kept k,?_,q⟩
 by_cases a:j<i
 ·rw[ag a,ag a];exact⟨_,rfl⟩
 ·rw[ar a,ar a];exact⟨_,rfl⟩
def MR:jQ X (.type "int") (λxs H Q=>(∃i,xs=[.int i]/\Q (.int i) H)∨∃k,xs=[.bl k]/\Q (.int (if k then 1 else 0)) H):=by
 intro pins s σ H xs us Q I r h;rcases h with ⟨i,rfl,q⟩|⟨k,rfl,q⟩
 ·obtain⟨u,rfl,t,rfl⟩:=vals1 r
  exact call_int_int ⟨.int i,H,I,⟨_,rfl⟩,q⟩
 ·obtain⟨u,rfl,a⟩:=vals1 r
  cases a;exact call_int_bool ⟨.int (if k then 1 else 0),H,I.tok _,⟨_,rfl⟩,q⟩
end
structure X1 (h:Heap)(x dx C:Addr)(mA:bV):Prop where
 obj:h.get? x=some (instObj C dx)
 ns:h.Ns1 dx mA
 ne:dx≠x
def NX {D:Addr}{M:bV}(n:h.Ns1 D M):∃d,h.get? D=some d/\∀name,lookIn name d=some (M name):=by
 obtain⟨o,E,p,c,hd,k,_,hm⟩:=n;refine⟨o,c,λname=>?_⟩;have e:=hm name;unfold nsFind findBy at e;rw[<- Array.find?_toList]at e;unfold lookIn;rw[hd];dsimp only
 split
 ·rename_i y q
  rw[q]at e;exact congrArg some e
 ·rename_i q
  rw[q]at e;have a:E.toList.any (·.refKey)=false:=by
   rw[List.any_eq_false];intro y b;obtain⟨z,t,H⟩:=k y (Array.mem_toList_iff.mp b);simp[DictEntry.refKey,H]
  have A:¬E.toList.any (·.refKey)=true:=by rw[a];exact aA
  rw[ar A];exact congrArg some e
def X1.look {x d C:Addr}{M:bV}(I:X1 h x d C M):∃o,PySem.W.InstAt h x (instObj C d) C (some o)/\∀name,lookIn name o=some (M name):=
 let ⟨o,H,l⟩:=NX I.ns
 ⟨o,⟨I.obj,rfl,rfl,H⟩,l⟩
section
variable {H:Hp}{C dx:Addr}{fs:List (Str×V)}
def IL (hok:j0 P w H h)(e:H a=some (.ins C dx fs)):∃M,X1 h a dx C M/\(∀f,X0 (fs.lookup f) (M f))/\PySem.Within M (fs.map (·.1))/\fs.length<=1000/\H dx=some (.own a):=by
 obtain⟨d,z,ne,ob,M,n,r,q⟩:=(show jb P w H h a (.ins C dx fs) from hok a _ e)
 exact⟨M,⟨ob,n,ne⟩,r,q,z,d⟩
end
structure kW (K:Frag)(C:Addr):Prop where
 pg:plainGet K C Str.empty=true
 hd:PySem.W.hasDictIn K C=true
 po:PySem.W.plainOver K C=true
 sa:PySem.W.findIn K (.ref C) "__setattr__"=some (some (.builtin "object.__setattr__"))
def kW.get {K:Frag}{C:Addr}(c:kW K C)(f:Str):plainGet K C f=true:=c.pg
section
variable {X:Cx}{σ:St}{H:Hp}{A:Around}{c:Value}{b:Bool}
inductive wj (K:Frag)(H:Hp):V->Value->Prop where
 |non:wj K H .non (.type "NoneType")
 |bl (x:Bool):wj K H (.bl x) (.type "bool")
 |int (i:Int):wj K H (.int i) (.type "int")
 |str (x:Str):wj K H (.str x) (.type "str")
 |flt (x:UInt64):wj K H (.flt x) (.type "float")
 |lst {a:Addr} {xs:List V} (e:H a=some (.lst xs)):wj K H (.ref a) (.type "list")
 |frz {a:Addr} {o:Obj} {xs:List V} (e:H a=some (.frz o (.lst xs))):wj K H (.ref a) (.type "list")
 |tup {a:Addr} {xs:List V} (e:H a=some (.tup xs)):wj K H (.ref a) (.type "tuple")
 |dK {a:Addr} {kvs:List (Key×V)} (e:H a=some (.dK kvs)):wj K H (.ref a) (.type "dict")
 |dT {a:Addr} {kvs:List (List Key×V)} (e:H a=some (.dT kvs)):wj K H (.ref a) (.type "dict")
 |ins {a C dx:Addr} {fs:List (Str×V)} (e:H a=some (.ins C dx fs)) (cl:kW K C) (ha:PySem.W.findIn K (.ref C) "__class__"=some (some (.builtin "object.__class__")))
   (hn:PySem.W.specialIn K (.builtin "object.__class__") "__get__"=some (some (.builtin "getset_descriptor.__get__"))) (htk:PySem.W.takesIn K (.builtin "object.__class__")=some true)
   (hm:PySem.W.mroIn K C (.type "object")=some true):wj K H (.ref a) (.ref C)
def UA {x:V}{t:Value}(I:Inv X pins σ H s)(r:RelV x u)(ty:wj X.K H x t)(e:kitOne X.K t c=some b)(h:∀tk,Q (.bool b) { s with toks:=tk }):
  wpAny (model X.prog X.w) A (call (.builtin "isinstance") [u,c]) Q E s:=by
 cases ty with
 |non=>cases (show u=Value.none from r);exact bB kitx_none I.kIn True.intro e (λz=>nomatch z) h
 |bl y=>cases (show u=Value.bool y from r);exact bB kitx_bool I.kIn True.intro e (λz=>nomatch z) h
 |int i=>obtain⟨t,q⟩:=(show ∃t,u=Value.int i t from r);cases q;exact bB kitx_int I.kIn True.intro e (λz=>nomatch z) h
 |str y=>obtain⟨t,q⟩:=(show ∃t,u=Value.str y t from r);cases q;exact bB kitx_str I.kIn True.intro e (λz=>nomatch z) h
 |flt y=>obtain⟨t,q⟩:=(show ∃t,u=Value.float y t from r);cases q;exact bB kitx_float I.kIn True.intro e (λz=>nomatch z) h
 |@lst a xs ea=>
  cases (show u=Value.ref a from r)
  obtain⟨_,_,n,_,d⟩:=(show jb X.prog X.w H s.heap a (.lst xs) from I.hok a _ ea)
  exact bB kitx_list I.kIn ⟨_,d,rfl⟩ e (λz=>nomatch z) h
 |@frz a ob xs ea=>
  cases (show u=Value.ref a from r)
  obtain⟨_,_,_,n,_,d⟩:=(show jb X.prog X.w H s.heap a (.frz ob (.lst xs)) from I.hok a _ ea)
  exact bB kitx_list I.kIn ⟨_,d,rfl⟩ e (λz=>nomatch z) h
 |@tup a xs ea=>
  cases (show u=Value.ref a from r)
  obtain⟨_,_,_,p⟩:=(show jb X.prog X.w H s.heap a (.tup xs) from I.hok a _ ea)
  obtain⟨o,d,f,_⟩:=p;exact bB kitx_tuple I.kIn ⟨o,d,f.1⟩ e (λz=>nomatch z) h
 |@dK a k ea=>
  cases (show u=Value.ref a from r)
  obtain⟨_,_,vs,_,p⟩:=(show jb X.prog X.w H s.heap a (.dK k) from I.hok a _ ea)
  obtain⟨o,l,v,d,f,_⟩:=p;exact bB kitx_dict I.kIn ⟨o,d,f.1⟩ e (λz=>nomatch z) h
 |@dT a k ea=>
  cases (show u=Value.ref a from r)
  obtain⟨_,_,xs,_,o,l,v,d,f,_⟩:=(show jb X.prog X.w H s.heap a (.dT k) from I.hok a _ ea)
  exact bB kitx_dict I.kIn ⟨o,d,f.1⟩ e (λz=>nomatch z) h
 |@ins a C dx fs ea cl j hn g hm=>
  cases (show u=Value.ref a from r)
  obtain⟨M,O,_⟩:=IL I.hok ea;obtain⟨B,J,_⟩:=O.look;exact bB (PySem.W.kitx_own (cl.get _) cl.hd j hn g hm) I.kIn J e (λz=>nomatch z) h
end
structure jD (k:Nat)(A:Around):Prop where
 hd:A.handled=none
 dp:A.depth+3 * k+5<recursionLimit
 un:A.units+16 * k+200<cLine
def jD.mono {A:Around}(r:jD k A)(h:j<=k):jD j A:=⟨r.hd,by have:=r.dp;omega,by have:=r.un;omega⟩
theorem jD.deeper {A:Around}(r:jD (k+1) A)(env:Env):jD k (A.deeper env):=
 ⟨r.hd,by have:=r.dp;show A.depth+1+3 * k+5<_;omega,by have:=r.un;show A.units+3+16 * k+200<_;omega⟩
theorem jD.depth {A:Around}(r:jD k A):A.depth<recursionLimit:=by have:=r.dp;omega
theorem jD.units {A:Around}(r:jD k A):A.units+64<cLine:=by have:=r.un;omega
noncomputable def XD:TA:=λ_ H Q=>Q [] H
noncomputable def Ku (T:TE)(t:TA):TA:=λσ H Q=>T σ H λx H1=>t σ H1 λxs h=>Q (x::xs) h
section
variable {X:Cx}{es:bT}{te:TE}{t:TA}
def jP:PA X [] XD:=λ_ _ _ _ H Q I h=>Calls.spliced_nil ⟨[],H,I,.nil,h⟩
def qZ (f:PE X e te)(d:PA X es t)(c:starEach (e::es) X.env=(false,eval e X.env)::starEach es X.env:=by rfl):PA X (e::es) (Ku te t):=by
 intro pos pins s σ H Q I h;rw[c];show wpAny _ _ (spliced ((false,eval e X.env)::backTo pos (starEach es X.env))) _ _ s;refine Calls.spliced_cons (zP (f pins s σ H _ I h) λu s1 ⟨x,H1,g,a,b⟩=>?_);exact zP (d pos pins s1 σ H1 _ g b) λus s2 ⟨xs,j,i,r,q⟩=>⟨x::xs,j,i,.cons a r,q⟩
def Bc (t:TA):TE:=λσ H Q=>t σ H λxs H1=>xs.length<=sizeLine/\∀p,H1 p=none->Q (.ref p) (upd H1 p (.tup xs))
def Bs (t:TA):TE:=λσ H Q=>t σ H λxs H1=>xs.length<=sizeLine/\∀p,H1 p=none->Q (.ref p) (upd H1 p (.lst xs))
def S9 {x1}(h:PA X es t):PE X (.Tuple es x1 pos) (Bc t):=by
 intro pins s σ H Q I a;refine wpAny_Tuple_spliced (zP (h pos pins s σ H _ I a) λus s1 ⟨xs,H1,i,r,z,q⟩=>⟨by rw[<- r.length];exact z,?_⟩)
 have hf:H1 s1.heap.objs.size=none:=i.hok.fresh (au _);refine⟨.ref s1.heap.objs.size,upd H1 s1.heap.objs.size (.tup xs),i.laid (t':=s1.toks) (λb u e=>af _ e) (au _) ?_,rfl,q _ hf⟩;exact⟨z,us,r,⟨_,aq _ rfl,⟨rfl,rfl⟩,_,rfl⟩⟩
def F9 (h:PA X es t):PE X (.List es pos) (Bs t):=by
 intro pins s σ H Q I a;refine wpAny_List_spliced (zP (h pos pins s σ H _ I a) λus s1 ⟨xs,H1,i,r,z,q⟩=>⟨by rw[<- r.length];exact z,?_⟩)
 have hf:H1 s1.heap.objs.size=none:=i.hok.fresh (au _);refine⟨.ref s1.heap.objs.size,upd H1 s1.heap.objs.size (.lst xs),i.laid (t':=s1.toks) (λb u e=>af _ e) (au _) ?_,rfl,q _ hf⟩;exact⟨z,us,0,r,aq _ rfl⟩
end
abbrev Sp:=List V->Hp->VK->XK->Prop
abbrev wZ:=List Env->Hp->Shared->XK->Value->Shared->Prop
structure Js (P:Program)(w:World)(K:Frag)(mg:bV)(base:Heap)(A:Around)(outer:bW)(s:Shared)(H:Hp):Prop where
 frames:A.frames=some outer
 mod:Mod K mg base
 bs:∀b o,base.get? b=some o->s.heap.get? b=some o/\H b=none
 bsz:base.objs.size<=s.heap.objs.size
 funs:s.heap.FunFrames base outer
 frf:∀b∈qu outer,H b=none
 hok:j0 P w H s.heap
 bare:AllBare s.gens
inductive CE (outer:bW)(P:Program)(w:World)(H:Hp)(s:Shared)(Q:VK)(u:Value)(s':Shared):Prop
 |mk (v:V) (H':Hp) (os:s'.os=s.os) (b:AllBare s'.gens) (un:Un (qu outer) [] H H' s.heap s'.heap) (hk:j0 P w H' s'.heap) (r:RelV v u) (q:Q v H')
def CR (C:wZ)(outer:bW)(P:Program)(w:World)(H:Hp)(s:Shared)(Q:VK)(E:XK)(r:Result)(s':Shared):Prop:=
 match r with
 |.ok (.ret u)=>CE outer P w H s Q u s'|.ok _=>False|.error e=>C outer H s E e s'
structure yv (P:Program)(w:World)(K:Frag)(mg:bV)(base:Heap)(CX:wZ)(k:Nat)(f:Addr)(fd:FuncData)(ps:bR)(sp:Sp):Prop where
 len:∀vs H Q E,sp vs H Q E->vs.length=ps.length
 run:∀(A:Around)(outer:bW)(s:Shared)(H:Hp)(args:Args)(us:bN)(vs:List V)(Q:VK)(E:XK),jD k A->Js P w K mg base A outer s H->BindsTo s fd args (ps.zip us)->Vals vs us->sp vs H Q E->
  codeAny (model P w) A (.call (.ref f) args) (CR CX outer P w H s Q E) s
theorem yv.mono {K:Frag}{C:wZ}{sp:Sp}(F:yv P w K mg base C j f fd ps sp)(h:j<=k):
  yv P w K mg base C k f fd ps sp:=⟨F.len,λA outer s H args us vs Q E r=>F.run A outer s H args us vs Q E (r.mono h)⟩
def yv.imp {K:Frag}{C:wZ}{sp S:Sp}(F:yv P w K mg base C k f fd ps sp)
  (h:∀vs H Q E,S vs H Q E->sp vs H Q E):yv P w K mg base C k f fd ps S:=
 ⟨λvs H Q E q=>F.len vs H Q E (h _ _ _ _ q),λA outer s H args us vs Q E r he b v a=>F.run A outer s H args us vs Q E r he b v (h _ _ _ _ a)⟩
section
variable {X:Cx}{σ:St}{H:Hp}
def Inv.env0 (I:Inv X pins σ H s):Js X.prog X.w X.K X.mg X.base X.A X.stack s H:=
 ⟨I.ok.frames,I.ok.mod,I.bs,aQ I.ok.bsz I.sz,I.stack,I.stkFree,I.hok,I.bare⟩
def Inv.after {Q:VK}(I:Inv X pins σ H s)(h:CE X.stack X.prog X.w H s Q u s'):EP X pins σ Q u s':=by
 obtain⟨v,c,os,bare,un,hok,r,q⟩:=h;obtain⟨a,g,d,t,o⟩:=s';obtain rfl:o=s.os:=os;exact⟨v,c,I.call (h':=a) (g':=g) (d':=d) (t':=t) (ch:=[]) un hok bare (λb z=>absurd z (by simp)),r,q⟩
end
noncomputable def Cj (sp:Sp)(d:List V)(E:XK)(t:TA):TE:=λσ H Q=>t σ H λvs H1=>sp (vs++d) H1 Q E
def Binds (K:Frag)(fd:FuncData)(ps:bR)(ds:bN):Prop:=
 ∀(s:Shared)(us:bN),K.In s.heap->(us++ds).length=ps.length->BindsTo s fd ⟨us,[]⟩ (ps.zip (us++ds))
def Binds.all {K:Frag}(h:∀us:bN,us.length=ps.length->bindArgs fd ⟨us,[]⟩=pure (ps.zip us)):Binds K fd ps []:=λs us _ H=>by
 rw[bg]at H ⊢;exact .of_eq (h us H)
def Passes (C:wZ)(X:Cx)(E:XK):Prop:=∀(pins:bP)(σ:St)(H:Hp)(s:Shared)(e:Value)(s':Shared),Inv X pins σ H s->C X.stack H s E e s'->X.xe e s'
section
variable {X:Cx}{CX:wZ}{sp:Sp}{dvs:List V}{ds:bN}{E:XK}{es:bT}{t:TA}
def Dl {σ:St}{H:Hp}{Q:VK}{vs:List V}(F:yv X.prog X.w X.K X.mg X.base CX k f fd ps sp)(b:jD k X.A)(c:Binds X.K fd ps ds)(hd:Vals dvs ds)(x:Passes CX X E)
  (I:Inv X pins σ H s)(r:Vals vs us)(h:sp (vs++dvs) H Q E):wpAny (model X.prog X.w) X.A (call (.ref f) us) (EP X pins σ Q) X.xe s:=by
 have a:Vals (vs++dvs) (us++ds):=r.append hd;have l:(us++ds).length=ps.length:=by rw[<- a.length];exact F.len _ _ _ _ h
 refine wpAny_call (codeAny_mono (F.run X.A X.stack s H ⟨us,[]⟩ (us++ds) (vs++dvs) Q E b I.env0 (c s us I.kIn l) a h) λr s' q=>?_);cases r with
 |error e=>exact x pins σ H s e s' I q|ok d=>
  cases d with
  |ret u=>exact I.after q|next=>exact False.elim q|brk=>exact False.elim q|cont=>exact False.elim q
def Tv (F:yv X.prog X.w X.K X.mg X.base CX k f fd ps sp)(c:jD k X.A)(g:Gl X x)(hm:X.mg x=some (.ref f))(d:keepIn X.K (.ref f)=true)(j:Binds X.K fd ps ds)(hd:Vals dvs ds)(a:Passes CX X E)
  (n:PA X (e::es) t)(b:(x==("__debug__":Str))=false:=by decide)(he:starEach (e::es) X.env=(false,eval e X.env)::starEach es X.env:=by rfl)(l:(backTo pos (starEach es X.env)).any (·.1)=false:=by rfl):
  PE X (.Call (.Name x p) (e::es) [] pos) (Cj sp dvs E t):=by
 intro pins s σ H Q I h;refine wpAny_Call_Name_kw (J2 I g hm ?_ b);refine callWith_K (h₀:=X.base) I.ok.mod.kin d (zP (n pos pins s σ H _ I h) λus s1 ⟨vs,H1,i,r,q⟩=>⟨i.kIn,?_⟩) he l;exact Dl F c j hd a i r q
end
structure jJ (N P:bR)(sc:Scope):Prop where
 kind:sc.kind=.function
 co:sc.isCoroutine=false
 gen:sc.isGenerator=false
 nd:N.Nodup
 pre:N.take P.length=P
 par:∀x∈P,sc.names.lookup x=some .local∨sc.names.lookup x=some .cell
 nofree:∀y∈sc.names,y.2≠.free
theorem US {kindOf:Str->Option NameKind}:∀{binds:List (Str×Value)}{m:bV},(∀v,(x,v)∉binds)->bindL kindOf binds m x=m x
 |[],_,_=>rfl|(n,v)::r,m,h=>by
  unfold bindL;rw[US λw hw=>h w (ao _ hw)]
  split
  ·have:x≠n:=by rintro rfl;exact h v az
   simp[this]
  ·rfl
theorem UE {kindOf:Str->Option NameKind}:∀{binds:List (Str×Value)}{m:bV},(∀v,(x,v)∉binds)->bindC kindOf binds m x=m x
 |[],_,_=>rfl|(n,v)::r,m,h=>by
  unfold bindC;rw[UE λw hw=>h w (ao _ hw)]
  split
  ·rfl
  ·have:x≠n:=by rintro rfl;exact h v az
   simp[this]
theorem UO {kindOf:Str->Option NameKind}{v:Value}:∀{P:bR}{vs:bN}{i:Nat}{m:bV},P.Nodup->P[i]? =some x->vs[i]? =some v->kindOf x=some .local->
  bindL kindOf (P.zip vs) m x=some v
 |[],_,_,_,_,h,_,_=>by simp at h|_::_,[],_,_,_,_,h,_=>by simp at h|p::P,w::vs,0,m,nd,h1,H,k=>by
  simp at h1 H;subst h1;subst H;show bindL kindOf ((p,w)::P.zip vs) m p=_;unfold bindL;rw[US λv a=>(List.nodup_cons.mp nd).1 (of_mem_zip a).1,ag k];simp
 |p::P,w::vs,i+1,m,nd,h1,H,k=>by
  show bindL kindOf ((p,w)::P.zip vs) m x=_;unfold bindL;exact UO (i:=i) (List.nodup_cons.mp nd).2 (by simpa using h1) (by simpa using H) k
theorem UN {kindOf:Str->Option NameKind}{v:Value}:∀{P:bR}{vs:bN}{i:Nat}{m:bV},P.Nodup->P[i]? =some x->vs[i]? =some v->kindOf x≠some .local->
  bindC kindOf (P.zip vs) m x=some v
 |[],_,_,_,_,h,_,_=>by simp at h|_::_,[],_,_,_,_,h,_=>by simp at h|p::P,w::vs,0,m,nd,h1,H,k=>by
  simp at h1 H;subst h1;subst H;show bindC kindOf ((p,w)::P.zip vs) m p=_;unfold bindC;rw[UE λv a=>(List.nodup_cons.mp nd).1 (of_mem_zip a).1,ar k];simp
 |p::P,w::vs,i+1,m,nd,h1,H,k=>by
  show bindC kindOf ((p,w)::P.zip vs) m x=_;unfold bindC;exact UN (i:=i) (List.nodup_cons.mp nd).2 (by simpa using h1) (by simpa using H) k
noncomputable def start (N:bR)(vs:List V):St:=vs.map some++List.replicate (N.length-vs.length) none
noncomputable def wk (C:wZ)(P:Program)(w:World)(K:Frag)(mg:bV)(base:Heap)(N:bR)(qual:Str)(scope:Scope)(f:Addr)(cd:Value)(A:Around)(outer:bW)(s:Shared)(H:Hp)(E:XK):Cx where
 prog:=P
 w:=w
 K:=K
 mg:=mg
 base:=base
 A:=A.deeper (envOfC qual scope s.heap.objs.size f cd)
 N:=N
 s0:=s
 H0:=H
 env:=envOfC qual scope s.heap.objs.size f cd
 outer:=outer
 stack:=envOfC qual scope s.heap.objs.size f cd::outer
 ex:=[]
 calm:=true
 fn:=λ_=>true
 pn:=[]
 xe:=λe s'=>wpAny (model P w) (A.deeper (envOfC qual scope s.heap.objs.size f cd)) (leaving (envOfC qual scope s.heap.objs.size f cd) e) (λ_ S=>C outer H s E e S) (λa S=>C outer H s E a S) s'
def Tc (h:sc.names.lookup x=some .cell):∃c,(cellsFrom n sc.names []).lookup x=some c:=by
 have q:=cellsFrom_some sc.names n [] (.inl h);exact Option.isSome_iff_exists.mp q
def Mb {X:wZ}{K:Frag}{cd:Value}{A:Around}{outer:bW}{s1:Shared}{H:Hp}{E:XK}{vs:List V}
  (S:jJ N ps scope)(hd:A.handled=none)(g:Js P w K mg base A outer s H)(Q:vs.length=ps.length)(r:Vals vs us)
  (x:InCallC s s.heap.objs.size (bindL (envOfC qual scope s.heap.objs.size f cd).kindOf (ps.zip us) λ_=>none) (cellsFrom (s.heap.objs.size+1) scope.names []) (bindC (envOfC qual scope s.heap.objs.size f cd).kindOf (ps.zip us) λ_=>none) s1):
  Inv (wk X P w K mg base N qual scope f cd A outer s H E) [] (start N vs) H s1:=by
 have L:ps.length<=N.length:=by have:=congrArg List.length S.pre;rw[bo]at this;omega
 obtain⟨C,tk,rfl,I⟩:=x.done;have j:∀b:Addr,b∉(wk X P w K mg base N qual scope f cd A outer s H E).ex:=λb z=>absurd (show b∈([]:bO) from z) (by simp)
 refine⟨⟨g.mod,S.kind,rfl,rfl,au _,λy z c C d=>?_,λy l=>?_,λy c _ h=>?_,λ_=>hd,Around.frames_deeper g.frames,.inr ⟨rfl,rfl⟩,λb z=>absurd z (j b),g.bs,g.bsz,λb _ _=>j b,λb z=>absurd z (j b),g.funs,g.frf⟩,
  rfl,g.bare,Un.kept I,⟨_,x.toInCall.ns,λi y v C d T=>?_⟩,λy c h=>⟨_,x.cell y c h⟩,g.hok.fresh (au _),λy c h=>?_,λp t=>absurd (show p∈([]:bP) from t) (by simp),g.hok.kept I,?_⟩
 ·exact name_of_addr x.apart (PySem.mem_of_lookup C) (PySem.mem_of_lookup d)
 ·have l:scope.names.lookup y=some .cell∨scope.names.lookup y=some .free:=l
  rcases l with l|l
  ·exact Tc l
  ·exact absurd rfl (S.nofree _ (PySem.mem_of_lookup l))
 ·exact bt (x.above y c (PySem.mem_of_lookup h))
 ·have B:i<vs.length:=by
   unfold start at d
   by_cases B:i<vs.length
   ·exact B
   ·rw[av (by simpa using B)]at d
    rw[bw]at d
    split at d<;>cases d
  have M:vs[i]? =some v:=by
   unfold start at d;rw[ai (by simpa using B),aw]at d
   cases e:vs[i]? with
   |none=>rw[e]at d;cases d|some a=>rw[e]at d;cases d;rfl
  obtain⟨u,D,J⟩:=r.get M;have t:ps[i]? =some y:=by
   rw[<- S.pre,List.getElem?_take_of_lt (by omega)];exact C
  have o:ps.Nodup:=by rw[<- S.pre];exact S.nd.sublist (List.take_sublist _ _)
  refine⟨u,J,?_⟩;rcases S.par y (bE t) with k|k
  ·exact .inl ⟨k,UO o t D k⟩
  ·obtain⟨c,e⟩:=Tc (n:=s.heap.objs.size+1) k
   refine .inr ⟨.inl k,c,e,?_⟩;have q:=x.cell y c e;rw[UN o t D (by show scope.names.lookup y≠_;rw[k];decide)]at q
   exact q
 ·exact g.hok.fresh (bt (x.above y c (PySem.mem_of_lookup h)))
 ·unfold start
  show _=N.length;rw[aD,ah,bC];omega
def Xm {C:wZ}{K:Frag}{name:Str}{params:Arguments}{D kV doc pm c ct M:Value}{an L:bZ}
  {sp:Sp}(lk:K.lookup f=some ⟨M,L,.func (fnOf name qual params body scope D kV doc pm an c ct),osl⟩)(B:codeIn K c qual=true)(S:jJ N ps scope)
  (len:∀vs H Q E,sp vs H Q E->vs.length=ps.length)
  (g:∀(A:Around)(outer:bW)(s:Shared)(H:Hp)(vs:List V)(Q:VK)(E:XK),jD k (A.deeper (envOfC qual scope s.heap.objs.size f c))->sp vs H Q E->
   ∃t,yr (wk C P w K mg base N qual scope f c A outer s H E) body t/\t { nx:=λ_ h=>Q .non h,rt:=Q } (start N vs) H):
  yv P w K mg base C (k+1) f (fnOf name qual params body scope D kV doc pm an c ct) ps sp:=by
 refine⟨len,λA outer s H args us vs Q E z j hb r p=>?_⟩;have Z:=len _ _ _ _ p;have X:K.In s.heap:=j.mod.kin.keeps λb o e=>(j.bs b o e).1;have lim:s.heap.NoLimit:=j.mod.nolimit.keeps λb o e=>(j.bs b o e).1;have d:∀y∈ps.zip us,scope.names.lookup y.1=some .local∨(scope.names.lookup y.1=some .cell/\((cellsFrom (s.heap.objs.size+1) scope.names []).lookup y.1).isSome=true):=λ⟨n,v⟩ T=>by
  rcases S.par n (of_mem_zip T).1 with q|q
  ·exact .inl q
  ·exact .inr ⟨q,cellsFrom_some _ _ _ (.inl q)⟩
 refine codeAny_call_function z.depth (X _ _ lk) rfl S.co S.gen rfl (PySem.W.codeRec_of X B) (hb _ _ _ _ ?_);refine wpAny_newFunctionEnv_cells S.kind d λenv he s1 x=>?_;subst he;refine⟨lim.keeps x.toInCall.keep,codeAny_func ?_⟩;obtain⟨t,U,Y⟩:=g A outer s H vs Q E (z.deeper _) p;have I:Inv (wk C P w K mg base N qual scope f c A outer s H E) [] (start N vs) H s1:=Mb S z.hd j Z r x;refine wpAny_mono (U [] s1 (start N vs) H _ I Y) (λfl s' i=>?_) λe s' i=>i;have fin:∀{a:St}{h:Hp}{v:V}{u:Value},Inv (wk C P w K mg base N qual scope f c A outer s H E) [] a h s'->RelV v u->Q v h->CE outer P w H s Q u s':=
  λ {a h v u} J l q=>⟨v,h,J.os,J.bare,J.base,J.hok,l,q⟩
 cases fl with
 |ret u=>
  obtain⟨v,a,h,J,l,q⟩:=i;exact fin J l q
 |next=>
  obtain⟨a,h,J,q⟩:=i;exact fin (v:=V.non) (u:=Value.none) J rfl q
 |brk=>
  obtain⟨_,_,_,q⟩:=i;exact False.elim q
 |cont=>
  obtain⟨_,_,_,q⟩:=i;exact False.elim q
section
variable {X:Cx}{es:bT}{t:TA}{id T:String}{r:List V->Hp->VK->Prop}
noncomputable def Wg (r:List V->Hp->VK->Prop)(t:TA):TE:=λσ H Q=>t σ H λvs H1=>r vs H1 Q
def ZF (c:jQ X (.builtin id) r)(g:Gl X x)(hm:X.mg x=none)(v:bootBuiltins x=some (.builtin id))(d:PA X (e::es) t)(hn:x ≠ "__name__":=by decide)(b:(x==("__debug__":Str))=false:=by decide)
  (he:starEach (e::es) X.env=(false,eval e X.env)::starEach es X.env:=by rfl)(l:(backTo pos (starEach es X.env)).any (·.1)=false:=by rfl):PE X (.Call (.Name x p) (e::es) [] pos) (Wg r t):=by
 intro pins s σ H Q I h;refine wpAny_Call_Name_kw (ZT I g hm v ?_ hn b);exact PyProof.Rows.callWith_builtin1 (zP (d pos pins s σ H _ I h) λus s1 ⟨vs,H1,i,a,q⟩=>c pins s1 σ H1 vs us Q i a q) he l
def QZ (c:jQ X (.type T) r)(g:Gl X x)(hm:X.mg x=none)(v:bootBuiltins x=some (.type T))(d:PA X (e::es) t)(hn:x ≠ "__name__":=by decide)(b:(x==("__debug__":Str))=false:=by decide)
  (he:starEach (e::es) X.env=(false,eval e X.env)::starEach es X.env:=by rfl)(l:(backTo pos (starEach es X.env)).any (·.1)=false:=by rfl):PE X (.Call (.Name x p) (e::es) [] pos) (Wg r t):=by
 intro pins s σ H Q I h;refine wpAny_Call_Name_kw (ZT I g hm v ?_ hn b);exact PyProof.Rows.callWith_type1 (zP (d pos pins s σ H _ I h) λus s1 ⟨vs,H1,i,a,q⟩=>c pins s1 σ H1 vs us Q i a q) he l
end
end L2
variable {X:L2.Cx}{H:L2.Hp}{vs xs ys:List L2.V}{r:List L2.V->L2.Hp->L2.VK->Prop}{σ:L2.St}{v:L2.V}
namespace HT
open PySem PyProof.Rows
section
open PySem.SeqAt
open PySem.AutoSeq1 (wpAny_loadPart')
open PySem.MeetsSeq PySem.MeetsSeq2 PySem.MeetsSeq3
end
section
variable {prog:Program}{A:Around}
def Fo {t:Addr}{vs ws:bN}(a:IsTup s.heap t vs.toArray)(f:IsTup s.heap b ws.toArray)(v:vs≠[])
  (i:ws=[]->Q (.ref t) s)(g:ws≠[]->Q (.ref s.heap.objs.size) { s with heap:=s.heap.push { cls:=.type "tuple",data:=.seq (vs++ws).toArray } })
  (z:vs.length+ws.length<=sizeLine):wpAny (model prog w) A (binaryOp .Add (.ref t) (.ref b)) Q E s:=by
 obtain⟨⟨cls,dd,data,l⟩,o,c,n,hd⟩:=id a;obtain⟨⟨C,d,data2,S⟩,h,H,N,hd2⟩:=id f;simp only at c hd H hd2;subst c hd H hd2;have e:vs.toArray++ws.toArray=(vs++ws).toArray:=by simp
 by_cases hw:ws=[]
 ·exact concat_meets ⟨_,o,rfl⟩ ⟨_,h,rfl⟩ noFill_tuple_add seq_tuple_add slot_tuple_add entry_tuple_add (args_tuple_add_2 _ _)
   (tuple_addW1 t b vs.toArray ws.toArray n N dd d l S (by simpa using v) (by simp[hw])) ⟨o,h,i hw⟩
 ·refine concat_meets ⟨_,o,rfl⟩ ⟨_,h,rfl⟩ noFill_tuple_add seq_tuple_add slot_tuple_add entry_tuple_add (args_tuple_add_2 _ _)
   (tuple_addW2 t b vs.toArray ws.toArray n N dd d l S (by simpa using v) (by simpa using hw) (by rw[aE,aE];exact z)) ⟨o,h,?_⟩
  rw[e];exact g hw
noncomputable def j9 (n d:Nat):Option Int->Nat
 |none=>d|some v=>if v<0 then(v+(n:Int)).toNat else min v.toNat n
def So (n d k:Nat):j9 n d (some (k:Int))=min k n:=by
 show(if (k:Int)<0 then((k:Int)+(n:Int)).toNat else min (k:Int).toNat n)=min k n;rw[ar (by omega),aM]
end
end HT
namespace L2
open PySem PySem.Spec PyProof.Rows
abbrev TO:=St->Hp->(Option Int->Hp->Prop)->Prop
def PO (X:Cx)(e:Option Expr)(t:TO):Prop:=
 ∀(pins:bP)(s:Shared)(σ:St)(H:Hp)(Q:Option Int->Hp->Prop),Inv X pins σ H s->t σ H Q->
  wpAny (model X.prog X.w) X.A (evalPart e X.env) (λu s'=>∃o h,Inv X pins σ h s'/\IsPart u o/\Q o h) X.xe s
noncomputable def HV:TO:=λ_ H Q=>Q none H
noncomputable def DN (t:TE):TO:=λσ H Q=>t σ H λx H1=>∃i,x=.int i/\Q (some i) H1
section
variable {te:TE}{lo hi:Option Expr}{tl th:TO}{p2:Pos}
def IK:PO X none HV:=by
 intro pins s σ H Q I h;rw[evalPart_none];exact cb ⟨none,H,I,.none,h⟩
def IJ (h:PE X e te):PO X (some e) (DN te):=by
 intro pins s σ H Q I hw;rw[evalPart_some];refine zP (h pins s σ H _ I hw) λu s1 ⟨x,H1,b,r,a⟩=>?_;obtain⟨i,rfl,q⟩:=a;obtain⟨t,rfl⟩:=r;exact⟨some i,H1,b,.int i t,q⟩
def X7 (X:Cx)(r:V->Option Int->Option Int->Hp->VK->Prop):Prop:=
 ∀(pins:bP)(s:Shared)(σ:St)(H:Hp)(x:V)(v l u:Value)(lo hi:bU)(S:Addr)(Q:VK),Inv X pins σ H s->RelV x v->s.heap.IsSliceOf S l u .none->IsPart l lo->IsPart u hi->r x lo hi H Q->
  ∃T id,typeLookup (.type T) "__getitem__"=pure (some (.builtin id))/\s.TypeIs v T/\wpAny (model X.prog X.w) X.A (getItem v (.ref S)) (EP X pins σ Q) X.xe s
noncomputable def Bz (r:V->Option Int->Option Int->Hp->VK->Prop)(T:TE)(t th:TO):TE:=λσ H Q=>T σ H λx H1=>t σ H1 λl a=>th σ a λu h=>r x l u h Q
def U9 {r:V->Option Int->Option Int->Hp->VK->Prop}(n:X7 X r)(he:PE X e te)(o:PO X lo tl)(k:PO X hi th):PE X (.Subscript e (.Slice lo hi none p2) pos) (Bz r te tl th):=by
 intro pins s σ H Q I h;refine Subscript_ (zP (he pins s σ H _ I h) λv s1 ⟨x,H1,D,f,j⟩=>?_);refine wpAny_Slice (zP (o pins s1 σ H1 _ D j) λc s2 ⟨l,E,C,p,i⟩=>zP (k pins s2 σ E _ C i) λa s3 ⟨u,d,B,pu,g⟩=>?_);rw[evalPart_none];refine cb ?_;have z:Inv X pins σ d { s3 with heap:=s3.heap.push { cls:=.type "slice",data:=.fields #[c,a,.none] } }:=B.kept (t':=s3.toks) λb ob q=>af _ q
 obtain⟨T,id,hT,t,y⟩:=n pins { s3 with heap:=s3.heap.push { cls:=.type "slice",data:=.fields #[c,a,.none] } } σ d x v c a l u s3.heap.objs.size Q z f (Heap.IsSliceOf.new ..) p pu g
 show wpAny (model X.prog X.w) X.A (subscriptTail e (.Slice lo hi none p2) v (.ref s3.heap.objs.size)) (EP X pins σ Q) X.xe { s3 with heap:=s3.heap.push { cls:=.type "slice",data:=.fields #[c,a,.none] } }
 exact tail_any (ops:=[.ref s3.heap.objs.size,v]) t hT y (by with_unfolding_all rfl)
noncomputable def Ju (xs:List V)(lo h:bU):List V:=(xs.drop (HT.j9 xs.length 0 lo)).take (HT.j9 xs.length xs.length h-HT.j9 xs.length 0 lo)
def OV (xs:List V)(lo h:bU):(Ju xs lo h).length<=xs.length:=by
 unfold Ju;rw[bo,length_drop];omega
def RI (K:Frag):R2:=λx y H Q=>∃a b xs ys,x=.ref a/\y=.ref b/\qy K H a xs/\qy K H b ys/\xs≠[]/\xs.length+ys.length<=sizeLine/\
 (ys=[]->Q (.ref a) H)/\(ys≠[]->∀p,H p=none->Q (.ref p) (upd H p (.tup (xs++ys))))
def Vals.nil_iff (r:Vals xs us):us=[]↔xs=[]:=by
 cases r with
 |nil=>simp|cons _ _=>simp
def Fg:qH X (binaryOp .Add) (RI X.K):=by
 intro pins s σ H x y v u Q I f e h;obtain⟨a,b,xs,ys,rfl,rfl,t,n,l,d,j,g⟩:=h;cases f;cases e;obtain⟨k,c,P,_⟩:=I.tuple t;obtain⟨i,r,p,_⟩:=I.tuple n;refine HT.Fo P p (λz=>l (c.nil_iff.mp z)) (λz=>⟨.ref a,H,I,rfl,j (r.nil_iff.mp z)⟩) (λz=>?_) (by rw[<- c.length,<- r.length];exact d)
 refine⟨.ref s.heap.objs.size,_,I.laid (t':=s.toks) (o:=.tup (xs++ys)) (λb ob q=>af _ q) (au _) ?_,rfl,g (λw=>z (r.nil_iff.mpr w)) _ (I.hok.fresh (au _))⟩;exact⟨by rw[aD];exact d,_,c.append r,Qq.new _ _⟩
end
noncomputable def wx (n:Nat)(i:Int):Option Nat:=if 0<=i then(if i<n then some i.toNat else none) else if -(n:Int)<=i then some (i+n).toNat else none
def ko (xs:List α)(i:Int):Option α:=(wx xs.length i).bind λj=>xs[j]?
def TU {i:Int}(h:wx n i=some j):seqIndex? i n=some j/\j<n/\-(n:Int)<=i/\i<n:=by
 unfold wx at h
 by_cases h0:0<=i
 ·rw[ag h0]at h
  by_cases h1:i<n
  ·rw[ag h1]at h
   have e:i.toNat=j:=aB h;exact⟨by rw[seqIndex_of h0 h1,e],by omega,by omega,h1⟩
  ·rw[ar h1]at h;cases h
 ·rw[ar h0]at h
  by_cases h1:-(n:Int)<=i
  ·rw[ag h1]at h
   have e:(i+n).toNat=j:=aB h;exact⟨by rw[seqIndex_neg (by omega) h1,e],by omega,h1,by omega⟩
  ·rw[ar h1]at h;cases h
def GO {xs:List α}{i:Int}{v:α}(h:ko xs i=some v):∃j,seqIndex? i xs.length=some j/\xs[j]? =some v/\j<xs.length/\-(xs.length:Int)<=i/\i<xs.length:=by
 unfold ko at h;cases e:wx xs.length i with
 |none=>rw[e]at h;cases h|some j=>
  rw[e]at h;obtain⟨c,b,a,H⟩:=TU e;exact⟨j,c,h,b,a,H⟩
def Kg {xs:List α}{v:α}(h:xs[j]? =some v):ko xs (j:Int)=some v:=by
 have H:j<xs.length:=(cg.mp h).1;have e:wx xs.length (j:Int)=some j:=by
  unfold wx;rw[ag (by omega),ag (by omega)];simp
 unfold ko;rw[e];exact h
def Si (b:Expr):Prop:=∀o i,subscripted b false o i=operate [o,i] (getItem o i)
def Zo (X:Cx)(r:R2):Prop:=
 ∀(value slice:Expr)(pins:bP)(s:Shared)(σ:St)(H:Hp)(x y:V)(v u:Value)(Q:VK),Inv X pins σ H s->RelV x v->RelV y u->r x y H Q->
  subscripted slice false v u=operate [v,u] (getItem v u)->wpAny (model X.prog X.w) X.A (subscriptTail value slice v u) (EP X pins σ Q) X.xe s
def QK (X:Cx)(id:String)(r:V->List V->Hp->VK->Prop):Prop:=
 ∀(pins:bP)(s:Shared)(σ:St)(H:Hp)(x:V)(xs:List V)(v:Value)(us:bN)(Q:VK),Inv X pins σ H s->RelV x v->Vals xs us->r x xs H Q->
  wpAny (model X.prog X.w) X.A (call (.builtin id) (v::us)) (EP X pins σ Q) X.xe s
section
variable {a b:Expr}{ta tb:TE}
def Zo.or {r c:R2}(h:Zo X r)(h':Zo X c):Zo X (λx y H Q=>r x y H Q∨c x y H Q):=by
 intro value slice pins s σ H x y v u Q I b a q d;rcases q with q|q
 ·exact h value slice pins s σ H x y v u Q I b a q d
 ·exact h' value slice pins s σ H x y v u Q I b a q d
def DS {r:R2}(f:Zo X r)(i:PE X a ta)(g:PE X b tb)(e:Si b):PE X (.Subscript a b pos) (Jx r ta tb):=by
 intro pins s σ H Q I h;exact Subscript_ (KN i g I h λv u s2 x y k j d c q=>f a b pins s2 σ k x y v u Q j d c q (e _ _))
def RT (K:Frag):R2:=λx y H Q=>∃p xs i v,x=.ref p/\y=.int i/\qN K H p xs/\ko xs i=some v/\Q v H
def R0 (K:Frag):R2:=λx y H Q=>∃p xs i v,x=.ref p/\y=.int i/\qy K H p xs/\ko xs i=some v/\Q v H
def RR:R2:=λx y H Q=>∃z i c,x=.str z/\y=.int i/\z.length<=sizeLine/\ko z.cps.toList i=some c/\Q (.str ⟨#[c]⟩) H
def Hr:Zo X (RT X.K):=by
 intro value slice pins s σ H x y v u Q I g f h e;obtain⟨p,xs,i,z,rfl,rfl,k,he,q⟩:=h;cases g;obtain⟨t,rfl⟩:=f;obtain⟨c,r,P,B⟩:=I.list k;obtain⟨j,a,A,C,o,n⟩:=GO he;obtain⟨w,E,b⟩:=r.get A;have l:=r.length;have hn:=Ya;have fin:EP X pins σ Q w s:=⟨z,H,I,b,q⟩
 by_cases h0:0<=i
 ·have d:i.toNat=j:=by
   rw[seqIndex_of h0 n]at a;exact aB a
  exact item_listR P.isList h0 (by omega) (by rw[d];simpa using E) fin e
 ·have d:(i+(c.toArray.size:Int)).toNat=j:=by
   rw[seqIndex_neg (by omega) o]at a
   rw[aE,<- l];exact aB a
  exact subscriptTail_builtinR (x:=w) P.isList.typeIs slot_list_getitem.lookup
   (wpAny_getItem_list_neg (Q:=λr s'=>r=w/\EP X pins σ Q r s') P.isList (by omega) (by rw[aE]<;>omega) (by omega) (by rw[d];simpa using E) ⟨rfl,fin⟩) e
def FU:Zo X (R0 X.K):=by
 intro value slice pins s σ H x y v u Q I c b h e;obtain⟨p,xs,i,z,rfl,rfl,f,he,q⟩:=h;cases c;obtain⟨t,rfl⟩:=b;obtain⟨d,r,P,n⟩:=I.tuple f;obtain⟨j,k,g,B,A,o⟩:=GO he;obtain⟨w,E,a⟩:=r.get g;have l:=r.length;have hn:=Ya;have fin:EP X pins σ Q w s:=⟨z,H,I,a,q⟩;exact subscriptTail_builtinR (x:=w) P.typeIs slot_tuple_getitem.lookup
  (getItem_tuple (j:=j) (Q:=λr s'=>r=w/\EP X pins σ Q r s') P (by omega) (by omega) (by rw[aE,<- l];exact k) (by simpa using E) ⟨rfl,fin⟩) e
def EW:Zo X RR:=by
 intro value slice pins s σ H x y v u Q I b r h d;obtain⟨z,i,c,rfl,rfl,n,he,q⟩:=h;obtain⟨t,rfl⟩:=b;obtain⟨t',rfl⟩:=r;obtain⟨j,a,g,o,f,e⟩:=GO he;have l:z.cps.toList.length=z.length:=by simp[Str.length]
 rw[l]at a f e;have hn:=Ya;exact tail_any (typeIs_str s z t) slot_str_getitem.lookup (getItem_str (c:=c) (by
  have k:decide (i < -(2 ^ 63:Int))=false:=ay (by omega)
  have E:decide (i ≥ 2 ^ 63)=false:=ay (by omega)
  rw[k,E,Bool.or_false]) (by rw[a];simpa using g) ⟨.str ⟨#[c]⟩,H,I.tok _,⟨_,rfl⟩,q⟩) d
def Pb (K:Frag):R2:=λx y H Q=>RT K x y H Q∨R0 K x y H Q∨RR x y H Q
def Ej:Zo X (Pb X.K):=Hr.or (FU.or EW)
def Nh (i:bN)(n j:Nat)(u:Value):Obj.mapSeq (·.setIfInBounds j u) { cls:=.type "list",data:=.seq i.toArray n }={ cls:=.type "list",data:=.seq (i.set j u).toArray n }:=by
 simp[Obj.mapSeq]
theorem Inv.lst {pins:bP}{σ:St}{H:Hp}{s:Shared}{p:Addr}{xs:List V}(I:Inv X pins σ H s)(h:H p=some (.lst xs)):
  ∃(i:bN) (n:Nat),Vals xs i/\s.heap.get? p=some { cls:=.type "list",data:=.seq i.toArray n }/\xs.length<=sizeLine:=by
 obtain⟨z,i,n,r,e⟩:=I.hok p _ h;exact⟨i,n,r,e,z⟩
def Inv.lstUpd {p:Addr}{its':bN}{N:Nat}{f:Obj->Obj}(I:Inv X pins σ H s)(h:H p=some (.lst xs))
  (o:s.heap.get? p=some { cls:=.type "list",data:=.seq its.toArray n })(hf:f { cls:=.type "list",data:=.seq its.toArray n }={ cls:=.type "list",data:=.seq its'.toArray N })(r:Vals ys its')(z:ys.length<=sizeLine)(t:Nat):
  Inv X pins σ (upd H p (.lst ys)) { s with heap:=s.heap.update p f,toks:=t }:=by
 have e:(s.heap.update p f).get? p=some { cls:=.type "list",data:=.seq its'.toArray N }:=by
  rw[aY f o (by rw[hf]<;>rfl),hf]
 refine I.write (x:=p) (e:=p) (by rw[h];trivial) (.inl rfl) (λb u a q=>(aV _ _ (Ne.symm a)).trans q) ⟨_,e⟩ ?_
 exact⟨z,its',N,r,e⟩
def Rq:V->V->V->Hp->(Hp->Prop)->Prop:=λo i v H Q=>∃p xs k j,o=.ref p/\i=.int k/\H p=some (.lst xs)/\wx xs.length k=some j/\Q (upd H p (.lst (xs.set j v)))
def set_list:XJ X Rq:=by
 intro pins s σ H o i v B C u Q I ro y x h;obtain⟨p,xs,k,j,rfl,rfl,e,A,q⟩:=h;cases ro;obtain⟨t,rfl⟩:=y;obtain⟨a,n,r,c,z⟩:=I.lst e;obtain⟨b,D,g,f⟩:=TU A;have l:=r.length;have hn:=Ya;have w:Inv X pins σ (upd H p (.lst (xs.set j v))) { s with heap:=s.heap.update p (Obj.mapSeq (·.setIfInBounds j u)) }:=
  I.lstUpd e c (Nh a n j u) (r.set x j) (by rw[length_set];exact z) s.toks
 by_cases h0:0<=k
 ·have d:k.toNat=j:=by
   rw[seqIndex_of h0 f]at b;exact aB b
  exact PySem.W.ki_setAt c h0 (by omega) (by rw[aE,<- l];exact f) (by rw[d];exact⟨_,w,q⟩)
 ·have d:(k+(a.toArray.size:Int)).toNat=j:=by
   rw[seqIndex_neg (by omega) g]at b
   rw[aE,<- l];exact aB b
  exact PySem.W.ki_setBack c (by omega) (by rw[aE,<- l];exact g) (by omega) (by rw[d];exact⟨_,w,q⟩)
def OP (lo H:bU)(n:Nat):(sliceBounds lo H none n).1=((HT.j9 n 0 lo:Nat):Int)/\(sliceBounds lo H none n).2.1=((HT.j9 n n H:Nat):Int)/\(sliceBounds lo H none n).2.2=1:=by
 refine⟨?_,?_,rfl⟩
 ·cases lo with
  |none=>simp[sliceBounds,HT.j9]|some i=>
   simp only[sliceBounds,HT.j9,getD_none,show(1:Int) > 0 by decide,if_true]
   by_cases h:i<0
   ·simp only[h,if_true]<;>omega
   ·simp only[h,if_false]<;>omega
 ·cases H with
  |none=>simp[sliceBounds,HT.j9]|some i=>
   simp only[sliceBounds,HT.j9,getD_none,show(1:Int) > 0 by decide,if_true]
   by_cases h:i<0
   ·simp only[h,if_true]<;>omega
   ·simp only[h,if_false]<;>omega
def Ol (i:bN)(lo h:bU):slicePick i.toArray lo h none=((i.drop (HT.j9 i.length 0 lo)).take (HT.j9 i.length i.length h-HT.j9 i.length 0 lo)).toArray:=by
 obtain⟨b,a,H⟩:=OP lo h i.toArray.size;unfold slicePick;rw[b,a,H];simp only[sliceRange_one,pick_run,aE]<;>rfl
def Bt (K:Frag):V->Option Int->Option Int->Hp->VK->Prop:=λx lo h H Q=>∃a xs,x=.ref a/\qN K H a xs/\∀p,H p=none->Q (.ref p) (upd H p (.lst (Ju xs lo h)))
def IC:X7 X (Bt X.K):=by
 intro pins s σ H x v l u lo i S Q I c f p pu h;obtain⟨a,xs,rfl,e,q⟩:=h;cases c;obtain⟨d,r,t,z⟩:=I.list e;have hlen:=r.length;refine⟨"list",_,slot_list_getitem.lookup,t.isList.typeIs,?_⟩;refine wpAny_getItem_list_slice t.isList f p pu .none (by simp) ?_ (by rw[aE]<;>omega)
 rw[Ol,<- hlen];refine⟨.ref s.heap.objs.size,_,I.laid (t':=s.toks) (o:=.lst (Ju xs lo i)) (λb ob q=>af _ q) (au _) ?_,rfl,q _ (I.hok.fresh (au _))⟩;exact⟨aQ (OV xs lo i) z,_,0,(r.drop (HT.j9 xs.length 0 lo)).take (HT.j9 xs.length xs.length i-HT.j9 xs.length 0 lo),aq _ rfl⟩
noncomputable def gL:V->Bool
 |.non=>true|.bl _=>true|.int _=>true|.str _=>true|_=>false
noncomputable def Zs:V->V->Bool
 |.non,.non=>true|.bl a,.bl b=>a==b|.bl a,.int b=>(if a then 1 else 0)==b|.int a,.bl b=>a==(if b then 1 else 0)|.int a,.int b=>a==b|.str a,.str b=>a==b|_,_=>false
def EA {A:Around}{y x:V}{v:Value}(c:RelV y u)(r:RelV x v)(d:gL y=true)(f:gL x=true):SeqAt.EqAt A s u v (Zs y x):=by
 cases y with
 |non=>
  cases c;cases x with
  |non=>cases r;exact SeqAt.EqAt.same _|bl b=>cases r;exact SeqAt.EqAt.none_bool b|int b=>obtain⟨t,rfl⟩:=r;exact SeqAt.EqAt.none_int b t|str b=>obtain⟨t,rfl⟩:=r;exact SeqAt.EqAt.none_str b t|_=>exact absurd (show false=true from f) aA
 |bl a=>
  cases c;cases x with
  |non=>cases r;exact SeqAt.EqAt.bool_none a|bl b=>cases r;exact SeqAt.EqAt.bool_bool a b|int b=>obtain⟨t,rfl⟩:=r;exact SeqAt.EqAt.bool_int a b t|str b=>obtain⟨t,rfl⟩:=r;exact SeqAt.EqAt.bool_str a b t|_=>exact absurd (show false=true from f) aA
 |int a=>
  obtain⟨t',rfl⟩:=c;cases x with
  |non=>cases r;exact SeqAt.EqAt.int_none a t'|bl b=>cases r;exact SeqAt.EqAt.int_bool a t' b|int b=>obtain⟨t,rfl⟩:=r;exact SeqAt.EqAt.int_int a t' b t|str b=>obtain⟨t,rfl⟩:=r;exact SeqAt.EqAt.int_str a t' b t|_=>exact absurd (show false=true from f) aA
 |str a=>
  obtain⟨t',rfl⟩:=c;cases x with
  |non=>cases r;exact SeqAt.EqAt.str_none a t'|bl b=>cases r;exact SeqAt.EqAt.str_bool a t' b|int b=>obtain⟨t,rfl⟩:=r;exact SeqAt.EqAt.str_int a t' b t|str b=>obtain⟨t,rfl⟩:=r;exact SeqAt.EqAt.str_str a t' b t|_=>exact absurd (show false=true from f) aA
 |_=>exact absurd (show false=true from d) aA
def Zu (x:V)(u:Value):Bool:=match u with
 |.none=>Zs .non x|.bool b=>Zs (.bl b) x|.int i _=>Zs (.int i) x|.str z _=>Zs (.str z) x|_=>false
def Su {x y:V}(r:RelV y u)(f:gL y=true):Zu x u=Zs y x:=by
 cases y with
 |non=>cases r;rfl|bl b=>cases r;rfl|int i=>obtain⟨t,rfl⟩:=r;rfl|str z=>obtain⟨t,rfl⟩:=r;rfl|_=>exact absurd (show false=true from f) aA
theorem GJ {x:V}:∀{xs:List V}{us:bN},Vals xs us->xs.all gL=true->us.any (Zu x)=xs.any λy=>Zs y x
 |_,_,.nil,_=>rfl|y::xs,u::us,.cons r t,f=>by
  rw[List.all_cons,aj]at f;rw[any_cons,any_cons,Su r f.1,GJ t f.2]
theorem Gq {A:Around}{x:V}{v:Value}(a:RelV x v)(b:gL x=true):∀{xs:List V}{us:bN},Vals xs us->xs.all gL=true->∀u∈us,SeqAt.EqAt A s u v (Zu x u)
 |_,_,.nil,_=>λu h=>by cases h|y::xs,u::us,.cons r t,f=>λU h=>by
  rw[List.all_cons,aj]at f;rcases cc.mp h with rfl|h
  ·rw[Su r f.1];exact EA r a f.1 b
  ·exact Gq a b t f.2 U h
def Ws (x:V)(xs:List V):Bool:=xs.any λy=>Zs y x
def R9 (K:Frag)(neg:Bool):R2:=λx y H Q=>∃p xs,y=.ref p/\(qN K H p xs∨qy K H p xs)/\gL x=true/\xs.all gL=true/\Q (.bl (if neg then !Ws x xs else Ws x xs)) H
def My:qH X (compareOp .In) (R9 X.K false):=by
 intro pins s σ H x y v u Q I b c h;obtain⟨p,xs,rfl,a,f,fs,q⟩:=h;cases c;rcases a with a|a
 ·obtain⟨i,r,P,z⟩:=I.list a
  refine SeqAt.in_listAt (Zu x) P.isList (λw hw=>Gq b f r fs w (by simpa using hw)) ⟨.bl _,H,I,rfl,?_⟩
  rw[show i.toArray.any (Zu x)=i.any (Zu x) by simp,GJ r fs]
  exact q
 ·obtain⟨i,r,P,z⟩:=I.tuple a
  refine SeqAt.in_tupleAt (Zu x) P (λw hw=>Gq b f r fs w (by simpa using hw)) ⟨.bl _,H,I,rfl,?_⟩
  rw[show i.toArray.any (Zu x)=i.any (Zu x) by simp,GJ r fs]
  exact q
def OC:jQ X (.builtin "len") (λxs H Q=>∃p ys,xs=[.ref p]/\(qN X.K H p ys∨qy X.K H p ys)/\Q (.int ys.length) H):=by
 intro pins s σ H xs us Q I r h;obtain⟨p,ys,rfl,a,q⟩:=h;obtain⟨u,rfl,x⟩:=vals1 r;cases x;have hn:=Ya;rcases a with a|a
 ·obtain⟨i,b,P,z⟩:=I.list a
  have hlen:=b.length;exact Calls.call_len_list P.isList (by simp only[aE]<;>omega) ⟨.int ys.length,H,I.tok _,⟨s.toks+1,by rw[aE,hlen]⟩,q⟩
 ·obtain⟨i,b,P,z⟩:=I.tuple a
  have hlen:=b.length;exact len_tuple P (by simp only[aE]<;>omega) ⟨.int ys.length,H,I.tok _,⟨s.toks+1,by rw[aE,hlen]⟩,q⟩
def OB:jQ X (.type "list") (λxs H Q=>∃p ys,xs=[.ref p]/\(qN X.K H p ys∨qy X.K H p ys)/\∀l,H l=none->Q (.ref l) (upd H l (.lst ys))):=by
 intro pins s σ H xs us Q I r h;obtain⟨p,ys,rfl,d,q⟩:=h;obtain⟨u,rfl,x⟩:=vals1 r;cases x;have fin:∀(its:bN),Vals ys its->ys.length<=sizeLine->∀(h':Heap)(c:Nat),(∀b o',s.heap.get? b=some o'->h'.get? b=some o')->
   h'.get? s.heap.objs.size=some { cls:=.type "list",dict:=none,data:=.seq its.toArray c,slots:=#[] }->EP X pins σ Q (.ref s.heap.objs.size) { s with heap:=h' }:=λits a z h' c kp e=>
  ⟨.ref s.heap.objs.size,_,I.laid (t':=s.toks) kp (au _) (show jb X.prog X.w _ h' _ (.lst ys) from ⟨z,its,c,a,e⟩),rfl,q _ (I.hok.fresh (au _))⟩
 rcases d with d|d
 ·obtain⟨its,a,P,z⟩:=I.list d
  have hlen:=a.length;obtain⟨o,f,g,n,hd⟩:=P.isList;exact call_list_seq p (.inl rfl) f g hd (λh' c kp e=>fin its a z h' c kp e) (by simp only[aE]<;>omega)
 ·obtain⟨its,a,P,z⟩:=I.tuple d
  have hlen:=a.length;obtain⟨o,f,g,n,hd⟩:=P;exact call_list_seq p (.inr rfl) f g hd (λh' c kp e=>fin its a z h' c kp e) (by simp only[aE]<;>omega)
def Og:jQ X (.type "tuple") (λxs H Q=>∃p ys,xs=[.ref p]/\((qN X.K H p ys/\∀l,H l=none->Q (.ref l) (upd H l (.tup ys)))∨(qy X.K H p ys/\Q (.ref p) H))):=by
 intro pins s σ H xs us Q I r h;obtain⟨p,ys,rfl,h⟩:=h;obtain⟨u,rfl,x⟩:=vals1 r;cases x;rcases h with ⟨c,q⟩|⟨c,q⟩
 ·obtain⟨i,a,P,z⟩:=I.list c
  have hlen:=a.length;refine call_tuple_list P.isList (λh' kp=>?_) (by simp only[aE]<;>omega)
  have d:Inv X pins σ H { s with heap:=h' }:=I.kept (t':=s.toks) kp
  have f:Inv X pins σ (upd H h'.objs.size (.tup ys)) { s with heap:=h'.push { cls:=.type "tuple",data:=.seq i.toArray } }:=
   d.laid (t':=s.toks) (λb o e=>af _ e) (au _) (show jb X.prog X.w _ _ _ (.tup ys) from ⟨z,i,a,Qq.new _ _⟩)
  exact⟨.ref h'.objs.size,_,f,rfl,q _ (d.hok.fresh (au _))⟩
 ·obtain⟨i,a,P,z⟩:=I.tuple c
  exact call_tuple_same P ⟨.ref p,H,I,rfl,q⟩
def Vb (K:Frag)(T:String)(x:V)(H:Hp):Prop:=match x with
 |.str _=>T = "str"
 |.int _=>T = "int"
 |.ref p=>(T = "list" /\ ∃xs,qN K H p xs)∨(T = "tuple" /\ ∃o,K.lookup p=some o/\o.cls=.type "tuple" /\ o.dict=none)∨
   (T = "dict" /\ ((∃k,H p=some (.dK k))∨∃k,H p=some (.dT k)))∨(T = "set" /\ ∃S n,H p=some (.set S n))
 |_=>False
def F1 {T:String}{x:V}{v:Value}(I:Inv X pins σ H s)(r:RelV x v)(ty:Vb X.K T x H):
  s.TypeIs v T/\∀a,v=.ref a->∃ob,s.heap.get? a=some ob/\ob.dict=none:=by
 cases x with
 |str z=>
  obtain⟨t,rfl⟩:=r;cases (show T = "str" from ty)
  exact⟨typeIs_str s z t,λ_ e=>nomatch e⟩
 |int i=>
  obtain⟨t,rfl⟩:=r;cases (show T = "int" from ty)
  exact⟨typeIs_int s i t,λ_ e=>nomatch e⟩
 |ref p=>
  cases r;rcases ty with ⟨rfl,xs,q⟩|⟨rfl,o,h,d,hd⟩|⟨rfl,h⟩|⟨rfl,S,n,h⟩
  ·obtain⟨b,_,P,_⟩:=I.list q
   refine⟨P.isList.typeIs,λa e=>?_⟩;cases e;obtain⟨o,n,e,c,hd,_⟩:=P;exact⟨o,e,hd⟩
  ·refine⟨⟨o,I.kIn p o h,d⟩,λa e=>?_⟩
   cases e;exact⟨o,I.kIn _ o h,hd⟩
  ·have z:∃o,s.heap.get? p=some o/\o.ExactDict:=by
    rcases h with ⟨k,h⟩|⟨k,h⟩
    ·obtain⟨_,_,_,_,o,_,_,e,ex,_⟩:=I.hok p _ h
     exact⟨o,e,ex⟩
    ·obtain⟨_,_,_,_,o,_,_,e,ex,_⟩:=I.hok p _ h
     exact⟨o,e,ex⟩
   obtain⟨o,e,ex⟩:=z;refine⟨⟨o,e,ex.1⟩,λa E=>?_⟩;cases E;exact⟨o,e,ex.2.1⟩
  ·obtain⟨o,_,_,_,e,ex,_⟩:=I.hok p _ h
   refine⟨⟨o,e,ex.1⟩,λa E=>?_⟩;cases E;exact⟨o,e,ex.2.1⟩
 |_=>exact False.elim ty
noncomputable def BI (K:Frag)(T:String)(r:V->List V->Hp->VK->Prop)(to:TE)(t:TA):TE:=λσ H Q=>to σ H λx H1=>Vb K T x H1/\t σ H1 λxs h=>r x xs h Q
variable {o:Expr}{es:bT}{to:TE}{t:TA}{name:Str}{T id:String}{r:V->List V->Hp->VK->Prop}
def Cg (p:PlainAttrs T)(slot:Slot T name id)(y:typeOf (.builtin id)=pure (.type "method_descriptor"))(hm:QK X id r)(j:PE X o to)(k:PA X (e::es) t)
  (b:attributeBase o name X.env (eval o X.env)=eval o X.env:=by rfl)
  (w:((backTo cpos (starEach (e::es) X.env)).all (λx=>!x.1)&&(backToKw cpos (keywordEach [] X.env)).all (λx=>x.1.isSome)
   && decide ((e::es).length+([]:bY).length+(if ([]:bY).isEmpty then 0 else 1)<30))=true:=by rfl)
  (a:(apos.endLine==cpos.line)=true:=by rfl)(g:starEach (e::es) X.env=(false,eval e X.env)::starEach es X.env:=by rfl)(n:(backTo cpos (starEach es X.env)).any (·.1)=false:=by rfl):
  PE X (.Call (.Attribute o name apos) (e::es) [] cpos) (BI X.K T r to t):=by
 intro pins s σ H Q I h;refine wpAny_Call_method_late b w a rfl (zP (j pins s σ H _ I h) λv s1 ⟨x,H1,i,c,ty,f⟩=>?_);obtain⟨u,l⟩:=F1 i c ty;refine⟨T,id,p,slot,y,u,l,?_⟩;have A:=k cpos pins s1 σ H1 _ i f;rw[g]at A ⊢;refine Calls.callWith_builtin (by show(false || (backTo cpos (starEach es X.env)).any (·.1))=false;rw[n]<;>rfl) (Calls.evalArgs_plain ?_)
 exact zP A λus s2 ⟨vs,B,z,d,q⟩=>hm pins s2 σ B x vs v us Q z c d q
end
def X5 (X:Cx)(id:String)(r:V->List V->Hp->VK->Prop):Prop:=
 ∀(pins:bP)(s:Shared)(σ:St)(H:Hp)(x:V)(xs:List V)(v:Value)(us:bN)(Q:VK),Inv X pins σ H s->RelV x v->Vals xs us->r x xs H Q->
  wpAny (model X.prog X.w) X.A (call (.builtin id) (v::us)) (EP X pins σ Q) X.xe s
def Vals.one {x:V}(h:Vals [x] us):∃u,us=[u]/\RelV x u:=by
 cases h with
 |cons r t=>cases t;exact⟨_,rfl,r⟩
def Vals.two {x y:V}(h:Vals [x,y] us):∃u v,us=[u,v]/\RelV x u/\RelV y v:=by
 cases h with
 |cons r t=>exact(Vals.one t).elim λv e=>⟨_,v,by rw[e.1],r,e.2⟩
theorem Vals.zero:∀{us:bN},Vals [] us->us=[]
 |_,.nil=>rfl
theorem Vals.eraseIdx:∀{xs:List V}{us:bN}(i:Nat),Vals xs us->Vals (xs.eraseIdx i) (us.eraseIdx i)
 |_,_,_,.nil=>.nil|_,_,0,.cons _ t=>t|_,_,i+1,.cons r t=>.cons r (Vals.eraseIdx i t)
theorem Vals.rep (h:Vals xs us):∀k:Nat,Vals (List.replicate k xs).flatten (List.replicate k us).flatten
 |0=>.nil|k+1=>by
  rw[bj,bj,aS,aS];exact Vals.append h (Vals.rep h k)
theorem UM:∀(l:List α)(i:Nat),(l.eraseIdx i).length<=l.length
 |[],_=>au _|_::_,0=>le_succ _|_::r,i+1=>Nat.succ_le_succ (UM r i)
theorem foldl_rep (i:bN):∀(k:Nat)(acc:bN),
  List.foldl (λx1 x2=>x1++x2) acc.toArray (List.replicate k i.toArray)=(acc++(List.replicate k i).flatten).toArray
 |0,acc=>by simp|k+1,acc=>by
  have e:acc.toArray++i.toArray=(acc++i).toArray:=by simp
  have E:(acc++i)++(List.replicate k i).flatten=acc++(List.replicate (k+1) i).flatten:=by
   rw[bj,aS,aP]
  rw[<- E,<- foldl_rep i k (acc++i),<- e,bj,List.foldl_cons]
section
variable {l:Addr}
def Inv.lset {its':bN}{f:Array Value->Array Value}(I:Inv X pins σ H s)(c:H l=some (.lst xs))
  (e:s.heap.get? l=some { cls:=.type "list",data:=.seq its.toArray n })(hf:f its.toArray=its'.toArray)(v:Vals ys its')(h:ys.length<=sizeLine):
  Inv X pins σ (upd H l (.lst ys)) { s with heap:=s.heap.update l (Obj.mapSeq f),toks:=t' }:=by
 have q:=PySem.IsL.update e f;rw[hf]at q;refine I.write (x:=l) (e:=l) (by rw[c];exact trivial) (.inl rfl) (λB u b a=>(aV s.heap (Obj.mapSeq f) (Ne.symm b)).trans a) ⟨_,q⟩ ?_
 exact⟨h,its',_,v,q⟩
def Inv.lnew (I:Inv X pins σ H s)(v:Vals ys its)(h:ys.length<=sizeLine):
  Inv X pins σ (upd H s.heap.objs.size (.lst ys)) { s with heap:=s.heap.push { cls:=.type "list",data:=.seq its.toArray },toks:=t' }:=
 I.laid (λ_ _ q=>af _ q) (au _) ⟨h,its,0,v,aq _ rfl⟩
theorem Inv.fresh (I:Inv X pins σ H s):H s.heap.objs.size=none:=I.hok.fresh (au _)
def Inv.lstM (I:Inv X pins σ H s)(h:H l=some (.lst xs)):xs.length<=sizeLine/\∃(i:bN) (n:Nat),Vals xs i/\xs.length=i.length/\s.heap.get? l=some { cls:=.type "list",data:=.seq i.toArray n }:=by
 obtain⟨z,i,n,r,e⟩:=I.hok l _ h;exact⟨z,i,n,r,r.length,e⟩
def LC (h:n<=sizeLine):Builtin.List.listTooLong n=false:=by
 unfold Builtin.List.listTooLong;exact ay (by omega)
end
section
def Fq:V->List V->Hp->VK->Prop:=λx vs H Q=>∃l xs y,x=.ref l/\vs=[y]/\H l=some (.lst xs)/\xs.length<sizeLine/\Q .non (upd H l (.lst (xs++[y])))
def UC:X5 X "list.append" Fq:=by
 intro pins s σ H x vs v us Q I b c h;obtain⟨l,xs,y,rfl,rfl,a,f,q⟩:=h;cases b;obtain⟨u,rfl,d⟩:=c.one;obtain⟨z,i,n,r,g,e⟩:=I.lstM a;refine call_meets F.slot_list_append ⟨_,e,rfl⟩ F.entry_list_append (F.args_list_append_2 _ _) (PySem.list_append l i.toArray n u (by rw[aE];omega)) ⟨e,?_⟩
 refine⟨.non,_,I.lset (its':=i++[u]) a e (by simp) (r.append (.cons d .nil)) ?_,rfl,q⟩
 rw[aD,a5];omega
def Ds:V->List V->Hp->VK->Prop:=λx vs H Q=>∃l xs i k y,x=.ref l/\vs=[.int i]/\H l=some (.lst xs)/\-(2 ^ 63)<=i/\i<2 ^ 63/\seqIndex? i xs.length=some k/\xs[k]? =some y/\Q y (upd H l (.lst (xs.eraseIdx k)))
def Lj:X5 X "list.pop" Ds:=by
 intro pins s σ H x vs v us Q I d f h;obtain⟨l,xs,i,k,y,rfl,rfl,c,B,A,p,j,q⟩:=h;cases d;obtain⟨u,rfl,g⟩:=f.one;obtain⟨t,rfl⟩:=g;obtain⟨z,a,n,r,o,e⟩:=I.lstM c;obtain⟨w,hw,b⟩:=r.get j;refine call_meets F.slot_list_pop ⟨_,e,rfl⟩ F.entry_list_pop (F.args_list_pop_2 _ _)
  (MeetsSeq.list_pop_at l a.toArray n i t k w (fitsIndex_both B A) (by rw[aE,<- o];exact p) (by rw[<- bh];exact hw) (by rw[aE];omega)) ⟨e,?_⟩
 refine⟨y,_,I.lset (its':=a.eraseIdx k) c e ?_ (r.eraseIdx k) ?_,b,q⟩
 ·show a.toArray.eraseIdxIfInBounds k=(a.eraseIdx k).toArray
  rw[List.eraseIdxIfInBounds_toArray]
 ·have:=UM xs k
  omega
def R1:R2:=λx y H Q=>∃l b xs zs,x=.ref l/\y=.ref b/\H l=some (.lst xs)/\H b=some (.lst zs)/\xs.length+zs.length<=sizeLine/\∀p,H p=none->Q (.ref p) (upd H p (.lst (xs++zs)))
def F0:qH X (binaryOp .Add) R1:=by
 intro pins s σ H x y v u Q I d c h;obtain⟨l,b,xs,zs,rfl,rfl,j,B,o,q⟩:=h;cases d;cases c;obtain⟨z,a,n,r,p,e⟩:=I.lstM j;obtain⟨Z,i,N,f,g,k⟩:=I.lstM B;refine PySem.P.add_list e k ?_ (by rw[aE,aE];omega)
 have E:a.toArray++i.toArray=(a++i).toArray:=by simp
 rw[E];exact⟨.ref _,_,I.lnew (t':=s.toks) (r.append f) (by rw[aD];omega),rfl,q _ I.fresh⟩
def RO:R2:=λx y H Q=>∃l k xs,x=.ref l/\y=.int k/\H l=some (.lst xs)/\-(2 ^ 63)<=k/\k<2 ^ 63/\xs.length * k.toNat<=sizeLine/\
 ∀p,H p=none->Q (.ref p) (upd H p (.lst (List.replicate k.toNat xs).flatten))
def len_rep (xs:List α)(k:Nat):(List.replicate k xs).flatten.length=k * xs.length:=by
 induction k with
 |zero=>simp|succ k i=>rw[bj,aS,aD,i,Nat.succ_mul,Nat.add_comm]
def EY:qH X (binaryOp .Mult) RO:=by
 intro pins s σ H x y v u Q I f d h;obtain⟨l,k,xs,rfl,rfl,o,B,A,c,q⟩:=h;cases f;obtain⟨t,rfl⟩:=d;obtain⟨z,i,n,r,j,e⟩:=I.lstM o;have hlen:i.toArray.size * k.toNat<=sizeLine:=by rw[aE,<- j];exact c
 have p:¬i.toArray.size * k.toNat > (2 ^ 63-1)/8:=by
  have:(sizeLine:Nat)<=(2 ^ 63-1)/8:=by decide
  omega
 have b:¬(!Builtin.List.listFitsIndex k)=true:=by
  rw[fitsIndex_both B A];exact aA
 have g:¬Builtin.List.listTooLong (i.toArray.size * k.toNat)=true:=by
  rw[LC hlen];exact aA
 have w:List.foldl (λx1 x2=>x1++x2) #[] (List.replicate (if i.toArray.isEmpty=true then 0 else k.toNat) i.toArray)=(List.replicate k.toNat i).flatten.toArray:=by
  have f0:∀m:Nat,List.foldl (λx1 x2=>x1++x2) #[] (List.replicate m i.toArray)=(List.replicate m i).flatten.toArray:=λm=>by
   have:=foldl_rep i m []
   rw[nil_append]at this;exact this
  rw[f0];cases i with
  |nil=>simp|cons a C=>rw[ar (by simp)]
 refine wpAny_binaryOp_repeat_ref (T := "list") (U := "int") (by decide) ⟨_,e,rfl⟩ (λs'=>typeIs_int s' k t) noFill_list_mul F.fills_int_mul F.slot_int_rmul repeat_list F.slot_int_index.lookup
  (call_meets F.slot_int_rmul (typeIs_int s k t) F.entry_int_rmul (F.args_int_rmul_2 _ _) (int___rmul___int_list k t l i.toArray n)
   ⟨e,rfl,⟨_,e,rfl⟩,call_meets F.slot_list_mul ⟨_,e,rfl⟩ F.entry_list_mul (F.args_list_mul_2 _ _) (AutoListH.list___mul___list_int_3 l i.toArray n k t b p g) ⟨e,?_⟩⟩)
 rw[w];exact⟨.ref _,_,I.lnew (t':=s.toks) (r.rep k.toNat) (by rw[len_rep,Nat.mul_comm];exact c),rfl,q _ I.fresh⟩
end
section
set_option maxRecDepth 100000 in
end
end L2
namespace Att
open PySem PySem.W PySem.Calls PyProof.Rows
def P0 {P:Params}:∀(ns:bM)(vs:bN),WellAll P h vs (ns.map WData.int)->IntsAre vs ns:=by
 intro ns
 induction ns with
 |nil=>
  intro vs w;rw[List.map_nil]at w;cases w;exact .nil
 |cons n ns i=>
  intro vs w;rw[aU]at w;cases w with
  |cons a b=>
   cases a;exact .cons _ _ (i _ b)
def NR {l:OpenLaw}(hn:l.most=some n){P:Params}{args:List WData}{vals:bN}
  (H:l.row.toRowW.claim.pre args=true)(f:WellAll P h vals args):
  ∃a vs ns,vals=[Value.ref a]/\args=[WData.list (ns.map WData.int)]/\h.get? a=some { cls:=.type "list",data:=.seq vs.toArray }/\IntsAre vs ns/\ns.length<=n:=by
 have g:WShape.hasAll [] args [.list .int]=true:=(pre_splitW H).1;have i:l.pre.holds [] { args:=args }=true:=(pre_splitW H).2;obtain⟨d,r,rfl,s,p⟩:=hasAllW_cons g;obtain rfl:=hasAllW_nil p;obtain⟨xs,rfl,k⟩:=hasW_list s;obtain⟨ns,rfl⟩:=items_int k;have hlen:ns.length<=n:=by
  unfold OpenLaw.pre at i;have e:(WTm.not (.lt (.lit (.int (n:Int))) (.len (.arg 0)))).holds [] { args:=[.list (ns.map .int)] }=true:=by
   have e:=(holds_andW i).1;rw[hn]at e;exact e
  have c:=condW_of e (w_not (w_lt w_lit (w_len_list (w_arg rfl))));rw[ah]at c;refine Nat.le_of_not_lt λq=>?_;have Q:(n:Int)<((ns.length:Nat):Int):=by omega
  first
   |(rw[ax Q]at c;exact absurd c (by decide))
   |(simp at c;omega)
 cases f with
 |cons j w=>
  cases w;cases j with
  |list o b=>exact⟨_,_,ns,rfl,rfl,o,P0 ns _ b,hlen⟩
def Mp (l:OpenLaw)(args:List WData):l.row.toRowW.claim.post args (.bool true) args=true:=
 postW_of (r:=l.row.toRowW) (X:=(true==true))
  (show WShape.has [] (.bool true) .bool=true by first|rfl|decide|simp[WShape.has,WShape.arms,WShape.armsAll])
  (show(WTm.eq .res (.lit (.bool true))).value [] { args:=args,res:=some (.bool true),after:=args }=some (.bool (true==true)) from w_eq_bool (w_res rfl) w_lit) rfl
def O0 {l:OpenLaw}{q:Program}{loose:bR}{P:World->Heap->Prop}{d:DefRec}
  (hn:l.most=some n)(e:d.params.defaults=[])
  (call:∀(w:World)(S s:Shared)(mg mb:bV)(b:Addr)(o:Obj)(pm cd doc:Value)(a:Addr)(vs:bN)(ns:bM),
   Ground q loose [] XP w S mg mb s.heap->P w s.heap->
   s.heap.get? b=some o->o.data=.func (docDef d.name d.params d.body d.scope pm cd doc)->s.heap.CodeRec cd d.name->mg d.name=some (.ref b)->
   s.heap.get? a=some { cls:=.type "list",data:=.seq vs.toArray }->IntsAre vs ns->ns.length<=n->s.gens=#[]->
   codeAny (model l.prog w) callerA (.call (.ref b) ⟨[.ref a],[]⟩) (λr s'=>r=.ok (.ret (.bool true))/\OldK s.heap s'.heap/\s'.os=s.os/\AllBare s'.gens) s):
  WalkO q loose XP P l.row.toRowW d [] (λf vs=>PySem.call f vs):=by
 intro w S s mg mb G Y b o pm cd doc A kV p hd i D g u args vals as h y j c t;obtain rfl:A=.none:=Dflts.none D e;obtain rfl:kV=.none:=Dflts.noKw D;obtain⟨a,vs,ns,rfl,rfl,H,hints,hlen⟩:=NR hn h c;refine enter_call (codeAny_mono (call w S s mg mb b o pm cd doc a vs ns G Y p (fd_plain hd) i g H hints hlen u) λr s' k=>?_);obtain⟨rfl,z,x,v⟩:=k;exact⟨.inl ⟨.bool true,.bool true,[],rfl,λ_=>rfl,.bool true,Mp l _,λ_=>⟨List.Pairwise.nil,λ_ hm=>(nomatch hm)⟩⟩,z,x,v⟩
end Att
namespace L2
open PySem PySem.Spec PyProof.Rows
theorem JP:∀{vs:bN}{ns:bM},IntsAre vs ns->Vals (ns.map V.int) vs
 |_,_,.nil=>.nil|_,_,.cons n t h=>.cons ⟨t,rfl⟩ (JP h)
noncomputable abbrev Pe {K:Frag}(_:K.In h):Frag:=K
noncomputable def ZN (s:Stmt):Arguments:=match s with
 |.FunctionDef _ a _ _ _ _ _ _ _ _=>a|_=>{ posonlyargs:=[],args:=[],vararg:=none,kwonlyargs:=[],kw_defaults:=[],kwarg:=none,defaults:=[] }
noncomputable def kL (s:Stmt):b8:=match s with
 |.FunctionDef _ _ b _ _ _ _ _ _ _=>b|_=>[]
noncomputable def qC (s:Stmt):Scope:=match s with
 |.FunctionDef _ _ _ _ _ _ sc _ _ _=>sc|_=>{ kind:=.function,names:=[],isGenerator:=false,isCoroutine:=false }
noncomputable abbrev w6:wZ:=λ_ _ _ _ _ _=>False
noncomputable abbrev E0:XK:=λ_ _ _=>False
def D8:Passes w6 X E0:=λ_ _ _ _ _ _ _ h=>h.elim
structure kY (K:Frag)(x qual:Str)(st:Stmt)(f:Addr)(fd:FuncData):Prop where
 ex:∃(oc:Value) (od:bZ) (kV doc pm:Value) (an:bZ) (cdv ct:Value) (osl:Array (Option Value)),
  fd=fnOf x qual (ZN st) (kL st) (qC st) .none kV doc pm an cdv ct/\K.lookup f=some ⟨oc,od,.func fd,osl⟩/\codeIn K cdv qual=true
 kp:keepIn K (.ref f)=true
section
variable {K:Frag}
def kY.ok {st:Stmt}{sp:Sp}(F:kY K x qual st f fd)(S:jJ N ps (qC st))(len:∀vs H Q E,sp vs H Q E->vs.length=ps.length)
  (y:∀(c:Value)(A:Around)(outer:bW)(s:Shared)(H:Hp)(vs:List V)(Q:VK)(E:XK),jD k (A.deeper (envOfC qual (qC st) s.heap.objs.size f c))->sp vs H Q E->
   ∃t,yr (wk w6 P w K mg base N qual (qC st) f c A outer s H E).nox (kL st) t/\t { nx:=λ_ a=>Q .non a,rt:=Q } (start N vs) H):yv P w K mg base w6 (k+1) f fd ps sp:=by
 obtain⟨e,b,kV,doc,pm,an,c,ct,o,rfl,lk,d⟩:=F.ex;refine Xm lk d S len λA outer s H vs Q E r p=>?_;obtain⟨t,h,q⟩:=y c A outer s H vs Q E r p;exact⟨t,h.nox,q⟩
def kY.binds {st:Stmt}(F:kY K x qual st f fd)
  (h:∀(kV doc pm:Value)(an:bZ)(c ct:Value)(us:bN),us.length=ps.length->bindArgs (fnOf x qual (ZN st) (kL st) (qC st) .none kV doc pm an c ct) ⟨us,[]⟩=pure (ps.zip us)):Binds K fd ps []:=by
 obtain⟨a,d,kV,doc,pm,an,c,ct,o,rfl,lk,H⟩:=F.ex;exact .all (h kV doc pm an c ct)
def E5 {st:Stmt}{a:Value}{o an:bZ}{kV doc pm C ct:Value}(l:K.lookup f=some ⟨a,o,.func (fnOf x qual (ZN st) (kL st) (qC st) .none kV doc pm an C ct),osl⟩)
  (c:codeIn K C qual=true)(k:keepIn K (.ref f)=true):kY K x qual st f (fnOf x qual (ZN st) (kL st) (qC st) .none kV doc pm an C ct):=⟨⟨a,o,kV,doc,pm,an,C,ct,osl,rfl,l,c⟩,k⟩
def Inv.big (I:Inv X pins σ H s):sysModules<s.heap.objs.size:=by
 have h:mainGlobals<s.heap.objs.size:=(I.mod.glob.keeps I.bk).lt;exact lt_trans (by decide) h
end
def Ij (h:Heap)(b:sysModules<h.objs.size):jb P w H (h.push { cls:=.type "dict",data:=.dict #[] }) h.objs.size (.dK []):=
 ⟨zero_le _,beq_eq_false_iff_ne.mpr (Ne.symm (aK b)),[],.nil,Heap.DictOf.new h⟩
def DA:TE:=λ_ H Q=>∀p,H p=none->Q (.ref p) (upd H p (.dK []))
section
def MY:PE X (.Dict [] [] pos) DA:=λpins s σ H Q I h=>
 wpAny_Dict_empty ⟨.ref s.heap.objs.size,_,I.laid (a:=s.heap.objs.size) (o:=.dK []) (t':=s.toks) (λ_ _ q=>af _ q) (au _) (Ij s.heap I.big),rfl,h _ (I.hok.fresh (au _))⟩
end
noncomputable def yV (env:Env):List (Str×NameKind)->List (Str×Addr)->List (Str×Addr)
 |[],acc=>acc|(n,k)::r,acc=>yV env r (if k==.free then(n,(env.cells.lookup n).getD 0)::acc else acc)
def LD (f:Str×NameKind->List (Str×Addr)->Sem (ForInStep (bX)))
  (hf:∀n k r,f (n,k) r=if (k==NameKind.free)=true then(do let c <- cellOf env n;pure (ForInStep.yield ((n,c)::r))) else pure (ForInStep.yield r)):
  ∀(names:List (Str×NameKind))(acc:bX),(∀y∈names,y.2=.free->∃c,env.cells.lookup y.1=some c)->(forIn names acc f:Sem (bX))=pure (yV env names acc):=by
 intro names
 induction names with
 |nil=>intro acc _;rfl|cons y r i=>
  intro acc b;obtain⟨n,k⟩:=y;rw[forIn_cons,hf];unfold yV;have h:=i (if k==.free then(n,(env.cells.lookup n).getD 0)::acc else acc) (λy g=>b y (ao _ g))
  by_cases a:k=.free
  ·subst a
   obtain⟨c,d⟩:=b (n,.free) az rfl;have e:cellOf env n=pure c:=by unfold cellOf;rw[d]
   have H:List.lookup n env.cells=some c:=d;simp only[e,H,Option.getD_some,bz,if_true]at h ⊢;exact h
  ·have j:(k==NameKind.free)=false:=by simpa using a
   simp only[j,a7,if_false]at h ⊢;exact h
def V8 (h:∀y∈scope.names,y.2=.free->∃c,env.cells.lookup y.1=some c):closureFor scope env=pure (yV env scope.names []):=by
 unfold closureFor;dsimp only;rw[LD _ (λn k r=>rfl) scope.names [] h]
 rfl
theorem Qe {n:Str}:∀(names:List (Str×NameKind))(acc:bX),(n,c)∈yV env names acc->(n,c)∈acc∨((n,NameKind.free)∈names/\c=(env.cells.lookup n).getD 0)
 |[],acc,h=>.inl h|(x,k)::r,acc,h=>by
  unfold yV at h;rcases Qe r _ h with h|⟨d,a⟩
  ·by_cases H:k=.free
   ·subst H
    simp only[bz,if_true]at h;rcases cc.mp h with e|h
    ·cases e;exact .inr ⟨az,rfl⟩
    ·exact .inl h
   ·have b:(k==NameKind.free)=false:=by simpa using H
    simp only[b,a7,if_false]at h;exact .inl h
  ·exact .inr ⟨ao _ d,a⟩
theorem YU {n:Str}:∀(names:List (Str×NameKind))(acc:bX),((n,NameKind.free)∈names∨(acc.lookup n).isSome=true)->((yV env names acc).lookup n).isSome=true
 |[],acc,h=>by
  rcases h with h|h
  ·cases h
  ·exact h
 |(x,k)::r,acc,h=>by
  unfold yV;refine YU r _ ?_;rcases h with h|h
  ·rcases cc.mp h with e|h
   ·cases e
    right
    simp
   ·exact .inl h
  ·right
   by_cases H:(k==NameKind.free)=true
   ·rw[ag H,lookup_cons]
    cases a:n==x
    ·exact h
    ·rfl
   ·rw[ar H];exact h
theorem WL {n:Str}:∀(names:List (Str×NameKind))(k:Nat)(acc:bX),(n,c)∈cellsFrom k names acc->(n,c)∈acc∨(k<=c/\(n,NameKind.cell)∈names)
 |[],_,_,h=>.inl h|(x,q)::r,k,acc,h=>by
  unfold cellsFrom at h
  by_cases a:(q==NameKind.cell)=true
  ·rw[ag a]at h
   have H:q=.cell:=by simpa using a
   rcases WL r _ _ h with h|⟨d,b⟩
   ·rcases cc.mp h with e|h
    ·cases e;subst H;exact .inr ⟨au _,az⟩
    ·exact .inl h
   ·exact .inr ⟨by omega,ao _ b⟩
  ·rw[ar a]at h
   rcases WL r _ _ h with h|⟨d,b⟩
   ·exact .inl h
   ·exact .inr ⟨d,ao _ b⟩
theorem WM:∀(names:List (Str×NameKind))(k:Nat)(acc:bX),(∀n c,(n,c)∈acc->c<k)->(∀n N c,(n,c)∈acc->(N,c)∈acc->n=N)->∀n N c,(n,c)∈cellsFrom k names acc->(N,c)∈cellsFrom k names acc->n=N
 |[],_,_,_,hi,n,N,c,h,h'=>hi n N c h h'|(x,q)::r,k,acc,l,hi,n,N,c,h,h'=>by
  unfold cellsFrom at h h'
  by_cases a:(q==NameKind.cell)=true
  ·rw[ag a]at h h'
   refine WM r (k+1) ((x,k)::acc) (λm d hm=>?_) (λm M d hm H=>?_) n N c h h'
   ·rcases cc.mp hm with e|hm
    ·cases e;exact bq _
    ·exact aZ (l m d hm)
   ·rcases cc.mp hm with e|hm
    ·rcases cc.mp H with E|H
     ·cases e;cases E;rfl
     ·cases e;exact absurd (l M _ H) (aW _)
    ·rcases cc.mp H with E|H
     ·cases E;exact absurd (l m _ hm) (aW _)
     ·exact hi m M d hm H
  ·rw[ar a]at h h'
   exact WM r k acc l hi n N c h h'
theorem WG {n:Str}:∀(names:List (Str×NameKind))(h:Heap)(acc:bX),(n,c)∈cellsFrom h.objs.size names acc->(n,c)∈acc∨(pushCells h names).IsCell c none
 |[],_,_,q=>.inl q|(x,k)::r,h,acc,q=>by
  unfold cellsFrom at q;unfold pushCells
  by_cases H:(k==NameKind.cell)=true
  ·rw[ag H]at q ⊢
   have:=WG r (h.push { cls:=.type "cell",data:=.cell none }) ((x,h.objs.size)::acc) (by rw[a9];exact q)
   rcases this with z|z
   ·rcases cc.mp z with e|z
    ·cases e
     exact .inr ⟨_,pushCells_keeps r _ _ _ (aq _ rfl),rfl⟩
    ·exact .inl z
   ·exact .inr z
  ·rw[ar H]at q ⊢
   exact WG r h acc q
def PU {A:Around}{globals:Addr}{cl:bX}{Q:Env->Shared->Prop}
  (h:Q { scope,locals:=s.heap.objs.size,globals,cells:=cellsFrom (s.heap.objs.size+1) scope.names cl,qual,func:=none,code:=env.code,frame:=env.frame,builtins:=env.builtins }
   { s with heap:=pushCells (s.heap.push { cls:=.type "dict",data:=.dict #[] }) scope.names }):
  wpAny M A (newFunctionEnv scope globals cl [] qual none .none (some env)) Q E s:=by
 simp only[newFunctionEnv,Option.isSome_some,if_true];refine b9 (wpAny_alloc ?_);refine b9 (wpAny_layCells _ (λname kind cells=>by cases H:kind==NameKind.cell<;>simp[H]) _ _ _ _ ?_)
 rw[show({ s with heap:=s.heap.push { cls:=.type "dict",data:=.dict #[] } }:Shared).heap.objs.size=s.heap.objs.size+1 from a9 ..]
 rw[forIn_nil];exact b9 (cb (cb h))
def jR (X:Cx)(N:bR)(scope:Scope)(s:Shared)(H:Hp)(fp:bO)(xe:bS):Cx where
 prog:=X.prog
 w:=X.w
 K:=X.K
 mg:=X.mg
 base:=X.base
 A:=X.A
 N:=N
 s0:=s
 H0:=H
 env:={ scope:=relabel scope X.env,locals:=s.heap.objs.size,globals:=X.env.globals,cells:=cellsFrom (s.heap.objs.size+1) scope.names (yV X.env scope.names []),qual:=X.env.qual,func:=none,code:=X.env.code,frame:=X.env.frame,builtins:=X.env.builtins }
 outer:=X.stack
 stack:=X.stack
 ex:=fp
 fn:=λx=>scope.names.lookup x==some .local || scope.names.lookup x==some .cell
 calm:=X.calm
 pn:=[]
 xe:=xe
structure gE (X:Cx)(scope:Scope):Prop where
 kind:scope.kind=.function
 nd:(scope.names.map (·.1)).Nodup
 free:∀y∈scope.names,y.2=.free->X.env.kindOf y.1=some .cell∨X.env.kindOf y.1=some .free
theorem QR {k:α}:∀{l:List (Str×α)},(l.map (·.1)).Nodup->(x,k)∈l->l.lookup x=some k
 |(y,q)::r,nd,h=>by
  rw[aU,List.nodup_cons]at nd;rw[lookup_cons];rcases cc.mp h with e|h
  ·cases e;simp
  ·have ne:(x==y)=false:=by
    rw[beq_eq_false_iff_ne];intro e
    apply nd.1
    rw[<- e];exact List.mem_map_of_mem (f:=(·.1)) h
   rw[ne];exact QR nd.2 h
def WI {k:NameKind}(h:(relabel scope env).names.lookup x=some k):scope.names.lookup x=some k∨(k=.cell/\scope.names.lookup x=some .free/\env.kindOf x=some .cell):=by
 unfold relabel at h;dsimp only at h;generalize scope.names=names at h ⊢
 induction names with
 |nil=>cases h|cons y r i=>
  obtain⟨n,q⟩:=y;rw[aU]at h;have split:(if (q==NameKind.free&&env.scope.kind==.function&&env.kindOf n==some .cell)=true then(n,NameKind.cell) else(n,q)).1=n:=by split<;>rfl
  rw[lookup_cons]at h ⊢;dsimp only at h;rw[split]at h;cases a:x==n with
  |false=>rw[a]at h;exact i h|true=>
   rw[a]at h;have e:x=n:=aI.mp a;subst e
   by_cases H:(q==NameKind.free&&env.scope.kind==.function&&env.kindOf x==some .cell)=true
   ·rw[ag H]at h
    simp only[aj,aI]at H;cases h
    right
    exact⟨rfl,by rw[H.1.1],H.2⟩
   ·rw[ar H]at h
    left
    exact h
section
def Inv.capt (I:Inv X pins σ H s)(S:gE X scope)(h:(x,NameKind.free)∈scope.names):∃c,X.env.cells.lookup x=some c:=I.ok.has x (S.free _ h rfl)
def JR (I:Inv X pins σ H s)(S:gE X scope)(h:(x,c)∈cellsFrom (s.heap.objs.size+1) scope.names (yV X.env scope.names [])):
  ((x,NameKind.free)∈scope.names/\X.env.cells.lookup x=some c/\c<s.heap.objs.size)∨((x,NameKind.cell)∈scope.names/\s.heap.objs.size<c/\∀h0:Heap,h0.objs.size=s.heap.objs.size+1->(pushCells h0 scope.names).IsCell c none):=by
 rcases WL _ _ _ h with b|⟨b,d⟩
 ·left
  rcases Qe _ _ b with z|⟨z,e⟩
  ·cases z
  ·obtain⟨C,a⟩:=I.capt S z
   rw[a]at e;have E:c=C:=e;subst E;obtain⟨v,q⟩:=I.cell x c a;exact⟨z,a,q.lt⟩
 ·right
  refine⟨d,b,λh0 f=>?_⟩;have h':=h;rw[<- f]at h';rcases WG _ h0 _ h' with z|z
  ·exfalso
   rcases Qe _ _ z with z|⟨z,e⟩
   ·cases z
   ·obtain⟨C,a⟩:=I.capt S z
    rw[a]at e;have E:c=C:=e;subst E;obtain⟨v,q⟩:=I.cell x c a;exact aW _ (aC (aZ q.lt) b)
  ·exact z
def MV {xe:bS}{f:St}(I:Inv X pins σ H s)(S:gE X scope)(hf:∀b∈fp,kG X pins H b)(A:∀b∈fp,b<s.heap.objs.size)(hl:f.length=N.length)
  (hs:∀(j:Nat)(x:Str)(v:V),N[j]? =some x->f[j]? =some (some v)->(x,NameKind.free)∈scope.names/\∃i:Nat,X.N[i]? =some x/\σ[i]? =some (some v)):
  Inv (jR X N scope s H fp xe) [] f H { s with heap:=pushCells (s.heap.push { cls:=.type "dict",data:=.dict #[] }) scope.names }:=by
 have M:∀b o,s.heap.get? b=some o->(pushCells (s.heap.push { cls:=.type "dict",data:=.dict #[] }) scope.names).get? b=some o:=λb o e=>pushCells_keeps _ _ _ _ (af _ e);have T:(s.heap.push { cls:=.type "dict",data:=.dict #[] }).objs.size=s.heap.objs.size+1:=a9 ..;have l:∀{x:Str}{c:Addr},(jR X N scope s H fp xe).env.cells.lookup x=some c->(x,c)∈cellsFrom (s.heap.objs.size+1) scope.names (yV X.env scope.names []):=λh=>PySem.mem_of_lookup h;have L:∀{x:Str},((jR X N scope s H fp xe).env.kindOf x=some .cell∨(jR X N scope s H fp xe).env.kindOf x=some .free)->∃c,(jR X N scope s H fp xe).env.cells.lookup x=some c:=λ {x} h=>by
  refine Option.isSome_iff_exists.mp (cellsFrom_some _ _ _ ?_);have two:scope.names.lookup x=some .cell∨scope.names.lookup x=some .free:=by
   rcases h with h|h
   ·rcases WI h with z|⟨_,z,_⟩
    ·exact .inl z
    ·exact .inr z
   ·rcases WI h with z|⟨z,_⟩
    ·exact .inr z
    ·cases z
  rcases two with z|z
  ·exact .inl z
  ·exact .inr (YU _ _ (.inl (PySem.mem_of_lookup z)))
 have exP:∀b∈fp,∀x c,(jR X N scope s H fp xe).env.cells.lookup x=some c->c≠b:=λb a x c e=>by
  rcases JR I S (l e) with ⟨_,q,_⟩|⟨_,q,_⟩
  ·exact(hf b a).2.2.2.2.1 x c q
  ·intro z;subst z;exact aW _ (lt_trans q (A _ a))
 refine⟨⟨I.ok.mod,S.kind,I.ok.glob,I.ok.blt,au _,λx y c h1 J=>?_,λx h=>L h,λx c g h=>?_,I.ok.hd,I.ok.frames,.inl rfl,λb a=>⟨?_,exP b a⟩,I.bs,aQ I.ok.bsz I.sz,λb o e a=>?_,λb a z=>?_,I.stack,I.stkFree⟩,
  rfl,I.bare,Un.kept M,⟨λ_=>none,?_,λj x v h1 J h3=>?_⟩,λx c e=>?_,I.fresh,λx c e=>?_,λp hp=>?_,I.hok.kept M,hl⟩
 ·refine WM _ _ _ (λn c h=>?_) (λn n' c h h'=>?_) x y c (l h1) (l J)
  ·rcases Qe _ _ h with z|⟨z,e⟩
   ·cases z
   ·obtain⟨c',D⟩:=I.capt S z
    rw[D]at e;have P:c=c':=e;subst P;obtain⟨v,q⟩:=I.cell n c D;exact aZ q.lt
  ·rcases Qe _ _ h with z|⟨z,e⟩
   ·cases z
   ·rcases Qe _ _ h' with Z|⟨Z,P⟩
    ·cases Z
    ·obtain⟨d,hd⟩:=I.capt S z
     obtain⟨d',B⟩:=I.capt S Z;rw[hd]at e;rw[B]at P;have K:c=d:=e;have e2:c=d':=P;subst K;subst e2;exact I.ok.inj _ _ _ hd B
 ·rcases JR I S (l h) with ⟨z,_,_⟩|⟨_,z,_⟩
  ·exfalso
   have K:=QR S.nd z;have t:(scope.names.lookup x==some .local || scope.names.lookup x==some .cell)=true:=g;rw[K]at t;cases t
  ·exact bt z
 ·exact aK (A b a)
 ·obtain⟨_,_,_,E,_⟩:=hf b a
  rcases E with E|E
  ·exact I.ok.noex b o e E
  ·exact absurd (aC (aF e) (aQ I.ok.bsz E)) (aW _)
 ·obtain⟨_,J,h3,_⟩:=hf b a
  rcases cc.mp (I.stkSub b z) with e|e
  ·exact J e
  ·exact h3 e
 ·exact(Heap.Ns.new s.heap (.type "dict")).keeps (pushCells_keeps _ _)
 ·obtain⟨g,i,K,e2⟩:=hs j x v h1 J
  obtain⟨m,hn,Y⟩:=I.loc;have Q:Ww X.env.scope x:=.inr (S.free _ g rfl);obtain⟨u,r,lk⟩:=Y i x v K e2 Q;refine⟨u,r,.inr ?_⟩;have w:(jR X N scope s H fp xe).env.kindOf x=some .cell∨(jR X N scope s H fp xe).env.kindOf x=some .free:=by
   rcases h3 with z|z|z
   ·exfalso
    rcases WI z with Z|⟨Z,_⟩
    ·rw[QR S.nd g]at Z;cases Z
    ·cases Z
   ·exact .inl z
   ·exact .inr z
  refine⟨w,?_⟩;obtain⟨c,D⟩:=L w;refine⟨c,D,?_⟩;rcases JR I S (l D) with ⟨_,q,_⟩|⟨q,_,_⟩
  ·rcases lk with ⟨z,_⟩|⟨_,c',C,cell⟩
   ·exfalso
    rcases S.free _ g rfl with k|k<;>(rw[k]at z;cases z)
   ·rw[q]at C;cases C
    exact cell.keeps M
  ·exfalso
   have a1:=QR S.nd g;have a2:=QR S.nd q;rw[a1]at a2;cases a2
 ·rcases JR I S (l e) with ⟨_,q,_⟩|⟨_,_,q⟩
  ·obtain⟨v,z⟩:=I.cell x c q
   exact⟨v,z.keeps M⟩
  ·exact⟨_,q _ T⟩
 ·rcases JR I S (l e) with ⟨_,q,_⟩|⟨_,q,_⟩
  ·exact I.freeC x c q
  ·exact I.hok.fresh (bt q)
 ·have U:p∈([]:bP):=hp
  cases U
end
abbrev wC:=Addr->St->Hp->(St->Hp->Prop)->Prop
noncomputable def Yk (elt:Expr)(gens:List Comprehension)(sc:Scope)(pos:Pos)(d:Nat)(acc:Value)(env:Env)(k:Sem Fin):Sem Fin:=
 match gens[d+1]? with
 |some g'=>do
  let x <- eval g'.iter env
  standAt g'.iter.pos
  let x <- foldedSetIterable g'.iter env x
  let _ <- runOwn (.compStart (.ListComp elt gens sc pos) (d+1) (<- holding [x] (pyIter x)) acc env) env
  k
 |none=>do
  (do let _ <- call (.builtin "list.append") [acc,<- eval elt env])
  k
theorem IQ {iter:Expr}{d:Nat}{it acc:Value}(h:gens[d]? =some ⟨tg,iter,ifs,0⟩)(H:∀g',gens[d+1]? =some g'->g'.is_async=0):
  compTurn (.ListComp elt gens sc pos) d it acc env=(do
   standAt iter.pos
   match <- pyNext it with
   |none=>pure (.done .next)|some v=>
    letOwnedTupleGo tg it v
    assign tg env v
    let mut ok:=true
    for c in ifs do
     if ok then ok <- isTrue c env (eval c env)
    if ok then Yk elt gens sc pos d acc env (again (.compLoop (.ListComp elt gens sc pos) d it acc env))
    else again (.compLoop (.ListComp elt gens sc pos) d it acc env)):=by
 unfold compTurn Yk;dsimp only;rw[h];cases hn:gens[d+1]? with
 |none=>rfl|some g'=>
  obtain⟨t',i,f,a⟩:=g';have e:a=0:=H _ hn;subst e
  rfl
def Zj (X:Cx)(ifs:bT)(t:TT):Prop:=
 ∀(pins:bP)(s:Shared)(σ:St)(H:Hp)(Q:Bool->Hp->Prop),Inv X pins σ H s->t σ H Q->
  wpAny (model X.prog X.w) X.A (forIn ifs true λc r=>if r=true then do let ok <- isTrue c X.env (eval c X.env);pure (ForInStep.yield ok) else pure (ForInStep.yield r)) (TP X pins σ Q) X.xe s
noncomputable def Cs:TT:=λ_ H Q=>Q true H
def M1:Zj X [] Cs:=λpins s σ H Q I h=>wpAny_tests_nil ⟨H,I,h⟩
def M3 {c:Expr}{t:TT}(h:PT X c t):Zj X [c] t:=λpins s σ H Q I hw=>wpAny_tests_one (h pins s σ H Q I hw)
def kU (X:Cx)(elt:Expr)(gens:List Comprehension)(sc:Scope)(pos:Pos)(d:Nat)(t:wC):Prop:=
 ∀(pins:bP)(s:Shared)(σ:St)(H:Hp)(D:Addr)(Q:St->Hp->Prop)(k:Sem Fin)(Q':Fin->Shared->Prop)(E:bS),Inv X pins σ H s->t D σ H Q->
  (∀s' a h,Inv X pins a h s'->Q a h->wpAny (model X.prog X.w) X.A k Q' E s')->wpAny (model X.prog X.w) X.A (Yk elt gens sc pos d (.ref D) X.env k) Q' E s
def CA (t:TE):wC:=λD σ H Q=>t σ H λy H1=>∃ys,H1 D=some (.lst ys)/\ys.length<sizeLine/\Q σ (upd H1 D (.lst (ys++[y])))
def Yh (J:It)(g:TG)(ti:TT)(tm:wC):wC:=λD σ H Q=>∃W:Nat->Nat->St->Hp->Prop,(∃m,W 0 m σ H)/\∀i m σ H,W i m σ H->
 (J.stop i H/\Q σ H)∨(J.go i H/\∃N:St->Hp->Prop,(∀c h,N c h->∃M,M<m/\W (i+1) M c h)/\∀x h,J.yld i H x h->g x σ h λa H1=>ti a H1 λb d=>if b=true then tm D a d N else N a d)
def DR (w:TI)(g:TG)(ti:TT)(tm:wC):wC:=λD σ H Q=>w σ H λJ H1=>Yh J g ti tm D σ H1 Q
section
variable {iter:Expr}{d:Nat}
def Q9 (h:∀e s,X.xe e s->False){t:Sem α}{Q':α->Shared->Prop}(H:wpAny (model X.prog X.w) X.A t Q' X.xe s'):wpAny (model X.prog X.w) X.A t Q' E s':=
 wpAny_mono H (λ_ _ z=>z) λe s' z=>(h e s' z).elim
def Ii {t:TE}(x:∀e s,X.xe e s->False)(he:PE X elt t)(g:gens[d+1]? =none):kU X elt gens sc pos d (CA t):=by
 intro pins s σ H D Q k Q' E I h b;unfold Yk;rw[g];refine b9 (b9 (Q9 x (zP (he pins s σ H _ I h) λu s1 ⟨y,H1,f,r,ys,c,z,a⟩=>?_)));refine b9 (Q9 x (zP (UC pins s1 σ H1 (.ref D) [y] (.ref D) [u] (λ_ l=>Q σ l) f rfl (.cons r .nil) ⟨D,ys,y,rfl,rfl,c,z,a⟩) λ_ s2 ⟨_,j,i,_,q⟩=>?_));exact cb (b s2 σ j i q)
def IB {g:TG}{ti:TT}{tm:wC}(U:∀e s,X.xe e s->False)(Y:X.calm=true)(hg:gens[d]? =some ⟨tg,iter,ifs,0⟩)(ha:∀g',gens[d+1]? =some g'->g'.is_async=0)(L:PG X tg g)(hi:Zj X ifs ti)(hm:kU X elt gens sc pos d tm)
  {Q:St->Hp->Prop}{J:It}{it:Addr}{z:Nat->Heap->Prop}(T:Turn X.prog X.w X.K tg J fp it z)(I:Inv X pins σ H s)(st:z 0 s.heap)(hf:∀b∈fp,kG X pins H b)
  (h:Yh J g ti tm D σ H Q){R:Result->Shared->Prop}(hR:∀s' a c,Inv X pins a c s'->Q a c->R (.ok .next) s'):
  codeAny (model X.prog X.w) X.A (.compLoop (.ListComp elt gens sc pos) d (.ref it) (.ref D) X.env) R s:=by
 obtain⟨W,⟨m0,w0⟩,turn⟩:=h;have S:∀{c:Hp},(∀b∈fp,c b=none)->∀b∈fp,kG X pins c b:=λhn b k=>⟨hn b k,(hf b k).2⟩;refine codeAny_loop rfl (λn s'=>∃i a c,Inv X pins a c s'/\z i s'.heap/\(∀b∈fp,c b=none)/\W i n a c) (λn s3 hI=>?_) m0 ⟨0,σ,H,I,st,λb k=>(hf b k).1,w0⟩;show wpAny _ X.A ((compTurn (.ListComp elt gens sc pos) d (.ref it) (.ref D) X.env).onRaise (λx=>do noteFrame x X.env;theTreesLotGoes x)) _ _ s3
 refine wpAny_noted ?_;rw[IQ hg ha];refine b9 (wpAny_standAt ?_);obtain⟨i,j,B,Z,w5,y,w3⟩:=hI;rcases turn i n j B w3 with ⟨stop,qn⟩|⟨go,N,hN,step⟩
 ·refine b9 (zP (T.done X rfl rfl rfl Y i pins s3 j B _ Z (S y) w5 stop) λr s4 ⟨E,I4⟩=>?_)
  subst E;exact cb (hR s4 j B I4 qn)
 ·refine b9 (zP (T.item X rfl rfl rfl Y i pins s3 j B _ Z (S y) w5 go) λr s4 ⟨u,E,h4⟩=>?_)
  subst E;refine b9 (zP h4 λ_ s5 ⟨x,H5,I5,r5,y5,l,M⟩=>?_);have P:=I5.pinned (S M) (T.obj _ _ l);have back:∀{f:St}{p:Hp}{q:Shared},Inv X (pins++Ye fp s5.heap) f p q->N f p->∃m,m<n/\∃i a c,Inv X pins a c q/\z i q.heap/\(∀b∈fp,c b=none)/\W i m a c:=λ {f p q} t n7=>by
   obtain⟨m',hm,w7⟩:=hN f p n7;refine⟨m',hm,i+1,f,p,t.unpinned,T.keep _ _ _ l λb k o e=>(t.pin (b,o) (aR _ (aR _ (YT k e)))).1,λb k=>?_,w7⟩;obtain⟨o,e,d⟩:=T.obj _ _ l b k;exact(t.pin (b,o) (aR _ (aR _ (YT k e)))).2.1
  refine b9 (Q9 U (zP (L _ s5 j H5 x u _ P r5 (step x H5 y5)) λ_ s6 ⟨v,H6,I6,q6⟩=>?_));refine b9 (Q9 U (zP (hi _ s6 v H6 _ I6 q6) λok q ⟨p,t,C⟩=>?_));cases ok with
  |false=>exact cb ⟨rfl,back t C⟩|true=>
   rw[ag rfl]at C;exact hm _ q v p D _ _ _ _ t C λs8 σ8 H8 I8 q8=>cb ⟨rfl,back I8 q8⟩
def RA {g:TG}{ti:TT}{tm:wC}(i:∀e s,X.xe e s->False)(k:X.calm=true)(c:gens[d]? =some ⟨tg,iter,ifs,0⟩)(o:∀g',gens[d+1]? =some g'->g'.is_async=0)(t:PG X tg g)(j:Zj X ifs ti)(hm:kU X elt gens sc pos d tm)
  {Q:St->Hp->Prop}{J:It}{it:Addr}{n:Nat->Heap->Prop}(T:Turn X.prog X.w X.K tg J fp it n)(I:Inv X pins σ H s)(st:n 0 s.heap)(hf:∀b∈fp,kG X pins H b)
  (h:Yh J g ti tm D σ H Q){R:Result->Shared->Prop}(p:∀s' a f,Inv X pins a f s'->Q a f->R (.ok .next) s'):
  codeAny (model X.prog X.w) X.A (.compStart (.ListComp elt gens sc pos) d (.ref it) (.ref D) X.env) R s:=by
 have loop:=IB i k c o t j hm T I st hf h p;refine codeAny_of_tree ?_;show wpAny _ _ ((compStart (.ListComp elt gens sc pos) d (.ref it) (.ref D) X.env).onRaise (λx=>do noteFrame x X.env;standAt theWindowsPlace)) _ _ s
 refine wpAny_notedAt ?_;unfold compStart;have l:(clausesOf (.ListComp elt gens sc pos))[d]? =some ⟨tg,iter,ifs,0⟩:=c;rw[l];show wpAny _ _ (ask >>= _) _ _ s;refine b9 (wpAny_askSetting (wpAny_ite ?_))
 split
 ·first
   |exact b9 (cb (cb (And.intro rfl loop)))
   |exact cb (And.intro rfl loop)
 ·first
   |exact b9 (wpAny_rule (b9 (wpAny_standAt (b9 (T.self _ 0 s _ _ st (cb (And.intro rfl loop)))))))
   |(refine b9 (wpAny_rule ?_);show wpAny _ _ (standAt iter.pos >>= _) _ _ s;exact b9 (wpAny_standAt (b9 (T.self _ 0 s _ _ st (cb (And.intro rfl loop))))))
def LX {w:TI}{g:TG}{ti:TT}{tm:wC}(b:∀e s,X.xe e s->False)(o:X.calm=true)(c:gens[d+1]? =some ⟨tg,iter,ifs,0⟩)(p:∀g',gens[d+2]? =some g'->g'.is_async=0)(hw:PI X tg iter w)(t:PG X tg g)(n:Zj X ifs ti)(hm:kU X elt gens sc pos (d+1) tm)
  (j:∀x,foldedSetIterable iter X.env x=pure x:=by intro _;rfl):kU X elt gens sc pos d (DR w g ti tm):=by
 intro pins s σ H D Q k Q' E I h l;unfold Yk;rw[c];refine b9 (Q9 b (zP (hw pins s σ H _ I h) λv s1 u=>?_));refine b9 (wpAny_standAt (b9 (wpAny_of_eq (j v) ?_)));refine b9 (wpAny_holding (Q9 b (zP u λi s2 r=>?_)));obtain⟨it,fp,B,J,C,e,y,T,wD,f2,q⟩:=r;subst e;refine b9 (wpAny_runOwn (RA b o c p t n hm T y wD f2 q λs' a A z f=>?_));exact l s' a A z f
end
noncomputable def gU (nl:Nat)(cap:bQ)(σ:St):St:=List.replicate nl none++cap.map λi=>(σ[i]?).join
noncomputable def ZZ (M N:bR)(scope:Scope)(nl:Nat)(cap:bQ):Bool:=
 N.length==nl+cap.length&&(List.range cap.length).all λk=>match N[nl+k]?,M[cap.getD k 0]? with
  |some x,some y=>x==y&&scope.names.any λz=>z.1==x&&z.2==NameKind.free|_,_=>false
def M6 {M:bR}{nl:Nat}(h:ZZ M N scope nl cap=true):(gU nl cap σ).length=N.length/\
  ∀(j:Nat)(x:Str)(v:V),N[j]? =some x->(gU nl cap σ)[j]? =some (some v)->(x,NameKind.free)∈scope.names/\∃i:Nat,M[i]? =some x/\σ[i]? =some (some v):=by
 unfold ZZ at h;rw[aj,aI]at h;obtain⟨n,l⟩:=h;refine⟨by unfold gU;simp[n],λj x v r E=>?_⟩
 unfold gU at E
 by_cases b:j<nl
 ·rw[ai (by simpa using b),bw]at E
  split at E<;>cases E
 ·rw[av (by simpa using b),bC,aw]at E
  cases c:cap[j-nl]? with
  |none=>rw[c]at E;cases E|some i=>
   rw[c]at E;have e:(σ[i]?).join=some v:=aB E;have k:j-nl<cap.length:=(cg.mp c).1;have H:=cm.mp l (j-nl) (ck.mpr k);have p:nl+(j-nl)=j:=by omega
   rw[p,r]at H;have q:cap.getD (j-nl) 0=i:=by rw[ae,c];rfl
   rw[q]at H;cases hm:M[i]? with
   |none=>rw[hm]at H;cases H|some y=>
    rw[hm]at H;rw[aj,aI]at H;obtain⟨g,f⟩:=H;subst g;obtain⟨z,d,a⟩:=List.any_eq_true.mp f;rw[aj,aI,aI]at a;refine⟨?_,i,hm,?_⟩
    ·obtain⟨t,Z⟩:=z
     obtain⟨a1,a2⟩:=a;cases a1;cases a2;exact d
    ·cases s:σ[i]? with
     |none=>rw[s]at e;cases e|some o=>rw[s]at e;cases o with
      |none=>cases e|some w=>cases e;rfl
noncomputable abbrev yA:Value->Shared->Prop:=λ_ _=>False
def Kv (K:Frag)(w:TI)(g:TG)(ti:TT)(tm:wC)(nl:Nat)(cap:bQ):TE:=λσ H Q=>w σ H λJ h=>∀D,h D=none->K.lookup D=none->Yh J g ti tm D (gU nl cap σ) (upd h D (.lst [])) λ_ a=>Q (.ref D) a
section
variable {iter:Expr}{wi:TI}{g:TG}{ti:TT}{tm:wC}{nl:Nat}
def Tz (hc:X.calm=true)(S:gE X sc)(r:ZZ X.N N sc nl cap=true)(ha:∀g',gs[0]? =some g'->g'.is_async=0)(hw:PI X tg iter wi)
  
  (Z:∀s H fp,Inv X pins σ H s->(∀b∈fp,kG X pins H b)->PG (jR X N sc s H fp yA) tg g/\Zj (jR X N sc s H fp yA) ifs ti/\kU (jR X N sc s H fp yA) elt (⟨tg,iter,ifs,0⟩::gs) sc pos 0 tm)
  {Q:VK}(I:Inv X pins σ H s)(h:Kv X.K wi g ti tm nl cap σ H Q)
  {use:Option (Value->Sem Unit)}{Q':bS}
  (n:∀(D C:Addr)(s':Shared)(l:Hp)(m:bV),Inv X pins σ l s'->Q (.ref D) l->s'.heap.Ns C m->l C=none->C≠X.env.locals->X.s0.heap.objs.size<=C->(∀x c,X.env.cells.lookup x=some c->c≠C)->(∀q∈X.pn++pins,q.1≠C)->
   compPost (model X.prog X.w) X.A X.xe use Q' (.ref D) C (.ok .next) s')
  (hs:∀x,foldedSetIterable iter X.env x=pure x:=by intro _;rfl):
  wpAny (model X.prog X.w) X.A (comprehension (.ListComp elt (⟨tg,iter,ifs,0⟩::gs) sc pos) sc X.env p (newList []) false (eval iter X.env) use) Q' X.xe s:=by
 have j:∀y∈sc.names,y.2=.free->∃c,X.env.cells.lookup y.1=some c:=λy U e=>I.ok.has _ (S.free y U e);refine wpAny_comprehension_free (use:=use) rfl hs (V8 j) S.kind (λy U e=>by
  obtain⟨y1,y2⟩:=y;have e':y2=.local:=e;subst e';exact QR S.nd U) ?_
 refine zP (hw pins s σ H _ I h) λv s1 h1=>zP h1 λitv s2 h2=>?_;obtain⟨it,fp,tn,J,L,e,I2,T,wD,f2,q2⟩:=h2;subst e;refine wpAny_newObj_type ?_;have hD:L s2.heap.objs.size=none:=I2.fresh;have hKD:X.K.lookup s2.heap.objs.size=none:=by
  cases ek:X.K.lookup s2.heap.objs.size with
  |none=>rfl|some o=>exact absurd (aF (I2.kIn _ _ ek)) (aW _)
 have P:=q2 _ hD hKD;generalize Y:({ s2 with heap:=s2.heap.push { cls:=.type "list",data:=.seq ([]:bN).toArray } }:Shared)=s3
 have f:s3={ s2 with heap:=s2.heap.push { cls:=.type "list",data:=.seq ([]:bN).toArray } }:=Y.symm
 have i:Inv X pins σ (upd L s2.heap.objs.size (.lst [])) s3:=by
  rw[f];exact I2.laid (t':=s2.toks) (λb u e=>af _ e) (au _) ⟨by simp,[],0,.nil,aq _ rfl⟩
 have t:∀b∈fp,∃o,s2.heap.get? b=some o:=λb a=>let ⟨o,e,_⟩:=T.obj 0 _ wD b a;⟨o,e⟩
 have M:s3.heap.objs.size=s2.heap.objs.size+1:=by rw[f];exact a9 ..
 have w5:tn 0 s3.heap:=T.keep _ _ _ wD λb a o e=>by rw[f];exact af _ e
 have B:∀b∈fp,b<s3.heap.objs.size:=λb a=>by
  obtain⟨o,e⟩:=t b a;rw[M];exact aZ (aF e)
 have E:∀b∈fp,kG X pins (upd L s2.heap.objs.size (.lst [])) b:=λb a=>by
  obtain⟨o,e⟩:=t b a;refine⟨?_,(f2 b a).2⟩;rw[qc (aK (aF e))];exact(f2 b a).1
 generalize upd L s2.heap.objs.size (.lst [])=H3 at i E P;generalize s2.heap.objs.size=D at P ⊢;refine PU ?_;obtain⟨cl,cs⟩:=M6 r (σ:=σ);have I4:=MV (xe:=yA) i S E B cl cs;obtain⟨hgt,hi,hm⟩:=Z s3 H3 fp i E;refine RA (X:=jR X N sc s3 H3 fp yA) (gens:=⟨tg,iter,ifs,0⟩::gs) (d:=0) (λ_ _ z=>z) hc rfl ha hgt hi hm T I4 (T.keep _ _ _ w5 λb a o e=>pushCells_keeps _ _ _ _ (af _ e)) (λb a=>?_) P λs' σ' l k q'=>?_
 ·obtain⟨g1,g2,g3,g4,g5,g6⟩:=E b a
  refine⟨g1,aK (B b a),λz=>?_,.inl a,(I4.ok.exf b a).2,λp hp=>absurd (show p∈([]:bP) from hp) (by simp)⟩
  rcases cc.mp (i.stkSub b z) with e|e
  ·exact g2 e
  ·exact g3 e
 ·have I5:Inv X pins σ l s':=i.call' k.os k.base k.hok k.bare λb a=>by
   obtain⟨g1,g2,g3,g4,g5,g6⟩:=E b a;exact⟨g4,g2,g5,g6⟩
  obtain⟨m,hn,_⟩:=k.loc;refine n D _ s' l m I5 q' hn k.free (bx i.lt) i.sz (λx c e z=>?_) λq hq z=>?_
  ·obtain⟨v,w⟩:=i.cell x c e
   exact aW _ (aC w.lt (by rw[z];exact au _))
  ·exact aW _ (aC (aF (i.pin q hq).1) (by rw[z];exact au _))
def IX (d:X.calm=true)(S:gE X sc)(p:ZZ X.N N sc nl cap=true)(i:∀g',gs[0]? =some g'->g'.is_async=0)(hw:PI X tg iter wi)
  (n:∀s H fp,PG (jR X N sc s H fp yA) tg g/\Zj (jR X N sc s H fp yA) ifs ti/\kU (jR X N sc s H fp yA) elt (⟨tg,iter,ifs,0⟩::gs) sc pos 0 tm)
  (c:∀x,foldedSetIterable iter X.env x=pure x:=by intro _;rfl):PE X (.ListComp elt (⟨tg,iter,ifs,0⟩::gs) sc pos) (Kv X.K wi g ti tm nl cap):=by
 intro pins s σ H Q I h;rw[eval_ListComp];refine Tz (use:=none) d S p i hw (λs H fp _ _=>n s H fp) I h (λD C s' v m u q hn t r l k j=>?_) c;exact⟨m,hn,λh' a=>⟨.ref D,v,u.turned (t':=s'.toks) (λb o f e=>(a.2 b f).trans e) t r (.inr l) k j,rfl,q⟩⟩
def Nm {p:Pos}{c:Pos}(P:X.N.Nodup)(j:X.N[i]? =some x)(l:X.env.scope.names.lookup x=some .local)
  (w:swapsWith (.ListComp elt (⟨tg,iter,ifs,0⟩::gs) sc pos) (some (.Name x p)) c.line X.env=pure true)
  (J:X.calm=true)(S:gE X sc)(d:ZZ X.N N sc nl cap=true)(M:∀g',gs[0]? =some g'->g'.is_async=0)(hw:PI X tg iter wi)
  (n:∀s H fp,PG (jR X N sc s H fp yA) tg g/\Zj (jR X N sc s H fp yA) ifs ti/\kU (jR X N sc s H fp yA) elt (⟨tg,iter,ifs,0⟩::gs) sc pos 0 tm)
  (B:∀x,foldedSetIterable iter X.env x=pure x:=by intro _;rfl):PS X (.Assign [.Name x p] (.ListComp elt (⟨tg,iter,ifs,0⟩::gs) sc pos) c) (KQ (Kv X.K wi g ti tm nl cap) (KG i)):=by
 intro pins s σ H D I h;rw[exec_Assign_Name_used _ _ _ _ w];refine b9 (wpAny_standAt (b9 ?_));show wpAny _ X.A (do let _ <- comprehension (.ListComp elt (⟨tg,iter,ifs,0⟩::gs) sc pos) sc X.env _ (newList []) false (eval iter X.env) (some (assign (.Name x p) X.env))) _ _ s
 refine b9 (wpAny_mono (Tz (use:=some (assign (.Name x p) X.env)) (Q':=λ_ s'=>SP X pins D .next s') J S d M hw (λs H fp _ _=>n s H fp) I h (λu C s' H' m I' q hn U t T r Q=>?_) B) (λ_ s' E=>cb (cb E)) λ_ _ e=>e);show wpAny _ X.A (assign (.Name x p) X.env (.ref u)) _ _ _;refine wpAny_assign_Name (Us I' P j (.inl l) (v:=.ref u) rfl (λs2 Z ⟨a,y,Y⟩=>?_) (.inr l));have k:C≠a:=by
  rcases Y with e|e
  ·rw[e];exact t
  ·exactλz=>r x a e z.symm
 refine⟨m,hn.sameBut y k,λh' f=>⟨_,H',Z.turned (t':=s2.toks) (λb o L e=>(f.2 b L).trans e) U t (.inr T) r Q,q⟩⟩
end
end L2
namespace Mi
open PySem PySem.Spec PyProof.Rows L2
inductive W where
 |non|bl (b:Bool)|int (i:Int)|str (x:Str)|tup (xs:List W)|ref (n:Nat)
 |clo (k:Nat) (xs:List W) (P:Obj->Addr->Obj->List V->Prop)
 |xc (x:Str)
inductive O where
 |lst (xs:List W)|ro (xs:List W)|dct (kvs:List (Key×W))
 |td (kvs:List (List Int×W))
 |tab (q:Str) (P:Addr)
noncomputable def O.mut:O->Bool
 |.ro _=>false|_=>true
noncomputable abbrev Hx:=List O
noncomputable abbrev En:=List (Option W)
inductive R (α:Type) where
 |ok (a:α) (A:Hx)|exc (x:Str) (A:Hx)|bad
noncomputable def R.bind {β:Type}(r:R α)(f:α->Hx->R β):R β:=match r with
 |.ok a A=>f a A|.exc x A=>.exc x A|.bad=>.bad
def R.post (r:R α)(P:α->Hx->Prop)(E:Str->Hx->Prop):Prop:=match r with
 |.ok a A=>P a A|.exc x A=>E x A|.bad=>False
noncomputable def R.nox (r:R α):R α:=match r with
 |.ok a A=>.ok a A|.exc _ _=>.bad|.bad=>.bad
section
variable {β:Type}{r:R α}{f:α->Hx->R β}{P Q:α->Hx->Prop}{P':β->Hx->Prop}{E F:Str->Hx->Prop}
def zD {a:α}{A:Hx}:(R.ok a A).bind f=f a A:=rfl
def LB {A:Hx}:(R.exc x A:R α).bind f=.exc x A:=rfl
def zV:(r.bind f).post P' E↔r.post (λa A=>(f a A).post P' E) E:=by cases r<;>exact Iff.rfl
def qp (h:r.post P E)(H:∀a A,P a A->Q a A)(b:∀x A,E x A->F x A):r.post Q F:=by
 cases r with
 |ok a A=>exact H _ _ h|exc x A=>exact b _ _ h|bad=>exact h
end
abbrev Ev:=En->Hx->R W
inductive CQ (K:Frag)(H:Hp)(R:List V->Prop)(v:V):Prop
 |mk (a:Addr) (vs:List V) (e:v=.ref a) (h:qy K H a vs) (r:R vs)
inductive C6 (H:Hp)(P:Obj->Addr->Obj->List V->Prop)(R:List V->Prop)(v:V):Prop
 |mk (a:Addr) (ob:Obj) (u:HO) (c:Addr) (oc:Obj) (uc:HO) (vs:List V) (e:v=.ref a) (h1:H a=some (.frz ob u)) (h2:H c=some (.frz oc uc)) (p:P ob c oc vs) (r:R vs)
inductive C4 (R:V->Prop)(Rs:List V->Prop)(vs:List V):Prop
 |mk (v:V) (r:List V) (e:vs=v::r) (h:R v) (t:Rs r)
mutual
noncomputable def RV (K:Frag)(φ:bO)(H:Hp):W->V->Prop
 |.non,v=>v=.non|.bl b,v=>v=.bl b|.int i,v=>v=.int i|.str x,v=>v=.str x|.tup ws,v=>CQ K H (zw K φ H ws) v|.ref n,v=>∃a,v=.ref a/\φ[n]? =some a|.clo _ ws P,v=>C6 H P (zw K φ H ws) v|.xc x,v=>∃a o u C,v=.ref a/\H a=some (.frz o u)/\o.cls=.ref C/\nsIn K mainGlobals x=some (some (.ref C))
noncomputable def zw (K:Frag)(φ:bO)(H:Hp):List W->List V->Prop
 |[],vs=>vs=[]|w::ws,vs=>C4 (RV K φ H w) (zw K φ H ws) vs
end
structure Le (K:Frag)(φ:bO)(H:Hp)(φ':bO)(H':Hp):Prop where
 ex:∀(n:Nat)(a:Addr),φ[n]? =some a->φ'[n]? =some a
 tp:∀a vs,qy K H a vs->qy K H' a vs
 fr:∀a o,H a=some o->(∀n:Nat,φ[n]?≠some a)->H' a=some o
 nw:∀(n:Nat)(a:Addr),φ'[n]? =some a->φ[n]? =some a∨H a=none
 st:∀a,H' a=none->H a=none
 fz:∀a o u,H a=some (.frz o u)->H' a=some (.frz o u)
def Le.refl {K φ H}:Le K φ H φ H:=⟨λ_ _ h=>h,λ_ _ h=>h,λ_ _ h _=>h,λ_ _ h=>.inl h,λ_ h=>h,λ_ _ _ h=>h⟩
def Le.trans {K φ H φ1 H1 φ2 H2}(a:Le K φ H φ1 H1)(b:Le K φ1 H1 φ2 H2):Le K φ H φ2 H2 where
 ex:=λn x h=>b.ex n x (a.ex n x h)
 tp:=λn x h=>b.tp n x (a.tp n x h)
 fr:=λc o h n=>b.fr c o (a.fr c o h n) λk e=>by
  rcases a.nw k c e with e|e
  ·exact n k e
  ·rw[h]at e;cases e
 nw:=λn c e=>by
  rcases b.nw n c e with e|e
  ·exact a.nw n c e
  ·exact .inr (a.st c e)
 st:=λc e=>a.st c (b.st c e)
 fz:=λc o u h=>b.fz c o u (a.fz c o u h)
def Le.off {K φ H φ' H'}(l:Le K φ H φ' H'){o:HO}(h:H D=some o)(n:∀k:Nat,φ[k]?≠some D):H' D=some o/\∀k:Nat,φ'[k]?≠some D:=
 ⟨l.fr D o h n,λk e=>by
  rcases l.nw k D e with e|e
  ·exact n k e
  ·rw[h]at e;cases e⟩
section
variable {K:Frag}{φ':bO}{H':Hp}
structure Zx (K:Frag)(φ:bO)(H:Hp)(φ':bO)(H':Hp):Prop where
 ex:∀(n:Nat)(a:Addr),φ[n]? =some a->φ'[n]? =some a
 tp:∀a vs,qy K H a vs->qy K H' a vs
 fz:∀a o u,H a=some (.frz o u)->H' a=some (.frz o u)
mutual
theorem RV.monoW (l:Zx K φ H φ' H'):∀{w:W}{v:V},RV K φ H w v->RV K φ' H' w v
 |.non,_,h=>h|.bl _,_,h=>h|.int _,_,h=>h|.str _,_,h=>h|.tup ws,_,⟨a,vs,e,t,r⟩=>⟨a,vs,e,l.tp _ _ t,zw.monoW l r⟩|.ref n,_,⟨a,e,f⟩=>⟨a,e,l.ex _ _ f⟩|.clo _ ws P,_,⟨a,ob,u,c,g,uc,vs,e,d,b,i,r⟩=>⟨a,ob,u,c,g,uc,vs,e,l.fz _ _ _ d,l.fz _ _ _ b,i,zw.monoW l r⟩|.xc x,_,⟨a,o,u,C,e,d,b⟩=>⟨a,o,u,C,e,l.fz _ _ _ d,b⟩
theorem zw.monoW (l:Zx K φ H φ' H'):∀{ws:List W}{vs:List V},zw K φ H ws vs->zw K φ' H' ws vs
 |[],_,h=>h|w::ws,_,⟨v,r,e,h,t⟩=>⟨v,r,e,RV.monoW l h,zw.monoW l t⟩
end
def RV.mono {w:W}(h:RV K φ H w v)(l:Le K φ H φ' H'):RV K φ' H' w v:=RV.monoW ⟨l.ex,l.tp,l.fz⟩ h
def zw.mono {w:List W}{v:List V}(h:zw K φ H w v)(l:Le K φ H φ' H'):zw K φ' H' w v:=zw.monoW ⟨l.ex,l.tp,l.fz⟩ h
structure yD (K:Frag)(D:Addr)(φ:bO)(H:Hp)(φ':bO)(H':Hp):Prop where
 ex:∀(n:Nat)(a:Addr),φ[n]? =some a->φ'[n]? =some a
 tp:∀a vs,qy K H a vs->qy K H' a vs
 fr:∀a o,a≠D->H a=some o->(∀n:Nat,φ[n]?≠some a)->H' a=some o
 nw:∀(n:Nat)(a:Addr),φ'[n]? =some a->φ[n]? =some a∨H a=none
 st:∀a,H' a=none->H a=none
 fz:∀a o u,H a=some (.frz o u)->H' a=some (.frz o u)
def yD.refl {D}:yD K D φ H φ H:=⟨λ_ _ h=>h,λ_ _ h=>h,λ_ _ _ h _=>h,λ_ _ h=>.inl h,λ_ h=>h,λ_ _ _ h=>h⟩
def Le.toD {D}(l:Le K φ H φ' H'):yD K D φ H φ' H':=⟨l.ex,l.tp,λa o _ h n=>l.fr a o h n,l.nw,l.st,l.fz⟩
def yD.trans {D φ1 H1 φ2 H2}(a:yD K D φ H φ1 H1)(b:yD K D φ1 H1 φ2 H2):yD K D φ H φ2 H2 where
 ex:=λn x h=>b.ex n x (a.ex n x h)
 tp:=λn x h=>b.tp n x (a.tp n x h)
 fr:=λc o ne h n=>b.fr c o ne (a.fr c o ne h n) λk e=>by
  rcases a.nw k c e with e|e
  ·exact n k e
  ·rw[h]at e;cases e
 nw:=λn c e=>by
  rcases b.nw n c e with e|e
  ·exact a.nw n c e
  ·exact .inr (a.st c e)
 st:=λc e=>a.st c (b.st c e)
 fz:=λc o u h=>b.fz c o u (a.fz c o u h)
def RV.monoD {D}{w:W}(h:RV K φ H w v)(l:yD K D φ H φ' H'):RV K φ' H' w v:=RV.monoW ⟨l.ex,l.tp,l.fz⟩ h
def zw.monoD {D}{w:List W}{v:List V}(h:zw K φ H w v)(l:yD K D φ H φ' H'):zw K φ' H' w v:=zw.monoW ⟨l.ex,l.tp,l.fz⟩ h
theorem zw.length:∀{ws:List W}{vs:List V},zw K φ H ws vs->ws.length=vs.length
 |[],_,h=>by cases h;rfl|w::ws,_,⟨v,r,e,_,t⟩=>by subst e;simp[zw.length t]
theorem zw.get:∀{ws:List W}{vs:List V}{i:Nat}{w:W},zw K φ H ws vs->ws[i]? =some w->∃v,vs[i]? =some v/\RV K φ H w v
 |[],_,_,_,_,e=>by simp at e|w::ws,_,0,_,⟨v,r,e,h,t⟩,q=>by subst e;simp at q;subst q;exact⟨v,by simp,h⟩|w::ws,_,i+1,x,⟨v,r,e,h,t⟩,q=>by
  subst e;obtain⟨y,b,a⟩:=zw.get (i:=i) (w:=x) t (by simpa using q)
  exact⟨y,by simpa using b,a⟩
theorem zw.append:∀{ws us:List W}{vs xs:List V},zw K φ H ws vs->zw K φ H us xs->zw K φ H (ws++us) (vs++xs)
 |[],_,_,_,h,t=>by cases h;exact t|w::ws,_,_,_,⟨v,r,e,h,t⟩,T=>by subst e;exact⟨v,r++_,rfl,h,zw.append t T⟩
def zw.one {w:W}(h:RV K φ H w v):zw K φ H [w] [v]:=⟨v,[],rfl,h,rfl⟩
def zw.nil:zw K φ H [] []:=rfl
def zw.cons {w:W}{ws:List W}(h:RV K φ H w v)(t:zw K φ H ws vs):zw K φ H (w::ws) (v::vs):=⟨v,vs,rfl,h,t⟩
theorem zw.set {w:W}(q:RV K φ H w v):∀{ws:List W}{vs:List V}(i:Nat),zw K φ H ws vs->zw K φ H (ws.set i w) (vs.set i v)
 |[],_,_,h=>by cases h;exact rfl|_::_,_,0,⟨a,r,e,h,t⟩=>by subst e;exact⟨v,r,rfl,q,t⟩|_::_,_,i+1,⟨a,r,e,h,t⟩=>by subst e;exact⟨a,_,rfl,h,zw.set q i t⟩
theorem zw.drop:∀{ws:List W}{vs:List V}(n:Nat),zw K φ H ws vs->zw K φ H (ws.drop n) (vs.drop n)
 |[],_,n,h=>by cases h;rw[List.drop_nil,List.drop_nil];exact zw.nil|_::_,_,0,h=>by simpa using h|_::_,_,n+1,⟨v,r,e,h,t⟩=>by subst e;simpa using zw.drop n t
theorem zw.take:∀{ws:List W}{vs:List V}(n:Nat),zw K φ H ws vs->zw K φ H (ws.take n) (vs.take n)
 |[],_,n,h=>by cases h;rw[List.take_nil,List.take_nil];exact zw.nil|_::_,_,0,h=>by rw[List.take_zero,List.take_zero];exact zw.nil|_::_,_,n+1,⟨v,r,e,h,t⟩=>by subst e;exact⟨v,_,rfl,h,zw.take n t⟩
theorem zw.erase:∀{ws:List W}{vs:List V}(n:Nat),zw K φ H ws vs->zw K φ H (ws.eraseIdx n) (vs.eraseIdx n)
 |[],_,n,h=>by cases h;rw[List.eraseIdx_nil,List.eraseIdx_nil];exact zw.nil|_::_,_,0,⟨v,r,e,h,t⟩=>by subst e;simpa using t|_::_,_,n+1,⟨v,r,e,h,t⟩=>by subst e;exact⟨v,_,rfl,h,zw.erase n t⟩
theorem zw.ints:∀{ns:bM}{vs:List V},zw K φ H (ns.map W.int) vs↔vs=ns.map V.int
 |[],vs=>Iff.rfl|n::ns,vs=>by
  constructor
  ·rintro⟨v,r,e,h,t⟩
   rw[e,(show v=V.int n from h),zw.ints.mp t];rfl
  ·intro e
   exact⟨V.int n,ns.map V.int,e,rfl,zw.ints.mpr rfl⟩
def JE (K:Frag)(H:Hp)(a:Addr)(xs:List V):Prop:=
 (∃ob,H a=some (.frz ob (.lst xs)))∨
  ∃(o:Obj) (its:Array Value) (n:Nat),K.lookup a=some o/\o.cls=.type "list" /\ o.dict=none/\o.data=.seq its n/\its.size<=sizeLine/\Vals xs its.toList
def JE.sq (h:JE K H a xs):qN K H a xs:=by
 rcases h with h|h
 ·exact .inl (.inr h)
 ·exact .inr h
inductive TabAt (H:Hp)(q:Str)(cv:Value):Prop
 |mk (c:Addr) (oc:Obj) (u:HO) (vs:Array Value) (t:Tok) (e:cv=.ref c) (h:H c=some (.frz oc u)) (d:oc.data=.fields vs/\vs[1]? =some (.str q t))
def Yt (H:Hp)(q:Str)(ps:Array Value):Prop:=TriplesOk ps.toList/\∀pos cv,codeAmong pos ps.toList=some cv->TabAt H q cv
def Yt.mono {q:Str}{ps:Array Value}(h:Yt H q ps)(l:∀a o u,H a=some (.frz o u)->H' a=some (.frz o u)):Yt H' q ps:=
 ⟨h.1,λpos cv e=>by obtain⟨c,b,u,vs,t,g,f,d⟩:=h.2 pos cv e;exact⟨c,b,u,vs,t,g,l _ _ _ f,d⟩⟩
noncomputable def hT (k:bM):Int:=reduceHash (Builtin.Tuple.tupleHashOf (k.map hashInt))
def BB (a:Addr)(xs:List (List Int×Addr×V))(h:Heap):Prop:=(a==sysModules)=false/\xs.length<=sizeLine/\∃zs:List (List Int×Addr×Value),
 Paired (λ(p:List Int×Addr×V) (q:List Int×Addr×Value)=>p.1=q.1/\p.2.1=q.2.1/\RelV p.2.2 q.2.2) xs zs/\
 ∃o e E,h.get? a=some o/\o.ExactDict/\o.data=.dict e E/\e.toList=zs.map (λx=>(⟨hT x.1,.ref x.2.1,x.2.2⟩:DictEntry))/\(zs.map (·.1)).Nodup
def OR (K:Frag)(φ:bO)(H:Hp)(a:Addr):O->Prop
 |.lst ws=>∃vs,H a=some (.lst vs)/\zw K φ H ws vs|.ro ws=>∃vs,JE K H a vs/\zw K φ H ws vs|.dct k=>∃us,H a=some (.dK us)/\us.map (·.1)=k.map (·.1)/\zw K φ H (k.map (·.2)) (us.map (·.2))|.td k=>∃xs:List (List Int×Addr×V),H a=some (.ext (BB a xs))/\xs.map (·.1)=k.map (·.1)/\(∀x∈xs,qy K H x.2.1 (x.1.map V.int))/\zw K φ H (k.map (·.2)) (xs.map (·.2.2))|.tab q P=>a=P/\∃ps,H a=some (.tbl ps)/\Yt H q ps
structure zE (K:Frag)(φ:bO)(A:Hx)(H:Hp):Prop where
 len:φ.length=A.length
 inj:∀(i j:Nat)(a:Addr)(o o':O),φ[i]? =some a->φ[j]? =some a->A[i]? =some o->A[j]? =some o'->o.mut=true->o'.mut=true->i=j
 ob:∀(n:Nat)(o:O),A[n]? =some o->∃a,φ[n]? =some a/\OR K φ H a o
variable {A:Hx}
def OR.there {o:O}(h:OR K φ H a o)(m:o.mut=true):∃u,H a=some u/\(∀xs,u≠.tup xs)/\(∀ob v,u≠.frz ob v):=by
 cases o with
 |lst ws=>obtain⟨vs,e,_⟩:=h;exact⟨_,e,λ_ z=>(by cases z),λ_ _ z=>(by cases z)⟩|ro ws=>cases m|dct k=>obtain⟨vs,e,_⟩:=h;exact⟨_,e,λ_ z=>(by cases z),λ_ _ z=>(by cases z)⟩|td k=>obtain⟨vs,e,_⟩:=h;exact⟨_,e,λ_ z=>(by cases z),λ_ _ z=>(by cases z)⟩|tab q P=>obtain⟨_,vs,e,_⟩:=h;exact⟨_,e,λ_ z=>(by cases z),λ_ _ z=>(by cases z)⟩
def GH {o:HO}(h:qy K H a vs)(n:∀xs,H b≠some (.tup xs))(N:∀ob u,H b≠some (.frz ob u)):qy K (upd H b o) a vs:=by
 rcases h with (h|⟨ob,h⟩)|h
 ·exact .inl (.inl (by rw[qc];exact h;intro e;subst e;exact n _ h))
 ·exact .inl (.inr ⟨ob,by rw[qc];exact h;intro e;subst e;exact N _ _ h⟩)
 ·exact .inr h
theorem Le.upd {o:HO}(c:φ[k]? =some b)(n:∀xs,H b≠some (.tup xs))(N:∀ob u,H b≠some (.frz ob u)):Le K φ H φ (upd H b o) where
 ex:=λ_ _ h=>h
 tp:=λ_ _ h=>GH h n N
 fr:=λa u h z=>by
  rw[qc];exact h;intro e;subst e;exact z k c
 nw:=λ_ _ h=>.inl h
 st:=λa h=>by
  by_cases e:a=b
  ·subst e;rw[jI]at h;cases h
  ·rw[qc e]at h;exact h
 fz:=λa ob u h=>by
  rw[qc];exact h;intro e;subst e;exact N _ _ h
def Le.new {p:Addr}{o:HO}(b:H p=none):Le K φ H φ (L2.upd H p o) where
 ex:=λ_ _ h=>h
 tp:=λ_ _ h=>GH h (λxs z=>by rw[b]at z;cases z) (λ_ _ z=>by rw[b]at z;cases z)
 fr:=λa u h z=>by
  rw[qc];exact h;intro e;subst e;rw[b]at h;cases h
 nw:=λ_ _ h=>.inl h
 st:=λa h=>by
  by_cases e:a=p
  ·subst e;rw[jI]at h;cases h
  ·rw[qc e]at h;exact h
 fz:=λa ob u h=>by
  rw[qc];exact h;intro e;subst e;rw[b]at h;cases h
def Le.alloc {p:Addr}{o:HO}(b:H p=none):Le K φ H (φ++[p]) (L2.upd H p o) where
 ex:=λn a h=>by
  have:=(cg.mp h).1
  rw[ai this];exact h
 tp:=(Le.new (φ:=φ) b).tp
 fr:=(Le.new (K:=K) (φ:=φ) b).fr
 nw:=λn a h=>by
  by_cases hn:n < φ.length
  ·rw[ai hn]at h;exact .inl h
  ·rw[av (by omega)]at h
   have e:a=p:=by
    have:=bE h
    simpa using this
   subst e;exact .inr b
 st:=(Le.new (K:=K) (φ:=φ) b).st
 fz:=(Le.new (K:=K) (φ:=φ) b).fz
def Le.ofD {o:HO}(b:H D=none)(l:yD K D φ (L2.upd H D o) φ' H'):Le K φ H φ' H' where
 ex:=l.ex
 tp:=λa vs h=>l.tp a vs ((Le.new (K:=K) (φ:=φ) b).tp a vs h)
 fr:=λa u h n=>by
  have ne:a≠D:=by rintro rfl;rw[b]at h;cases h
  exact l.fr a u ne (by rw[qc ne];exact h) n
 nw:=λn a e=>by
  rcases l.nw n a e with e|e
  ·exact .inl e
  ·by_cases h:a=D
   ·subst h;rw[jI]at e;cases e
   ·rw[qc h]at e;exact .inr e
 st:=λa e=>by
  have E:=l.st a e
  by_cases h:a=D
  ·subst h;rw[jI]at E;cases E
  ·rw[qc h]at E;exact E
 fz:=λa ob u h=>l.fz a ob u (by rw[qc];exact h;rintro rfl;rw[b]at h;cases h)
theorem yD.upd {o:HO}(b:H D=some (.lst xs)):yD K D φ H φ (L2.upd H D o) where
 ex:=λ_ _ h=>h
 tp:=λa vs h=>GH h (λxs z=>by rw[b]at z;cases z) (λ_ _ z=>by rw[b]at z;cases z)
 fr:=λa u ne h n=>by rw[qc ne];exact h
 nw:=λ_ _ h=>.inl h
 st:=λa e=>by
  by_cases h:a=D
  ·subst h;rw[jI]at e;cases e
  ·rw[qc h]at e;exact e
 fz:=λa ob u h=>by
  rw[qc];exact h;intro e;subst e;rw[b]at h;cases h
def OR.keep {o:O}(h:OR K φ H a o)(l:Le K φ H φ' H')(e:∀u,H a=some u->H' a=some u):OR K φ' H' a o:=by
 cases o with
 |lst ws=>obtain⟨vs,q,r⟩:=h;exact⟨vs,e _ q,r.mono l⟩|dct s=>obtain⟨vs,q,k,r⟩:=h;exact⟨vs,e _ q,k,r.mono l⟩|td s=>obtain⟨vs,q,k,t,r⟩:=h;exact⟨vs,e _ q,k,λx b=>l.tp _ _ (t x b),r.mono l⟩|tab q P=>obtain⟨k,ps,q,r⟩:=h;exact⟨k,ps,e _ q,r.mono l.fz⟩|ro ws=>
  obtain⟨vs,q,r⟩:=h;refine⟨vs,?_,r.mono l⟩;rcases q with ⟨ob,q⟩|q
  ·exact .inl ⟨ob,e _ q⟩
  ·exact .inr q
theorem zE.alloc {p:Addr}{u:HO}{o:O}(S:zE K φ A H)(r:H p=none)(new:OR K (φ++[p]) (L2.upd H p u) p o):Le K φ H (φ++[p]) (L2.upd H p u)/\zE K (φ++[p]) (A++[o]) (L2.upd H p u):=by
 have l:Le K φ H (φ++[p]) (L2.upd H p u):=Le.alloc r;have old:∀(i:Nat) a,(φ++[p])[i]? =some a->i<A.length->φ[i]? =some a:=λi a e b=>by
  rw[ai (by rw[S.len];exact b)]at e;exact e
 refine⟨l,by simp[S.len],λi j a x w k g f c m1 m2=>?_,λn o' e=>?_⟩
 ·by_cases b:i<A.length
  ·by_cases d:j<A.length
   ·rw[ai b]at f
    rw[ai d]at c;exact S.inj i j a x w (old i a k b) (old j a g d) f c m1 m2
   ·exfalso
    rw[ai b]at f;have t:j=A.length:=by have:=(cg.mp c).1;simp at this;omega
    subst t;rw[av (by rw[S.len];exact au _),S.len]at g
    simp at g;obtain⟨B,E,q⟩:=S.ob i x f;rw[old i a k b]at E;cases E;obtain⟨z,h,_⟩:=q.there m1;rw[<- g,r]at h;cases h
  ·have v:i=A.length:=by have:=(cg.mp f).1;simp at this;omega
   by_cases d:j<A.length
   ·exfalso
    rw[ai d]at c;subst v;rw[av (by rw[S.len];exact au _),S.len]at k
    simp at k;obtain⟨B,E,q⟩:=S.ob j w c;rw[old j a g d]at E;cases E;obtain⟨z,h,_⟩:=q.there m2;rw[<- k,r]at h;cases h
   ·have:=(cg.mp c).1;simp at this;omega
 ·by_cases hn:n<A.length
  ·rw[ai hn]at e
   obtain⟨a,E,q⟩:=S.ob n o' e;refine⟨a,l.ex _ _ E,q.keep l λz h=>?_⟩;rw[qc];exact h;intro y;subst y;rw[r]at h;cases h
  ·have s:n=A.length:=by have:=(cg.mp e).1;simp at this;omega
   subst s;rw[av (au _)]at e;simp at e;subst e;exact⟨p,by rw[av (by rw[S.len];exact au _),S.len];simp,new⟩
def zE.write {p:Addr}{u:HO}{o o':O}(S:zE K φ A H)(hn:A[n]? =some o)(m:o.mut=true)(J:o'.mut=true)(c:φ[n]? =some p)(new:OR K φ (L2.upd H p u) p o'):
  Le K φ H φ (L2.upd H p u)/\zE K φ (A.set n o') (L2.upd H p u):=by
 obtain⟨P,e,q⟩:=S.ob n o hn;rw[c]at e;cases e;obtain⟨z,h,x,N⟩:=q.there m;have l:Le K φ H φ (L2.upd H p u):=Le.upd c (λxs e=>by rw[h]at e;exact x xs (aB e)) λob v e=>by rw[h]at e;exact N ob v (aB e)
 have mt:∀(i:Nat)(w:O),(A.set n o')[i]? =some w->w.mut=true->∃d,A[i]? =some d/\d.mut=true:=λi w e M=>by
  by_cases hi:i=n
  ·subst hi;exact⟨o,hn,m⟩
  ·rw[aJ (Ne.symm hi)]at e;exact⟨w,e,M⟩
 refine⟨l,by simp[S.len],λi j a t s D C B y m1 m2=>?_,λi w e=>?_⟩
 ·obtain⟨g,E,k1⟩:=mt i t B m1
  obtain⟨f,I,k2⟩:=mt j s y m2;exact S.inj i j a g f D C E I k1 k2
 ·by_cases hi:i=n
  ·subst hi
   have:i<A.length:=(cg.mp hn).1
   rw[aH this]at e;cases e;exact⟨p,c,new⟩
  ·rw[aJ (Ne.symm hi)]at e
   obtain⟨a,E,r⟩:=S.ob i w e;refine⟨a,E,?_⟩
   by_cases hm:w.mut=true
   ·have ne:a≠p:=λz=>hi (S.inj i n a w o E (by rw[z];exact c) e hn hm m)
    exact r.keep l λz h=>by rw[qc ne];exact h
   ·cases w with
    |lst _=>exact absurd rfl hm|dct _=>exact absurd rfl hm|td _=>exact absurd rfl hm|tab _ _=>exact absurd rfl hm|ro ws=>
     obtain⟨vs,b,k⟩:=r;refine⟨vs,?_,k.mono l⟩;rcases b with ⟨ob,b⟩|b
     ·refine .inl ⟨ob,?_⟩
      rw[qc];exact b;intro z;subst z;rw[h]at b;exact N _ _ (aB b)
     ·exact .inr b
def zE.lay {p:Addr}{u:HO}(S:zE K φ A H)(b:H p=none):zE K φ A (L2.upd H p u):=
 ⟨S.len,S.inj,λn o e=>by
  obtain⟨a,c,q⟩:=S.ob n o e;refine⟨a,c,q.keep (Le.new b) λz h=>?_⟩;rw[qc];exact h;intro E;subst E;rw[b]at h;cases h⟩
def zE.off {o:HO}(S:zE K φ A H)(b:H D=some (.lst xs))(n:∀k:Nat,φ[k]?≠some D):zE K φ A (L2.upd H D o):=
 ⟨S.len,S.inj,λk u e=>by
  obtain⟨a,E,q⟩:=S.ob k u e;have ne:a≠D:=λz=>n k (by rw[<- z];exact E)
  have l:yD K D φ H φ (L2.upd H D o):=yD.upd b;refine⟨a,E,?_⟩;cases u with
  |lst ws=>obtain⟨vs,q,r⟩:=q;exact⟨vs,by rw[qc ne];exact q,r.monoD l⟩|dct s=>obtain⟨vs,q,k,r⟩:=q;exact⟨vs,by rw[qc ne];exact q,k,r.monoD l⟩|td s=>obtain⟨vs,q,k,t,r⟩:=q;exact⟨vs,by rw[qc ne];exact q,k,λx h=>l.tp _ _ (t x h),r.monoD l⟩|tab _ _=>obtain⟨k,vs,q,r⟩:=q;exact⟨k,vs,by rw[qc ne];exact q,r.mono l.fz⟩|ro ws=>
   obtain⟨vs,q,r⟩:=q;refine⟨vs,?_,r.monoD l⟩;rcases q with ⟨ob,q⟩|q
   ·exact .inl ⟨ob,by rw[qc ne];exact q⟩
   ·exact .inr q⟩
def zE.notin (S:zE K φ A H)(b:H D=none)(d:K.lookup D=none):∀k:Nat,φ[k]?≠some D:=λk e=>by
 have c:k<A.length:=by rw[<- S.len];exact(cg.mp e).1
 obtain⟨a,E,q⟩:=S.ob k A[k] (by simp[c])
 rw[e]at E;cases E;cases h:A[k] with
 |lst ws=>rw[h]at q;obtain⟨vs,z,_⟩:=q;rw[b]at z;cases z|dct ws=>rw[h]at q;obtain⟨vs,z,_⟩:=q;rw[b]at z;cases z|td _=>rw[h]at q;obtain⟨vs,z,_⟩:=q;rw[b]at z;cases z|tab _ _=>rw[h]at q;obtain⟨_,vs,z,_⟩:=q;rw[b]at z;cases z|ro ws=>
  rw[h]at q;obtain⟨vs,z,_⟩:=q;rcases z with ⟨ob,z⟩|⟨o,i,n,z,_⟩
  ·rw[b]at z;cases z
  ·rw[d]at z;cases z
def zE.Jh {u:HO}{o:O}(S:zE K φ A H)(I:H D=some u)(n:∀k:Nat,φ[k]?≠some D)(new:OR K (φ++[D]) H D o):zE K (φ++[D]) (A++[o]) H:=by
 have l:Zx K φ H (φ++[D]) H:=⟨λn a h=>by
  have:=(cg.mp h).1
  rw[ai this];exact h,λ_ _ h=>h,λ_ _ _ h=>h⟩
 have old:∀(i:Nat) a,(φ++[D])[i]? =some a->i<A.length->φ[i]? =some a:=λi a e b=>by
  rw[ai (by rw[S.len];exact b)]at e;exact e
 have last:∀a,(φ++[D])[A.length]? =some a->a=D:=λa e=>by
  rw[av (by rw[S.len];exact au _),S.len]at e
  simpa using e.symm
 refine⟨by simp[S.len],λi j a B y w v s d m1 m2=>?_,λk o' e=>?_⟩
 ·by_cases b:i<A.length
  ·by_cases c:j<A.length
   ·rw[ai b]at s
    rw[ai c]at d;exact S.inj i j a B y (old i a w b) (old j a v c) s d m1 m2
   ·exfalso
    have g:j=A.length:=by have:=(cg.mp d).1;simp at this;omega
    subst g;exact n i (by rw[<- last a v];exact old i a w b)
  ·have p:i=A.length:=by have:=(cg.mp s).1;simp at this;omega
   by_cases c:j<A.length
   ·exfalso
    subst p;exact n j (by rw[<- last a w];exact old j a v c)
   ·have:=(cg.mp d).1;simp at this;omega
 ·by_cases hn:k<A.length
  ·rw[ai hn]at e
   obtain⟨a,E,q⟩:=S.ob k o' e;refine⟨a,l.ex _ _ E,?_⟩;cases o' with
   |lst ws=>obtain⟨vs,z,r⟩:=q;exact⟨vs,z,r.monoW l⟩|dct ws=>obtain⟨vs,z,Z,r⟩:=q;exact⟨vs,z,Z,r.monoW l⟩|td _=>obtain⟨vs,z,Z,t,r⟩:=q;exact⟨vs,z,Z,λx C=>l.tp _ _ (t x C),r.monoW l⟩|tab _ _=>exact q|ro ws=>obtain⟨vs,z,r⟩:=q;exact⟨vs,z,r.monoW l⟩
  ·have f:k=A.length:=by have:=(cg.mp e).1;simp at this;omega
   subst f;rw[av (au _)]at e;simp at e;subst e;exact⟨D,by rw[av (by rw[S.len];exact au _),S.len];simp,new⟩
def Le.Jh {b:bO}{H0:Hp}(l:Le K b H0 φ H)(h0:H0 D=none):Le K b H0 (φ++[D]) H where
 ex:=λn a h=>by
  have h':=l.ex n a h
  have:=(cg.mp h').1
  rw[ai this];exact h'
 tp:=l.tp
 fr:=l.fr
 nw:=λn a e=>by
  by_cases hn:n < φ.length
  ·rw[ai hn]at e;exact l.nw n a e
  ·rw[av (by omega)]at e
   have E:a=D:=by
    have:=bE e
    simpa using this
   subst E;exact .inr h0
 st:=l.st
 fz:=l.fz
end
noncomputable abbrev St:=L2.St
abbrev XR:=Str->Hp->Prop
def PB (K:Frag)(φ:bO)(H:Hp)(Q:VK):W->Hx->Prop:=λw A=>∀a h v,Le K φ H a h->zE K a A h->RV K a h w v->Q v h
def By (K:Frag)(φ:bO)(H:Hp)(Q:List V->Hp->Prop):List W->Hx->Prop:=λw A=>∀a h v,Le K φ H a h->zE K a A h->zw K a h w v->Q v h
noncomputable def EB (K:Frag)(φ:bO)(H:Hp)(X:XR):Str->Hx->Prop:=λx A=>∀a h,Le K φ H a h->zE K a A h->X x h
structure RE (K:Frag)(φ:bO)(H:Hp)(ρ:En)(σ:St):Prop where
 len:σ.length=ρ.length
 get:∀(i:Nat)(w:W),ρ[i]? =some (some w)->∃v,σ[i]? =some (some v)/\RV K φ H w v
section
variable {K:Frag}{φ1 φ':bO}{H1 H':Hp}{A:Hx}{ρ:En}{xr:XR}
theorem RE.mono (r:RE K φ H ρ σ)(l:Le K φ H φ' H'):RE K φ' H' ρ σ:=⟨r.len,λi w e=>let ⟨v,h1,h⟩:=r.get i w e;⟨v,h1,h.mono l⟩⟩
def PB.mono {Q:VK}{w:W}(h:PB K φ H Q w A)(l:Le K φ H φ1 H1):PB K φ1 H1 Q w A:=λa b v L=>h a b v (l.trans L)
def EB.mono (h:EB K φ H xr x A)(l:Le K φ H φ1 H1):EB K φ1 H1 xr x A:=λa b L=>h a b (l.trans L)
theorem RE.set {w:W}(r:RE K φ H ρ σ)(q:RV K φ H w v):RE K φ H (ρ.set i (some w)) (σ.set i (some v)):=
 ⟨by simp[r.len],λj u e=>by
  by_cases h:i=j
  ·subst h
   have a:i < ρ.length:=by
    have:=(cg.mp e).1
    simpa using this
   rw[aH a]at e;cases e;exact⟨v,by rw[aH (by rw[r.len];exact a)],q⟩
  ·rw[aJ h]at e
   obtain⟨x,c,b⟩:=r.get j u e;exact⟨x,by rw[aJ h];exact c,b⟩⟩
end
inductive MM (K:Frag)(xr:XR)(m:Ev)(σ:St)(H:Hp)(Q:VK):Prop
 |mk (φ:bO) (A:Hx) (ρ:En) (S:zE K φ A H) (re:RE K φ H ρ σ) (h:(m ρ A).post (PB K φ H Q) (EB K φ H xr))
noncomputable def tM (K:Frag)(x:XR)(m:Ev):TE:=λσ H Q=>MM K x m σ H Q
inductive MT (K:Frag)(xr:XR)(m:Ev)(σ:St)(H:Hp)(Q:Bool->Hp->Prop):Prop
 |mk (φ:bO) (A:Hx) (ρ:En) (S:zE K φ A H) (re:RE K φ H ρ σ) (h:(m ρ A).post (λw A'=>∃b,w=.bl b/\∀φ' H',Le K φ H φ' H'->zE K φ' A' H'->Q b H') (EB K φ H xr))
noncomputable def tT (K:Frag)(x:XR)(m:Ev):TT:=λσ H Q=>MT K x m σ H Q
abbrev Ea:=En->Hx->R (List W)
inductive MA (K:Frag)(xr:XR)(m:Ea)(σ:St)(H:Hp)(Q:List V->Hp->Prop):Prop
 |mk (φ:bO) (A:Hx) (ρ:En) (S:zE K φ A H) (re:RE K φ H ρ σ) (h:(m ρ A).post (By K φ H Q) (EB K φ H xr))
noncomputable def Wl (K:Frag)(x:XR)(m:Ea):TA:=λσ H Q=>MA K x m σ H Q
def SE (X:Cx)(x:XR)(e:Expr)(m:Ev):Prop:=PE X e (tM X.K x m)
def ST (X:Cx)(x:XR)(e:Expr)(m:Ev):Prop:=PT X e (tT X.K x m)
def SW (X:Cx)(x:XR)(e:Expr)(m:Ev):Prop:=PW X e (tT X.K x m)
def SA (X:Cx)(x:XR)(e:bT)(m:Ea):Prop:=PA X e (Wl X.K x m)
section
variable {xr:XR}{a b:Expr}{es:bT}{m ma mb mc:Ev}
def PE.imp {t t':TE}(h:PE X e t)(i:∀σ H Q,t' σ H Q->t σ H Q):PE X e t':=λpins s σ H Q I hw=>h pins s σ H Q I (i σ H Q hw)
def PT.imp {t t':TT}(h:PT X e t)(i:∀σ H Q,t' σ H Q->t σ H Q):PT X e t':=λpins s σ H Q I hw=>h pins s σ H Q I (i σ H Q hw)
def PW.imp {t t':TT}(h:PW X e t)(i:∀σ H Q,t' σ H Q->t σ H Q):PW X e t':=λw pins s σ H Q I hw=>h w pins s σ H Q I (i σ H Q hw)
def PA.imp {t t':TA}(h:PA X es t)(i:∀σ H Q,t' σ H Q->t σ H Q):PA X es t':=λp pins s σ H Q I hw=>h p pins s σ H Q I (i σ H Q hw)
def tM.go {K:Frag}{A:Hx}{ρ:En}{Q:VK}{G:W->Hx->Prop}(S:zE K φ A H)(r:RE K φ H ρ σ)(h:(m ρ A).post G (EB K φ H xr))
  (k:∀w A1 a H1 v,G w A1->Le K φ H a H1->zE K a A1 H1->RV K a H1 w v->Q v H1):tM K xr m σ H Q:=
 ⟨φ,A,ρ,S,r,qp h (λw A1 g a H1 v l s q=>k w A1 a H1 v g l s q) λ_ _ z=>z⟩
def Wl.go {K:Frag}{A:Hx}{ρ:En}{m:Ea}{Q:List V->Hp->Prop}{G:List W->Hx->Prop}(S:zE K φ A H)(r:RE K φ H ρ σ)(h:(m ρ A).post G (EB K φ H xr))
  (k:∀w A1 a H1 v,G w A1->Le K φ H a H1->zE K a A1 H1->zw K a H1 w v->Q v H1):Wl K xr m σ H Q:=
 ⟨φ,A,ρ,S,r,qp h (λw A1 g a H1 v l s q=>k w A1 a H1 v g l s q) λ_ _ z=>z⟩
def tT.go {K:Frag}{A:Hx}{ρ:En}{Q:Bool->Hp->Prop}{G:W->Hx->Prop}(S:zE K φ A H)(r:RE K φ H ρ σ)(h:(m ρ A).post G (EB K φ H xr))
  (k:∀w A1,G w A1->∃b,w=.bl b/\∀a H1,Le K φ H a H1->zE K a A1 H1->Q b H1):tT K xr m σ H Q:=
 ⟨φ,A,ρ,S,r,qp h (λw A1 g=>k w A1 g) λ_ _ z=>z⟩
noncomputable def zH (i:Nat):Ev:=λρ A=>match ρ[i]? with
 |some (some w)=>.ok w A|_=>.bad
noncomputable def zy (w:W):Ev:=λ_ A=>.ok w A
noncomputable def zc (g:W->W->Hx->R W)(a b:Ev):Ev:=λρ A=>(a ρ A).bind λx A1=>(b ρ A1).bind λy A2=>g x y A2
noncomputable def qP (g:W->Hx->R W)(a:Ev):Ev:=λρ A=>(a ρ A).bind λx A1=>g x A1
noncomputable abbrev gA:Str->Hx->Prop:=λ_ _=>False
def j6 (K:Frag)(r:R2)(g:W->W->Hx->R W):Prop:=∀φ A H x y u v Q,zE K φ A H->RV K φ H u x->RV K φ H v y->(g u v A).post (PB K φ H Q) gA->r x y H Q
def Wx (K:Frag)(r:V->Hp->VK->Prop)(g:W->Hx->R W):Prop:=∀φ A H x u Q,zE K φ A H->RV K φ H u x->(g u A).post (PB K φ H Q) gA->r x H Q
def qv (r:R α):Prop:=∀x A,r≠.exc x A
def Qi {r:R α}{P:α->Hx->Prop}{E:Str->Hx->Prop}(n:qv r)(h:r.post P E):r.post P gA:=by
 cases r with
 |ok a A=>exact h|exc x A=>exact absurd rfl (n x A)|bad=>exact h
def zc.read {g:W->W->Hx->R W}{r:R2}(hn:∀x y A,qv (g x y A))(e:j6 X.K r g):∀σ H Q,tM X.K xr (zc g ma mb) σ H Q->Jx r (tM X.K xr ma) (tM X.K xr mb) σ H Q:=by
 rintro σ H Q ⟨φ,A,ρ,S,re,h⟩
 refine tM.go S re (zV.mp h) λw A1 b H1 v i l j d=>?_;refine tM.go j (re.mono l) (qp (zV.mp i) (λ_ _ z=>z) λ_ _ z=>z.mono l) λc A2 a k v2 f L s q=>?_;exact e a A2 k v v2 w c Q s (d.mono L) q (qp (Qi (hn _ _ _) f) (λ_ _ z=>z.mono (l.trans L)) λ_ _ z=>z)
def qP.read {g:W->Hx->R W}{r:V->Hp->VK->Prop}(hn:∀x A,qv (g x A))(b:Wx X.K r g):∀σ H Q,tM X.K xr (qP g ma) σ H Q->Pn r (tM X.K xr ma) σ H Q:=by
 rintro σ H Q ⟨φ,A,ρ,S,re,h⟩
 refine tM.go S re (zV.mp h) λw A1 a H1 v c l s q=>?_;exact b a A1 H1 v w Q s q (qp (Qi (hn _ _) c) (λ_ _ z=>z.mono l) λ_ _ z=>z)
def ZR {op:Operator}{r:R2}{g:W->W->Hx->R W}(h:qH X (binaryOp op) r)(hn:∀x y A,qv (g x y A))(H:j6 X.K r g)(d:SE X xr a ma)(c:SE X xr b mb):SE X xr (.BinOp a op b pos) (zc g ma mb):=
 PE.imp (DP h d c) (zc.read hn H)
def DG {op:UnaryOp}{r:V->Hp->VK->Prop}{g:W->Hx->R W}(h:Wv X (unaryOp op) r)(hn:∀x A,qv (g x A))(H:Wx X.K r g)(b:SE X xr a ma):SE X xr (.UnaryOp op a pos) (qP g ma):=
 PE.imp (CJ h b) (qP.read hn H)
def SY {r:R2}{g:W->W->Hx->R W}(h:qH X (compareOp op) r)(hn:∀x y A,qv (g x y A))(H:j6 X.K r g)(d:SE X xr a ma)(c:SE X xr b mb)(hm:behindInMarks op b=false):SE X xr (.Compare a [op] [b] pos) (zc g ma mb):=
 PE.imp (HD h d c hm) (zc.read hn H)
def tT.toM {K:Frag}{Q:Bool->Hp->Prop}(h:tT K xr m σ H Q):tM K xr m σ H λx d=>∃k,x=.bl k/\Q k d:=by
 obtain⟨φ,A,ρ,S,re,h⟩:=h;refine tM.go S re h λw A1 a H1 v ⟨b,e,q⟩ l s c=>?_;subst e;exact⟨b,c,q a H1 l s⟩
def Rj {r:R2}{g:W->W->Hx->R W}(o:qH X (compareOp op) r)(hn:∀x y A,qv (g x y A))(c:j6 X.K r g)(e:SE X xr a ma)(d:SE X xr b mb)(hm:behindInMarks op b=false):ST X xr (.Compare a [op] [b] pos) (zc g ma mb):=
 PT.imp (Hw o e d hm) λσ H Q h=>zc.read hn c σ H _ h.toM
noncomputable def yO (g g':W->W->Hx->R W)(a b c:Ev):Ev:=λρ A=>(a ρ A).bind λx A1=>(b ρ A1).bind λy A2=>(g x y A2).bind λz d=>match z with
 |.bl true=>(c ρ d).bind λw e=>g' y w e|.bl false=>.ok (.bl false) d|_=>.bad
def yO.read {g g':W->W->Hx->R W}{r i:R2}(hn:∀x y A,qv (g x y A))(T:j6 X.K r g)(n:∀x y A,qv (g' x y A))(o:j6 X.K i g'):
  ∀σ H Q,tM X.K xr (yO g g' ma mb mc) σ H Q->Xc r i (tM X.K xr ma) (tM X.K xr mb) (tM X.K xr mc) σ H Q:=by
 rintro σ H Q ⟨φ,A,ρ,S,re,h⟩
 refine tM.go S re (zV.mp h) λw A1 E H1 v Z L S1 P=>?_;refine tM.go S1 (re.mono L) (qp (zV.mp Z) (λ_ _ z=>z) λ_ _ z=>z.mono L) λf A2 b D v2 Y B S2 s=>?_;have j:=L.trans B;have p:=zV.mp Y;have a:(g w f A2).post (PB X.K b D λz c=>∃k,z=.bl k/\if k=true then tM X.K xr mc σ c λJ q=>i v2 J q Q else Q (.bl false) c) gA:=by
  refine qp (Qi (hn _ _ _) p) (λz A3 a e c zv u C N=>?_) λ_ _ z=>z;have l:=j.trans u;cases z with
  |bl k=>
   refine⟨k,N,?_⟩;cases k with
   |true=>
    rw[ag rfl];refine tM.go C (re.mono l) (qp (zV.mp a) (λ_ _ z=>z) λ_ _ z=>z.mono l) λI A4 d q v4 U t S4 M=>?_;exact o d A4 q v2 v4 f I Q S4 ((s.mono u).mono t) M (qp (Qi (n _ _ _) U) (λ_ _ z=>z.mono (l.trans t)) λ_ _ z=>z)
   |false=>
    rw[ar aA];exact a e c _ l C rfl
  |non=>cases a|int _=>cases a|str _=>cases a|tup _=>cases a|ref _=>cases a|clo _ _ _=>cases a|xc _=>cases a
 exact T b A2 D v v2 w f _ S2 (P.mono B) s a
def LV {c:Expr}{o:CmpOp}{r e:R2}{g g':W->W->Hx->R W}(f:qH X (compareOp op) r)(hn:∀x y A,qv (g x y A))(i:j6 X.K r g)(h:qH X (compareOp o) e)(H:∀x y A,qv (g' x y A))(d:j6 X.K e g')
  (l:SE X xr a ma)(k:SE X xr b mb)(j:SE X xr c mc)(hm:lastMarks [op,o] [b,c]=false:=by with_unfolding_all rfl):SE X xr (.Compare a [op,o] [b,c] pos) (yO g g' ma mb mc):=
 PE.imp (Ld f h l k j hm) (yO.read hn i H d)
def L8 {c:Expr}{o:CmpOp}{r i:R2}{g g':W->W->Hx->R W}(j:qH X (compareOp op) r)(hn:∀x y A,qv (g x y A))(k:j6 X.K r g)(d:qH X (compareOp o) i)(e:∀x y A,qv (g' x y A))(f:j6 X.K i g')
  (p:SE X xr a ma)(n:SE X xr b mb)(l:SE X xr c mc)(hm:lastMarks [op,o] [b,c]=false:=by with_unfolding_all rfl):ST X xr (.Compare a [op,o] [b,c] pos) (yO g g' ma mb mc):=
 PT.imp (Lq j d p n l hm) λσ H Q h=>yO.read hn k e f σ H _ h.toM
noncomputable def kh (a b:Ev):Ev:=λρ A=>(a ρ A).bind λx A1=>match x with
 |.bl true=>b ρ A1|.bl false=>.ok (.bl false) A1|_=>.bad
noncomputable def y8 (a b:Ev):Ev:=λρ A=>(a ρ A).bind λx A1=>match x with
 |.bl true=>.ok (.bl true) A1|.bl false=>b ρ A1|_=>.bad
noncomputable def yw (a:Ev):Ev:=λρ A=>(a ρ A).bind λx A1=>match x with
 |.bl k=>.ok (.bl (!k)) A1|_=>.bad
noncomputable def Zr (c a b:Ev):Ev:=λρ A=>(c ρ A).bind λx A1=>match x with
 |.bl true=>a ρ A1|.bl false=>b ρ A1|_=>.bad
theorem tT.mono {K:Frag}{c:bO}{H1:Hp}{A1:Hx}{ρ:En}{Q:Bool->Hp->Prop}(S:zE K c A1 H1)(L:Le K φ H c H1)(re:RE K φ H ρ σ)
  (h:(m ρ A1).post (λw A=>∃b,w=.bl b/\∀a d,Le K φ H a d->zE K a A d->Q b d) (EB K φ H xr)):tT K xr m σ H1 Q:=
 ⟨c,A1,ρ,S,re.mono L,qp h (λw A ⟨b,e,q⟩=>⟨b,e,λa d l s=>q a d (L.trans l) s⟩) λ_ _ z=>z.mono L⟩
noncomputable def zo:Ea:=λ_ A=>.ok [] A
noncomputable def zi (a:Ev)(r:Ea):Ea:=λρ A=>(a ρ A).bind λx A1=>(r ρ A1).bind λxs A2=>.ok (x::xs) A2
noncomputable def jL (a:Ea):Ev:=λρ A=>(a ρ A).bind λxs A1=>.ok (.tup xs) A1
noncomputable def z8 (a:Ea):Ev:=λρ A=>(a ρ A).bind λxs A1=>.ok (.ref A1.length) (A1++[.lst xs])
def Yc {K:Frag}{A:Hx}{p:Addr}{ws:List W}(S:zE K φ A H)(h:H p=none)(r:zw K φ H ws vs):
  Le K φ H φ (upd H p (.tup vs))/\zE K φ A (upd H p (.tup vs))/\RV K φ (upd H p (.tup vs)) (.tup ws) (.ref p):=
 ⟨Le.new h,S.lay h,p,vs,rfl,qy.of jI,r.mono (Le.new h)⟩
def Zg {K:Frag}{A:Hx}{p:Addr}{ws:List W}(S:zE K φ A H)(h:H p=none)(r:zw K φ H ws vs):
  Le K φ H (φ++[p]) (upd H p (.lst vs))/\zE K (φ++[p]) (A++[.lst ws]) (upd H p (.lst vs))/\RV K (φ++[p]) (upd H p (.lst vs)) (.ref A.length) (.ref p):=by
 have l:Le K φ H (φ++[p]) (upd H p (.lst vs)):=Le.alloc h;obtain⟨b,a⟩:=S.alloc (o:=.lst ws) h ⟨vs,jI,r.mono l⟩;exact⟨b,a,p,rfl,by rw[<- S.len];simp⟩
def FQ {M:Ea}(h:SA X xr es M)(d:∀ρ A ws a,M ρ A=.ok ws a->ws.length<=sizeLine):SE X xr (.List es pos) (z8 M):=
 PE.imp (F9 h) λσ H Q ⟨φ,A,ρ,S,re,h⟩=>by
  have h':=zV.mp h;cases e:M ρ A with
  |ok ws a=>
   rw[e]at h';refine⟨φ,A,ρ,S,re,?_⟩;rw[e];intro b H1 vs l s q;refine⟨by rw[<- q.length];exact d ρ A ws a e,λp c=>?_⟩
   obtain⟨a1,a2,f⟩:=Zg s c q;exact h' _ _ _ (l.trans a1) a2 f
  |exc x a=>rw[e]at h';refine⟨φ,A,ρ,S,re,?_⟩;rw[e];exact h'|bad=>rw[e]at h';exact h'.elim
end
inductive Fl where
 |nx (ρ:En)|rt (w:W)|bk (ρ:En)|ct (ρ:En)
abbrev Ex:=En->Hx->R Fl
def FB (K:Frag)(φ:bO)(H:Hp)(D:Ends):Fl->Hx->Prop
 |.nx ρ,A=>∀a h b,Le K φ H a h->zE K a A h->RE K a h ρ b->D.nx b h|.rt w,A=>∀a h v,Le K φ H a h->zE K a A h->RV K a h w v->D.rt v h|.bk ρ,A=>∀a h b,Le K φ H a h->zE K a A h->RE K a h ρ b->D.bk b h|.ct ρ,A=>∀a h b,Le K φ H a h->zE K a A h->RE K a h ρ b->D.ct b h
def FB.mono {K:Frag}{c:bO}{H1:Hp}{D:Ends}{f:Fl}{A:Hx}(h:FB K φ H D f A)(l:Le K φ H c H1):FB K c H1 D f A:=by
 cases f with
 |nx ρ=>exactλa b v L=>h a b v (l.trans L)|rt ρ=>exactλa b v L=>h a b v (l.trans L)|bk ρ=>exactλa b v L=>h a b v (l.trans L)|ct ρ=>exactλa b v L=>h a b v (l.trans L)
inductive MS (K:Frag)(xr:XR)(m:Ex)(D:Ends)(σ:St)(H:Hp):Prop
 |mk (φ:bO) (A:Hx) (ρ:En) (S:zE K φ A H) (re:RE K φ H ρ σ) (h:(m ρ A).post (FB K φ H D) (EB K φ H xr))
noncomputable def tS (K:Frag)(x:XR)(m:Ex):TS:=λD σ H=>MS K x m D σ H
def SS (X:Cx)(x:XR)(st:Stmt)(m:Ex):Prop:=PS X st (tS X.K x m)
def YC (X:Cx)(x:XR)(st:b8)(m:Ex):Prop:=yr X st (tS X.K x m)
section
variable {xr:XR}{a b c:Expr}{st:Stmt}{rest:b8}{m:Ev}{m1 m2:Ex}
def PS.imp {t t':TS}(h:PS X st t)(i:∀D σ H,t' D σ H->t D σ H):PS X st t':=λpins s σ H D I hw=>h pins s σ H D I (i D σ H hw)
def yr.imp {t t':TS}(h:yr X rest t)(i:∀D σ H,t' D σ H->t D σ H):yr X rest t':=λpins s σ H D I hw=>h pins s σ H D I (i D σ H hw)
noncomputable def zB:Ex:=λρ A=>.ok (.nx ρ) A
noncomputable def zl (m1 m2:Ex):Ex:=λρ A=>(m1 ρ A).bind λl A1=>match l with
 |.nx ρ1=>m2 ρ1 A1|f=>.ok f A1
noncomputable def QI (m:Ev):Ex:=λρ A=>(m ρ A).bind λ_ A1=>.ok (.nx ρ) A1
noncomputable def qF (m:Ev):Ex:=λρ A=>(m ρ A).bind λw A1=>.ok (.rt w) A1
noncomputable def qB (c:Ev)(a b:Ex):Ex:=λρ A=>(c ρ A).bind λx A1=>match x with
 |.bl true=>a ρ A1|.bl false=>b ρ A1|_=>.bad
noncomputable def zN (i:Nat)(m:Ev):Ex:=λρ A=>(m ρ A).bind λw A1=>.ok (.nx (ρ.set i (some w))) A1
def zN.read:∀D σ H,tS X.K xr (zN i m) D σ H->KQ (tM X.K xr m) (KG i) D σ H:=by
 rintro D σ H ⟨φ,A,ρ,S,re,h⟩
 exact tM.go S re (zV.mp h) λw A1 a H1 v b l s q=>b a H1 _ l s ((re.mono l).set q)
noncomputable def kN (g:W->W->W->Hx->R Unit)(me mo mi:Ev):Ex:=λρ A=>(me ρ A).bind λv A1=>(mo ρ A1).bind λo A2=>(mi ρ A2).bind λi b=>(g o i v b).bind λ_ a=>.ok (.nx ρ) a
def Rx (K:Frag)(t:Yw)(g:W->W->W->Hx->R Unit):Prop:=∀φ A H o i v w b wv Q,zE K φ A H->RV K φ H w o->RV K φ H b i->RV K φ H wv v->
 (g w b wv A).post (λ_ c=>∀a h,Le K φ H a h->zE K a c h->Q h) gA->t o i v H Q
def Il {o i:Expr}{mo mi:Ev}{t:Yw}{g:W->W->W->Hx->R Unit}(M:XJ X t)(hn:∀o i v A,qv (g o i v A))(U:Rx X.K t g)(he:SE X xr e m)(P:SE X xr o mo)(T:SE X xr i mi)
  (N:swapsWithSole [.Subscript o i tpos] e pos.line X.env=pure false:=by rfl)(hw:swappedStores [.Subscript o i tpos] e X.env=pure none:=by rfl)
  (j:(assignEach [.Subscript o i tpos] X.env).map (·.2)=[assign (.Subscript o i tpos) X.env]:=by rfl)
  (Y:∀v,assign (.Subscript o i tpos) X.env v=(do
   let ov <- holding [v] (eval o X.env)
   let iv <- holding [v,ov] (eval i X.env)
   standAt tpos
   holding [v,ov,iv] (setItem ov iv v)
   release [v,ov,iv] []):=by intro _;rfl):SS X xr (.Assign [.Subscript o i tpos] e pos) (kN g m mo mi):=
 PS.imp (SU he (Dj P T M Y) N hw j) λD σ H ⟨φ,A,ρ,S,re,h⟩=>by
  refine tM.go S re (zV.mp h) λn A1 C H1 v1 j f S1 J=>?_;refine tM.go S1 (re.mono f) (qp (zV.mp j) (λ_ _ z=>z) λ_ _ z=>z.mono f) λk A2 B H2 v2 Z q S2 I=>?_;have l:=f.trans q;refine tM.go S2 (re.mono l) (qp (zV.mp Z) (λ_ _ z=>z) λ_ _ z=>z.mono l) λw y c H3 E a d S3 Q=>?_;have L:=l.trans d;refine U c y H3 v2 E v1 k w n _ S3 (I.mono d) Q (J.mono (q.trans d)) ?_;cases r:g k w n y with
  |ok u s=>
   rw[r]at a;exactλb H4 p S4=>a b H4 σ (L.trans p) S4 (re.mono (L.trans p))
  |exc x s=>exact absurd r (hn _ _ _ _ x s)|bad=>rw[r]at a;exact a.elim
structure jv where
 at_:Hx->Nat->Option (Option W)
 len:Nat
def Z4 (K:Frag)(φ:bO)(H:Hp)(j:jv)(J:It):Prop:=∀i a h A,Zx K φ H a h->zE K a A h->
 (∀w,j.at_ A i=some (some w)->J.go i h/\∀x H1,J.yld i h x H1->Le K a h a H1/\zE K a A H1/\RV K a H1 w x)/\(j.at_ A i=some none->J.stop i h)
abbrev Ei:=En->Hx->R jv
inductive MI (K:Frag)(xr:XR)(mi:Ei)(σ:St)(H:Hp)(Rr:It->Hp->Prop):Prop
 |mk (φ:bO) (A:Hx) (ρ:En) (S:zE K φ A H) (re:RE K φ H ρ σ) (h:(mi ρ A).post (λj A1=>∀φ1 H1 J,Le K φ H φ1 H1->zE K φ1 A1 H1->Z4 K φ1 H1 j J->Rr J H1) (EB K φ H xr))
noncomputable def tI (K:Frag)(x:XR)(mi:Ei):TI:=λσ H r=>MI K x mi σ H r
def SI (X:Cx)(x:XR)(t iter:Expr)(mi:Ei):Prop:=PI X t iter (tI X.K x mi)
def PI.imp {t t':TI}(h:PI X tg e t)(i:∀σ H Q,t' σ H Q->t σ H Q):PI X tg e t':=λpins s σ H Q I hw=>h pins s σ H Q I (i σ H Q hw)
abbrev Tg:=W->En->Option En
inductive MG (K:Frag)(tw:Tg)(v:V)(σ:St)(H:Hp)(Q:St->Hp->Prop):Prop
 |mk (φ:bO) (A:Hx) (ρ:En) (w:W) (ρ':En) (S:zE K φ A H) (re:RE K φ H ρ σ) (rv:RV K φ H w v) (t:tw w ρ=some ρ') (q:∀σ',RE K φ H ρ' σ'->Q σ' H)
noncomputable def tG (K:Frag)(tw:Tg):TG:=λv σ H Q=>MG K tw v σ H Q
def SG (X:Cx)(t:Expr)(tw:Tg):Prop:=PG X t (tG X.K tw)
def PG.imp {t t':TG}(h:PG X tg t)(i:∀v σ H Q,t' v σ H Q->t v σ H Q):PG X tg t':=λpins s σ H v u Q I r hw=>h pins s σ H v u Q I r (i v σ H Q hw)
noncomputable def zF (i:Nat):Tg:=λw ρ=>some (ρ.set i (some w))
noncomputable def wN (i j:Nat):Tg:=λw ρ=>match w with
 |.tup [x,y]=>some ((ρ.set i (some x)).set j (some y))|_=>none
noncomputable def j5 (j:jv)(st:W->Ex):Nat->Nat->Ex
 |0,i,ρ,A=>match j.at_ A i with
  |some none=>.ok (.nx ρ) A|_=>.bad
 |f+1,i,ρ,A=>match j.at_ A i with
  |some none=>.ok (.nx ρ) A|some (some w)=>(st w ρ A).bind λl A1=>match l with
   |.nx ρ1=>j5 j st f (i+1) ρ1 A1|.ct ρ1=>j5 j st f (i+1) ρ1 A1|.bk ρ1=>.ok (.nx ρ1) A1|.rt w=>.ok (.rt w) A1
  |none=>.bad
noncomputable def turn (tw:Tg)(body:Ex)(w:W):Ex:=λρ A=>match tw w ρ with
 |some ρ1=>body ρ1 A|none=>.bad
def yT (mi:Ei)(tw:Tg)(body:Ex):Ex:=λρ A=>(mi ρ A).bind λj A1=>j5 j (turn tw body) j.len 0 ρ A1
inductive Px (K:Frag)(xr:XR)(j:jv)(t:W->Ex)(D:Ends)(φ1:bO)(H1:Hp)(f i:Nat)(σ':St)(H':Hp):Prop
 |mk (φ2:bO) (A2:Hx) (ρ2:En) (l:Le K φ1 H1 φ2 H') (S:zE K φ2 A2 H') (re:RE K φ2 H' ρ2 σ') (h:(j5 j t f i ρ2 A2).post (FB K φ2 H' D) (EB K φ2 H' xr))
noncomputable def Zl (c:Ev)(body:Ex):Nat->Ex
 |0,ρ,A=>.bad|f+1,ρ,A=>(c ρ A).bind λx A1=>match x with
  |.bl true=>(body ρ A1).bind λl A2=>match l with
   |.nx ρ1=>Zl c body f ρ1 A2|.ct ρ1=>Zl c body f ρ1 A2|.bk ρ1=>.ok (.nx ρ1) A2|.rt w=>.ok (.rt w) A2
  |.bl false=>.ok (.nx ρ) A1|_=>.bad
def G2 (f:Nat)(c:Ev)(body:Ex):Ex:=Zl c body f
noncomputable def Qv (nl:Nat)(cap:bQ)(ρ:En):En:=List.replicate nl none++cap.map λi=>(ρ[i]?).join
theorem RE.gU {K:Frag}{ρ:En}{nl:Nat}(r:RE K φ H ρ σ):RE K φ H (Qv nl cap ρ) (L2.gU nl cap σ):=by
 refine⟨by simp[Qv,L2.gU],λi w e=>?_⟩
 unfold Qv at e;unfold L2.gU
 by_cases hi:i<nl
 ·rw[ai (by simpa using hi),bw]at e
  split at e<;>cases e
 ·rw[av (by simpa using hi),bC,aw]at e
  rw[av (by simpa using hi),bC,aw]
  cases c:cap[i-nl]? with
  |none=>rw[c]at e;cases e|some k=>
   rw[c]at e;have E:(ρ[k]?).join=some w:=aB e;cases h:ρ[k]? with
   |none=>rw[h]at E;cases E|some o=>cases o with
    |none=>rw[h]at E;cases E|some d=>
     rw[h]at E;cases E;obtain⟨v,b,a⟩:=r.get k w h;exact⟨v,by simp[b],a⟩
abbrev Em:=En->List W->Hx->R (En×List W)
noncomputable def qa:Nat:=100000
def zL (elt:Ev):Em:=λρ acc A=>(elt ρ A).bind λy A1=>if acc.length<qa then .ok (ρ,acc++[y]) A1 else .bad
noncomputable def ju (j:jv)(tw:Tg)(ifs:Ev)(em:Em):Nat->Nat->Em
 |0,i,ρ,acc,A=>match j.at_ A i with
  |some none=>.ok (ρ,acc) A|_=>.bad
 |f+1,i,ρ,acc,A=>match j.at_ A i with
  |some none=>.ok (ρ,acc) A|some (some w)=>match tw w ρ with
   |some ρ1=>(ifs ρ1 A).bind λc A1=>match c with
    |.bl true=>(em ρ1 acc A1).bind λp A2=>ju j tw ifs em f (i+1) p.1 p.2 A2|.bl false=>ju j tw ifs em f (i+1) ρ1 acc A1|_=>.bad
   |none=>.bad
  |none=>.bad
def Jj (mi:Ei)(tw:Tg)(ifs:Ev)(em:Em):Em:=λρ acc A=>(mi ρ A).bind λj A1=>ju j tw ifs em j.len 0 ρ acc A1
abbrev jV:=En->Hx->R (List W)
def zO (nl:Nat)(cap:bQ)(mi:Ei)(tw:Tg)(ifs:Ev)(em:Em):jV:=λρ A=>(mi ρ A).bind λj A1=>(ju j tw ifs em j.len 0 (Qv nl cap ρ) [] A1).nox.bind λp A2=>.ok p.2 A2
def Vc (K:Frag)(D:Addr)(φ:bO)(H:Hp)(Q:St->Hp->Prop)(p:En×List W)(A1:Hx):Prop:=∀a H1 b zs,yD K D φ H a H1->(∀k:Nat,a[k]?≠some D)->zE K a A1 H1->RE K a H1 p.1 b->H1 D=some (.lst zs)->zw K a H1 p.2 zs->Q b H1
inductive ME (K:Frag)(em:Em)(D:Addr)(σ:St)(H:Hp)(Q:St->Hp->Prop):Prop
 |mk (φ:bO) (A:Hx) (ρ:En) (acc:List W) (ys:List V) (S:zE K φ A H) (re:RE K φ H ρ σ) (hD:H D=some (.lst ys)) (nD:∀k:Nat,φ[k]?≠some D) (rv:zw K φ H acc ys)
  (h:(em ρ acc A).post (Vc K D φ H Q) gA)
noncomputable def tE (K:Frag)(em:Em):wC:=λD σ H Q=>ME K em D σ H Q
noncomputable abbrev yB:XR:=λ_ _=>False
def SM (X:Cx)(elt:Expr)(gens:List Comprehension)(sc:Scope)(c:Pos)(d:Nat)(em:Em):Prop:=kU X elt gens sc c d (tE X.K em)
def kU.imp {d:Nat}{t t':wC}(h:kU X elt gens sc pos d t)(i:∀D σ H Q,t' D σ H Q->t D σ H Q):kU X elt gens sc pos d t':=
 λpins s σ H D Q k Q' E I hw a=>h pins s σ H D Q k Q' E I (i D σ H Q hw) a
def Gs {K:Frag}{r:R α}{P:α->Hx->Prop}(h:r.post P gA):r.post P (EB K φ H yB):=qp h (λ_ _ z=>z) λ_ _ z=>z.elim
def Yy (X:Cx)(ifs:bT)(m:Ev):Prop:=Zj X ifs (tT X.K yB m)
inductive R8 (tw:Tg)(ifs:Ev)(em:Em)(j:jv)(K:Frag)(D:Addr)(φ:bO)(H:Hp)(Q:St->Hp->Prop)(f i:Nat)(σ':St)(H':Hp):Prop
 |mk (φ2:bO) (A2:Hx) (ρ2:En) (acc2:List W) (ys2:List V) (l:yD K D φ H φ2 H') (S:zE K φ2 A2 H') (re:RE K φ2 H' ρ2 σ') (hD:H' D=some (.lst ys2)) (nD:∀k:Nat,φ2[k]?≠some D) (ra:zw K φ2 H' acc2 ys2) (h:(ju j tw ifs em f i ρ2 acc2 A2).post (Vc K D φ H Q) gA)
def ju.read {tw:Tg}{ifs:Ev}{em:Em}{j:jv}{J:It}{K:Frag}{A:Hx}{ρ:En}{acc:List W}{Q:St->Hp->Prop}{f:Nat}
  (jr:Z4 K φ H j J)
  (S:zE K φ A H)(re:RE K φ H ρ σ)(hD:H D=some (.lst ys))(nD:∀k:Nat,φ[k]?≠some D)(ra:zw K φ H acc ys)
  (h:(ju j tw ifs em f 0 ρ acc A).post (Vc K D φ H Q) gA):
  Yh J (tG K tw) (tT K yB ifs) (tE K em) D σ H Q:=by
 refine⟨λi f b P=>R8 tw ifs em j K D φ H Q f i b P,
  ⟨f,φ,A,ρ,acc,ys,.refl,S,re,hD,nD,ra,h⟩,?_⟩
 rintro i f U H2 ⟨g,A2,s,e,Y,B,S2,t,M,u,n,a⟩
 obtain⟨j1,j2⟩:=jr i g H2 A2 ⟨B.ex,B.tp,B.fz⟩ S2;cases E:j.at_ A2 i with
 |none=>cases f<;>(unfold ju at a;rw[E]at a;exact a.elim)|some o=>
  cases o with
  |none=>
   left
   refine⟨j2 E,?_⟩;cases f<;>(unfold ju at a;rw[E]at a;exact a g H2 U Y B u S2 t M n)
  |some w=>
   right
   obtain⟨go,yl⟩:=j1 w E;cases f with
   |zero=>unfold ju at a;rw[E]at a;exact a.elim|succ f=>
    unfold ju at a;rw[E]at a;refine⟨go,λb P=>R8 tw ifs em j K D φ H Q f (i+1) b P,λb P z=>⟨f,bq _,z⟩,λx H3 y=>?_⟩;obtain⟨v,S3,q3⟩:=yl x H3 y;obtain⟨hD3,Z⟩:=v.off M u;dsimp only at a;cases et:tw w s with
    |none=>rw[et]at a;exact a.elim|some l=>
     rw[et]at a;refine⟨g,A2,s,w,l,S3,t.mono v,q3,et,λσ3 r=>?_⟩;refine tT.go S3 r (Gs (zV.mp a)) λc A4 d=>?_;cases c with
     |bl k=>
      refine⟨k,rfl,λq H4 L S4=>?_⟩;obtain⟨I,N⟩:=L.off hD3 Z;have C:=(B.trans (v.trans L).toD);cases k with
      |true=>
       rw[ag rfl];refine⟨q,A4,l,e,Y,S4,r.mono L,I,N,n.mono (v.trans L),qp (zV.mp d) (λp A5 h5 T H5 σ5 zs l5 n5 S5 X d5 r5=>?_) λ_ _ z=>z⟩;exact⟨T,A5,p.1,p.2,zs,C.trans l5,S5,X,d5,n5,r5,h5⟩
      |false=>
       rw[ar aA];exact⟨q,A4,l,e,Y,C,S4,r.mono L,I,N,n.mono (v.trans L),d⟩
     |non=>cases d|int _=>cases d|str _=>cases d|tup _=>cases d|ref _=>cases d|clo _ _ _=>cases d|xc _=>cases d
def Z4.mono {K:Frag}{b:bO}{H1:Hp}{j:jv}{J:It}(h:Z4 K φ H j J)(l:Zx K φ H b H1):Z4 K b H1 j J:=
 λi c d A L=>h i c d A ⟨λn a e=>L.ex n a (l.ex n a e),λa vs e=>L.tp a vs (l.tp a vs e),λa o u e=>L.fz a o u (l.fz a o u e)⟩
inductive MF (K:Frag)(xr:XR)(mq:jV)(σ:St)(H:Hp)(Q:VK):Prop
 |mk (φ:bO) (A:Hx) (ρ:En) (S:zE K φ A H) (re:RE K φ H ρ σ) (h:(mq ρ A).post (λws A1=>∀φ1 H1 D ys,Le K φ H φ1 H1->zE K φ1 A1 H1->H D=none->H1 D=some (.lst ys)->(∀k:Nat,φ1[k]?≠some D)->zw K φ1 H1 ws ys->Q (.ref D) H1) (EB K φ H xr))
noncomputable def tF (K:Frag)(x:XR)(M:jV):TE:=λσ H Q=>MF K x M σ H Q
def SF (X:Cx)(x:XR)(e:Expr)(M:jV):Prop:=PE X e (tF X.K x M)
theorem zO.read {mi:Ei}{tw:Tg}{M:Ev}{em:Em}{nl:Nat}:∀σ H Q,tF X.K xr (zO nl cap mi tw M em) σ H Q->Kv X.K (tI X.K xr mi) (tG X.K tw) (tT X.K yB M) (tE X.K em) nl cap σ H Q:=by
 rintro σ H Q ⟨φ,A,ρ,S,re,h⟩
 refine⟨φ,A,ρ,S,re,qp (zV.mp h) (λj A1 t b H1 J l s o D c q=>?_) λ_ _ z=>z⟩;have ln:Le X.K b H1 b (upd H1 D (.lst [])):=Le.new c;have a:=zV.mp t;refine ju.read (o.mono ⟨ln.ex,ln.tp,ln.fz⟩) (s.lay c) ((re.mono (l.trans ln)).gU) jI (s.notin c q) .nil ?_ (f:=j.len) (acc:=[]);cases e:ju j tw M em j.len 0 (Qv nl cap ρ) [] A1 with
 |ok p A2=>
  rw[e]at a;intro d w g zs k n v r u i;have L:=l.trans (Le.ofD c k);exact a d w D zs L v (l.st D c) u n i
 |exc x A2=>rw[e]at a;exact a.elim|bad=>rw[e]at a;exact a.elim
noncomputable def qh (q:jV):Ev:=λρ A=>(q ρ A).bind λws A1=>.ok (.ref A1.length) (A1++[.lst ws])
def qh.read {q:jV}{K:Frag}:∀σ H Q,tM K xr (qh q) σ H Q->tF K xr q σ H Q:=by
 rintro σ H Q ⟨φ,A,ρ,S,re,h⟩
 refine⟨φ,A,ρ,S,re,qp (zV.mp h) (λws A1 d b H1 D ys l s h0 c N r=>?_) λ_ _ z=>z⟩;have ll:Le K φ H (b++[D]) H1:=l.Jh h0;have lw:Zx K b H1 (b++[D]) H1:=⟨λn a h=>by
  have:=(cg.mp h).1
  rw[ai this];exact h,λ_ _ h=>h,λ_ _ _ h=>h⟩
 refine d _ _ _ ll (s.Jh (o:=.lst ws) c N ⟨ys,c,r.monoW lw⟩) ⟨D,rfl,?_⟩;rw[<- s.len];simp
inductive MQ (K:Frag)(xr:XR)(mq:jV)(σ:St)(H:Hp)(Q:VK):Prop
 |mk (φ:bO) (A:Hx) (ρ:En) (S:zE K φ A H) (re:RE K φ H ρ σ) (h:(mq ρ A).post (λws A1=>∀φ1 H1 a ys,Le K φ H φ1 H1->zE K φ1 A1 H1->(qN K H1 a ys∨qy K H1 a ys)->zw K φ1 H1 ws ys->Q (.ref a) H1) (EB K φ H xr))
noncomputable def tQ (K:Frag)(x:XR)(M:jV):TE:=λσ H Q=>MQ K x M σ H Q
def SQ (X:Cx)(x:XR)(e:Expr)(M:jV):Prop:=PE X e (tQ X.K x M)
noncomputable def zS (w:W)(A:Hx):Option (List W):=match w with
 |.tup ws=>some ws|.ref n=>match A[n]? with
  |some (.lst ws)=>some ws|some (.ro ws)=>some ws|_=>none
 |_=>none
def YW {K:Frag}{A:Hx}{w:W}{ws:List W}(S:zE K φ A H)(q:RV K φ H w v)(e:zS w A=some ws):∃a ys,v=.ref a/\(qN K H a ys∨qy K H a ys)/\zw K φ H ws ys:=by
 unfold zS at e;cases w with
 |tup xs=>cases e;obtain⟨a,ys,b,d,E⟩:=q;exact⟨a,ys,b,.inr d,E⟩|ref n=>
  obtain⟨a,b,d⟩:=q;dsimp only at e;cases ea:A[n]? with
  |none=>rw[ea]at e;cases e|some o=>
   rw[ea]at e;obtain⟨f,E,r⟩:=S.ob n o ea;rw[d]at E;cases E;cases o with
   |lst xs=>cases e;obtain⟨ys,c,h⟩:=r;exact⟨a,ys,b,.inl (qN.of c),h⟩|ro xs=>cases e;obtain⟨ys,c,h⟩:=r;exact⟨a,ys,b,.inl c.sq,h⟩|dct xs=>cases e|td _=>cases e|tab _ _=>cases e
 |non=>cases e|bl _=>cases e|clo _ _ _=>cases e|xc _=>cases e|int _=>cases e|str _=>cases e
def qi (m:Ev):jV:=λρ A=>(m ρ A).bind λw A1=>match zS w A1 with
 |some ws=>.ok ws A1|none=>.bad
def K2 (w:W)(A:Hx):Option jv:=match zS w A with
 |some ws=>some ⟨λA i=>(zS w A).map λws=>ws[i]?,ws.length⟩|none=>none
def qo (m:Ev):Ei:=λρ A=>(m ρ A).bind λw A1=>match K2 w A1 with
 |some j=>.ok j A1|none=>.bad
def C9 (K:Frag)(t:TE):TI:=λσ H r=>t σ H λx H1=>∃a,x=.ref a/\(((∃xs,qN K H1 a xs)/\r (Pa K a) H1)∨((∃xs,qy K H1 a xs)/\r (Ph K a) H1))
def De {l:Expr}{t:TE}(j:PE X l t):PI X tg l (C9 X.K t):=by
 intro pins s σ H n I h;refine zP (j pins s σ H _ I h) λv s1 ⟨x,H1,i,g,Q⟩=>?_;obtain⟨a,e,q⟩:=Q;subst e;cases g;have f:∀b∈[s1.heap.objs.size],kG X pins H1 b:=λb k=>by
  have e:b=s1.heap.objs.size:=by simpa using k
  subst e;exact i.fpOk (au _) (i.hok.fresh (au _))
 rcases q with ⟨⟨xs,d⟩,q⟩|⟨⟨xs,d⟩,q⟩
 ·obtain⟨c,r,p,z⟩:=i.list d
  refine wpAny_pyIter_list p.isList ?_;exact⟨s1.heap.objs.size,[s1.heap.objs.size],_,_,H1,rfl,i.kept (t':=s1.toks) λb o e=>af _ e,ML a _,⟨_,aq _ rfl,rfl,rfl⟩,f,q⟩
 ·obtain⟨c,r,p,z⟩:=i.tuple d
  refine wpAny_pyIter_tuple (show s1.heap.IsTuple a c.toArray from p) ?_
  exact⟨s1.heap.objs.size,[s1.heap.objs.size],_,_,H1,rfl,i.kept (t':=s1.toks) λb o e=>af _ e,Ni a _,⟨_,aq _ rfl,rfl,rfl⟩,f,q⟩
noncomputable def yP (lo:Int)(n:Nat):jv:=⟨λ_ i=>if i<n then some (some (.int (lo+i))) else some none,n⟩
def Ee {K:Frag}{lo:Int}:Z4 K φ H (yP lo n) (Wq lo n):=λi a h A lw S=>by
 unfold yP;dsimp only
 by_cases hi:i<n
 ·rw[ag hi]
  refine⟨λw e=>?_,λe=>by cases e⟩
  cases e;exact⟨hi,λx H1 ⟨b,E⟩=>by subst b;exact⟨.refl,S,E⟩⟩
 ·rw[ar hi]
  exact⟨λw e=>(by cases e),λ_=>Nat.le_of_not_lt hi⟩
noncomputable def jN (i:Int):Bool:=decide (-(2 ^ 62)<=i)&&decide (i<2 ^ 62)
def QW {i:Int}(h:jN i=true):-(2 ^ 62)<=i/\i<2 ^ 62:=by
 unfold jN at h;rw[aj,ak,ak]at h;exact h
def jg (m:Ev):Ei:=λρ A=>(m ρ A).bind λw A1=>match w with
 |.int j=>if jN j then .ok (yP 0 j.toNat) A1 else .bad|_=>.bad
end
abbrev Fn:=List W->Hx->R W
def yI (K:Frag)(x:Str)(C:Value):Prop:=nsIn K mainGlobals x=some (some C)
def XE (K:Frag)(E:XK)(x:Str)(H:Hp):Prop:=∀C d,yI K x C->E C d H
inductive YB (K:Frag)(n:Nat)(f:Fn)(vs:List V)(H:Hp)(Q:VK)(E:XK):Prop
 |mk (len:vs.length=n) (φ:bO) (A:Hx) (ws:List W) (S:zE K φ A H) (r:zw K φ H ws vs) (q:(f ws A).post (PB K φ H Q) (EB K φ H (XE K E)))
def YB.len {K:Frag}{f:Fn}{Q:VK}{E:XK}(h:YB K n f vs H Q E):vs.length=n:=by cases h;assumption
inductive zX (P:Program)(w:World)(K:Frag)(mg:bV)(base:Heap)(k:Nat)(x:Str)(n:Nat)(f:Fn):Prop
 |mk (fa:Addr) (fd:FuncData) (ps:bR) (F:yv P w K mg base w6 k fa fd ps (YB K n f)) (at_:mg x=some (.ref fa)) (kp:keepIn K (.ref fa)=true) (bi:Binds K fd ps [])
noncomputable def zQ (f:Fn)(a:Ea):Ev:=λρ A=>(a ρ A).bind λws A1=>f ws A1
section
variable {m ma:Ev}
def gW (m:Ea)(n:Nat):Prop:=∀ρ A ws a,m ρ A=.ok ws a->ws.length=n
def ql:gW zo 0:=λ_ _ _ _ h=>by unfold zo at h;cases h;rfl
def zx {M:Ea}(h:gW M n):gW (zi ma M) (n+1):=λρ A ws a e=>by
 unfold zi at e;cases h1:ma ρ A with
 |ok x A1=>
  rw[h1,zD]at e;cases H:M ρ A1 with
  |ok xs A2=>rw[H,zD]at e;cases e;simp[h ρ A1 xs _ H]|exc x A2=>rw[H]at e;cases e|bad=>rw[H]at e;cases e
 |exc x A1=>rw[h1]at e;cases e|bad=>rw[h1]at e;cases e
end
noncomputable def jk (n:Nat)(m:Ex):Fn:=λws A=>(m (ws.map some++List.replicate (n-ws.length) none) A).nox.bind λf A1=>match f with
 |.rt w=>.ok w A1|.nx _=>.ok .non A1|_=>.bad
theorem RE.start {K:Frag}{ws:List W}(h:zw K φ H ws vs):RE K φ H (ws.map some++List.replicate (N.length-ws.length) none) (L2.start N vs):=by
 unfold L2.start;refine⟨by simp[h.length],λi w e=>?_⟩
 by_cases hi:i<ws.length
 ·rw[ai (by simpa using hi),aw]at e
  cases hw:ws[i]? with
  |none=>rw[hw]at e;cases e|some c=>
   rw[hw]at e;cases e;obtain⟨v,b,a⟩:=h.get hw;refine⟨v,?_,a⟩;rw[ai (by rw[ah,<- h.length];exact hi),aw,b];rfl
 ·rw[av (by simpa using hi),bw]at e
  split at e<;>cases e
section
variable {K:Frag}
theorem zX.mono {f:Fn}(F:zX P w K mg base j x n f)(h:j<=k):zX P w K mg base k x n f:=by cases F with|mk d fd ps F a b c=>exact⟨d,fd,ps,F.mono h,a,b,c⟩
theorem zX.imp {f g:Fn}(F:zX P w K mg base k x n f)(h:∀ws A,ws.length=n->g ws A=.bad∨f ws A=g ws A):zX P w K mg base k x n g:=by
 obtain⟨d,fd,ps,F,a,b,c⟩:=F;refine⟨d,fd,ps,F.imp λvs H Q E ⟨l,φ,A,ws,S,r,q⟩=>⟨l,φ,A,ws,S,r,?_⟩,a,b,c⟩;rcases h ws A (by rw[r.length];exact l) with e|e
 ·rw[e]at q;exact q.elim
 ·rw[e];exact q
end
section
variable {K:Frag}
def jh {a:α}{A:Hx}:qv (R.ok a A):=λ_ _ h=>by cases h
def qe:qv (R.bad:R α):=λ_ _ h=>by cases h
def yW {c:Prop} [Decidable c] {a b:R α}(H:qv a)(h:qv b):qv (if c then a else b):=by split<;>assumption
noncomputable def gz (f:Int->Int->W):W->W->Hx->R W
 |.int i,.int j,A=>.ok (f i j) A|_,_,_=>.bad
def ZY {f:Int->Int->W}:∀x y A,qv (gz f x y A):=λx y A=>by
 unfold gz;split
 ·exact jh
 ·exact qe
noncomputable def Zq (c:Int->Int->Bool)(f:Int->Int->W):W->W->Hx->R W
 |.int i,.int j,A=>if c i j then .ok (f i j) A else .bad|_,_,_=>.bad
def Xp {c:Int->Int->Bool}{f:Int->Int->W}:∀x y A,qv (Zq c f x y A):=λx y A=>by
 unfold Zq;split
 ·exact yW jh qe
 ·exact qe
def ZS {f:Int->Int->W}{g:Int->Int->V}(h:∀i j φ H,RV K φ H (f i j) (g i j)):j6 K (gD g) (gz f):=λφ A H x y u v Q S a q p=>by
 cases u with
 |int i=>cases v with
  |int j=>obtain rfl:=a;obtain rfl:=q;exact⟨i,j,rfl,rfl,p φ H _ .refl S (h i j φ H)⟩|_=>exact p.elim
 |_=>exact p.elim
def Xe {c:Int->Int->Bool}{C:Int->Int->Prop}{f:Int->Int->W}{g:Int->Int->V}(d:∀i j,c i j=true->C i j)(h:∀i j φ H,RV K φ H (f i j) (g i j)):j6 K (rI C g) (Zq c f):=λφ A H x y u v Q S b q p=>by
 cases u with
 |int i=>cases v with
  |int j=>
   obtain rfl:=b;obtain rfl:=q;unfold Zq at p;dsimp only at p
   by_cases a:c i j=true
   ·rw[ag a]at p;exact⟨i,j,rfl,rfl,d i j a,p φ H _ .refl S (h i j φ H)⟩
   ·rw[ar a]at p;exact p.elim
  |_=>exact p.elim
 |_=>exact p.elim
noncomputable def Yr (i j:Int):Bool:=(decide (-(2 ^ 64)<i)&&decide (i<2 ^ 64)) || (decide (-(2 ^ 64)<j)&&decide (j<2 ^ 64))
noncomputable def KR (_ j:Int):Bool:=decide (0<j)
def HU (i j:Int)(h:Yr i j=true):Ys i j:=by
 unfold Yr at h;simp only[bH,aj,decide_eq_true_eq]at h;exact h
def Hi (i j:Int)(h:KR i j=true):(λ_ j=>0<j) i j:=by
 unfold KR at h;simpa using h
def yS:=gz λi j=>.int (i-j)
def kF:=Zq KR λi j=>.int (i%j)
def XS:=gz λi j=>.int (Builtin.bitXor i j)
def Zp:=gz λi j=>.bl (decide (i<j))
def k8:=gz λi j=>.bl (decide (i<=j))
def Jz:=gz λi j=>.bl (decide (j<i))
def Va:=gz λi j=>.bl (decide (j<=i))
noncomputable def XT (i j:Int):Bool:=decide (0<=j)&&decide (j<=1000000)&&decide (i.natAbs<2 ^ 64)
def Iz (i j:Int)(h:XT i j=true):RP i j:=by
 unfold XT at h;simp only[aj,decide_eq_true_eq]at h;exact⟨h.1.1,h.1.2,h.2⟩
def We:=Zq XT λi j=>.int (i ^ j.toNat)
variable {a b c:Expr}
noncomputable def Jp:W->Hx->R W
 |.int i,A=>.ok (.int (-i)) A|_,_=>.bad
structure kQ (X:Cx)(op:CmpOp)(g:W->W->Hx->R W):Prop where
 ex:∃r:R2,qH X (compareOp op) r/\(∀x y A,qv (g x y A))/\j6 X.K r g
 mks:∀b,op≠.In->op≠.NotIn->behindInMarks op b=false
def Qp {r:R2}{g:W->W->Hx->R W}(a:qH X (compareOp op) r)(H:∀x y A,qv (g x y A))(h:j6 X.K r g):kQ X op g:=⟨⟨r,a,H,h⟩,λb a1 a2=>LY b a1 a2⟩
def XG:kQ X .Lt Zp:=Qp Cn ZY (ZS λ_ _ _ _=>rfl)
def XX:kQ X .LtE k8:=Qp DY ZY (ZS λ_ _ _ _=>rfl)
def R6:kQ X .Gt Jz:=Qp CM ZY (ZS λ_ _ _ _=>rfl)
def CV:kQ X .GtE Va:=Qp CG ZY (ZS λ_ _ _ _=>rfl)
end
inductive Ty where
 |non|bl|int|str|tup|lst|dct
 deriving DecidableEq
noncomputable def Ty.nm:Ty->String
 |.non => "NoneType" | .bl => "bool" | .int => "int" | .str => "str" | .tup => "tuple" | .lst => "list" | .dct => "dict"
noncomputable def jE (w:W)(A:Hx):Option Ty:=match w with
 |.non=>some .non|.bl _=>some .bl|.int _=>some .int|.str _=>some .str|.tup _=>some .tup|.ref n=>match A[n]? with
  |some (.lst _)=>some .lst|some (.dct _)=>some .dct|_=>none
 |_=>none
noncomputable def yx (a b:Ty):Bool:=a==b || (a==.bl&&b==.int)
def Kd {K:Frag}(a b:Ty):kitOne K (.type a.nm) (.type b.nm)=some (yx a b):=by
 cases a<;>cases b<;>rfl
section
variable {xr:XR}{K:Frag}{a c:Expr}{es:bT}{m:Ev}
def QN (K:Frag)(H:Hp)(x:V)(t:Ty):Prop:=wj K H x (.type t.nm)∨∃a xs,x=.ref a/\qy K H a xs/\t=.tup
def U7 {A:Hx}{w:W}{t:Ty}(S:zE K φ A H)(q:RV K φ H w v)(e:jE w A=some t):QN K H v t:=by
 cases w with
 |non=>cases e;obtain rfl:=q;exact .inl .non|bl k=>cases e;obtain rfl:=q;exact .inl (.bl k)|clo _ _ _=>cases e|xc _=>cases e|int k=>cases e;obtain rfl:=q;exact .inl (.int k)|str k=>cases e;obtain rfl:=q;exact .inl (.str k)|tup ws=>cases e;obtain⟨a,vs,rfl,h,_⟩:=q;exact .inr ⟨a,vs,rfl,h,rfl⟩|ref n=>
  obtain⟨a,rfl,c⟩:=q;unfold jE at e;dsimp only at e;cases E:A[n]? with
  |none=>rw[E]at e;cases e|some o=>
   rw[E]at e;obtain⟨d,b,r⟩:=S.ob n o E;rw[c]at b;cases b;cases o with
   |lst ws=>cases e;obtain⟨vs,z,_⟩:=r;exact .inl (.lst z)|dct ws=>cases e;obtain⟨vs,z,_⟩:=r;exact .inl (.dK z)|td _=>cases e|tab _ _=>cases e|ro ws=>cases e
def QN.kit {x:V}{t:Ty}(I:Inv X pins σ H s)(r:RelV x u)(h:QN X.K H x t):
  (∀{Q:bS}{E:bS}{A:Around}{c:Ty},(∀tk,Q (.bool (yx t c)) { s with toks:=tk })->wpAny (model X.prog X.w) A (call (.builtin "isinstance") [u,.type c.nm]) Q E s):=by
 intro Q E A c q;rcases h with h|⟨a,xs,rfl,h,rfl⟩
 ·exact UA I r h (Kd t c) q
 ·cases (show u=Value.ref a from r)
  obtain⟨i,_,⟨o,d,b,_⟩,_⟩:=I.tuple h;exact bB kitx_tuple I.kIn ⟨o,d,b⟩ (Kd .tup c) (λz=>nomatch z) q
def BC (K:Frag):List V->Hp->VK->Prop:=λxs H Q=>∃x t c,xs=[x,.ty (Ty.nm c)]/\QN K H x t/\Q (.bl (yx t c)) H
def Fe:jQ X (.builtin "isinstance") (BC X.K):=by
 intro pins s σ H xs us Q I r h;obtain⟨x,t,c,rfl,d,q⟩:=h;obtain⟨u,U,rfl,b,a⟩:=vals2 r;cases (show U=Value.type c.nm from a)
 exact d.kit I b λtk=>⟨.bl (yx t c),H,I.tok tk,rfl,q⟩
def yo (t:Ty)(m:Ev):Ev:=λρ A=>(m ρ A).bind λw A1=>match jE w A1 with
 |some t'=>.ok (.bl (yx t' t)) A1|none=>.bad
def zA:W->W->Hx->R W:=λx y A=>match zS x A,y with
 |some ws,.int i=>match ko ws i with
  |some w=>.ok w A|none=>.bad
 |_,_=>.bad
def Cf:∀x y A,qv (zA x y A):=λx y A=>by
 unfold zA;split
 ·split
  ·exact jh
  ·exact qe
 ·exact qe
def Lc {ws:List W}{i:Int}{w:W}(r:zw K φ H ws ys)(e:ko ws i=some w):∃y,ko ys i=some y/\RV K φ H w y:=by
 unfold ko at e ⊢;rw[<- r.length];cases h:wx ws.length i with
 |none=>rw[h]at e;cases e|some j=>
  rw[h]at e;obtain⟨y,b,a⟩:=r.get (i:=j) e;exact⟨y,b,a⟩
def FT:j6 K (Pb K) zA:=λφ A H x y u v Q S c q p=>by
 unfold zA at p;cases es:zS u A with
 |none=>rw[es]at p;exact p.elim|some ws=>
  rw[es]at p;cases v with
  |int i=>
   obtain rfl:=q;dsimp only at p;cases e:ko ws i with
   |none=>rw[e]at p;exact p.elim|some w=>
    rw[e]at p;obtain⟨a,ys,rfl,z,r⟩:=YW S c es;obtain⟨Y,b,h⟩:=Lc r e;rcases z with z|z
    ·exact .inl ⟨a,ys,i,Y,rfl,rfl,z,b,p φ H _ .refl S h⟩
    ·exact .inr (.inl ⟨a,ys,i,Y,rfl,rfl,z,b,p φ H _ .refl S h⟩)
  |non=>exact p.elim|bl _=>exact p.elim|str _=>exact p.elim|tup _=>exact p.elim|ref _=>exact p.elim|clo _ _ _=>exact p.elim|xc _=>exact p.elim
def QJ (K:Frag)(r:List V->Hp->VK->Prop)(g:List W->Hx->R W):Prop:=∀φ A H a ys ws Q,zE K φ A H->(qN K H a ys∨qy K H a ys)->zw K φ H ws ys->(g ws A).post (PB K φ H Q) gA->r [.ref a] H Q
noncomputable def mQ (g:List W->Hx->R W)(q:jV):Ev:=λρ A=>(q ρ A).bind λws A1=>g ws A1
def mQ.read {g:List W->Hx->R W}{q:jV}(hn:∀ws A,qv (g ws A))(c:QJ X.K r g):∀σ H Q,tM X.K xr (mQ g q) σ H Q->Wg r (Ku (tQ X.K xr q) XD) σ H Q:=by
 rintro σ H Q ⟨φ,A,ρ,S,re,h⟩
 refine⟨φ,A,ρ,S,re,qp (zV.mp h) (λws A1 d b H1 a ys l s z r=>?_) λ_ _ z=>z⟩;exact c b A1 H1 a ys ws Q s z r (qp (Qi (hn _ _) d) (λ_ _ z=>z.mono l) λ_ _ z=>z)
def Xv {id:String}{g:List W->Hx->R W}{q:jV}(d:jQ X (.builtin id) r)(hn:∀ws A,qv (g ws A))(a:QJ X.K r g)(hm:X.mg x=none)(v:bootBuiltins x=some (.builtin id))(f:SQ X xr e q)(c:Gl X x:=by rfl)
  (H:x ≠ "__name__":=by decide)(b:(x==("__debug__":Str))=false:=by decide)(he:starEach [e] X.env=(false,eval e X.env)::starEach [] X.env:=by rfl)(h:(backTo pos (starEach [] X.env)).any (·.1)=false:=by rfl):
  SE X xr (.Call (.Name x p) [e] [] pos) (mQ g q):=PE.imp (ZF d c hm v (qZ f jP he) H b he h) (mQ.read hn a)
def Cw {id:String}{g:List W->Hx->R W}{q:jV}(d:jQ X (.type id) r)(hn:∀ws A,qv (g ws A))(a:QJ X.K r g)(hm:X.mg x=none)(v:bootBuiltins x=some (.type id))(f:SQ X xr e q)(c:Gl X x:=by rfl)
  (H:x ≠ "__name__":=by decide)(b:(x==("__debug__":Str))=false:=by decide)(he:starEach [e] X.env=(false,eval e X.env)::starEach [] X.env:=by rfl)(h:(backTo pos (starEach [] X.env)).any (·.1)=false:=by rfl):
  SE X xr (.Call (.Name x p) [e] [] pos) (mQ g q):=PE.imp (QZ d c hm v (qZ f jP he) H b he h) (mQ.read hn a)
noncomputable def qG:List W->Hx->R W:=λws A=>.ok (.int ws.length) A
def Ft:QJ K (λxs H Q=>∃p ys,xs=[.ref p]/\(qN K H p ys∨qy K H p ys)/\Q (.int ys.length) H) qG:=λφ A H a ys ws Q S z r p=>
 ⟨a,ys,rfl,z,by rw[<- r.length];exact p φ H _ .refl S rfl⟩
noncomputable def yN:List W->Hx->R W:=λws A=>.ok (.tup ws) A
def HY:QJ K (λxs H Q=>∃p ys,xs=[.ref p]/\((qN K H p ys/\∀l,H l=none->Q (.ref l) (upd H l (.tup ys)))∨(qy K H p ys/\Q (.ref p) H))) yN:=λφ A H a ys ws Q S z r p=>by
 refine⟨a,ys,rfl,?_⟩;rcases z with z|z
 ·refine .inl ⟨z,λl h=>?_⟩
  obtain⟨a1,a2,b⟩:=Yc S h r;exact p _ _ _ a1 a2 b
 ·exact .inr ⟨z,p φ H _ .refl S ⟨a,ys,rfl,z,r⟩⟩
variable {b:Expr}
def Th {a:Addr}(I:Inv X pins σ H s)(l:X.calm=true)(z:qN X.K H a ys∨qy X.K H a ys)
  (h:∀(c:bN)(j:Addr)(fp wr:bO)(S:Nat->Heap->Prop)(s2:Shared),Vals ys c->ys.length<=sizeLine->Walks X.prog X.w X.A.in1 j fp wr c.length (λi v=>c[i]? =some v) S->S 0 s2.heap->(∀b∈fp,b<s2.heap.objs.size)->
   (∀(h':Heap)(tk:Nat),(∀b o,b∉wr->s2.heap.get? b=some o->h'.get? b=some o)->Inv X pins σ H { s2 with heap:=h',toks:=tk })->Q (.ref j) s2):
  wpAny (model X.prog X.w) X.A.in1 (pyIter (.ref a)) Q E s:=by
 have g:X.A.in1.handled=none:=I.ok.hd l;have keep:∀(o:Obj)(h':Heap)(tk:Nat),(∀b u,b∉[s.heap.objs.size]->(s.heap.push o).get? b=some u->h'.get? b=some u)->Inv X pins σ H { s with heap:=h',toks:=tk }:=λo h' tk k=>I.kept λb u e=>k b u (by
  intro hm;have q:b=s.heap.objs.size:=by simpa using hm
  exact absurd (q ▸ aF e) (aW _)) (af _ e)
 rcases z with z|z
 ·obtain⟨c,r,p,f⟩:=I.list z
  have t:a<s.heap.objs.size:=by obtain⟨o,n,e,_⟩:=p;exact aF e
  refine wpAny_pyIter_list p.isList ?_;have W:=Walks.list (prog:=X.prog) (w:=X.w) g s.heap.objs.size a (aK t) c.toArray;rw[aE]at W;simp only[List.getElem?_toArray]at W;refine h c s.heap.objs.size _ _ _ _ r f W ⟨⟨_,aq _ rfl,rfl,rfl⟩,p.isList.at λo e=>af _ e⟩ (λb d=>?_) λh' tk k=>keep _ h' tk k;show b<(s.heap.push _).objs.size;rw[a9];rcases cc.mp d with e|d
  ·rw[e];exact bq _
  ·have e:b=a:=by simpa using d
   rw[e];exact aZ t
 ·obtain⟨c,r,p,f⟩:=I.tuple z
  have t:a<s.heap.objs.size:=p.lt;have P:s.heap.IsTuple a c.toArray:=p;refine wpAny_pyIter_tuple P ?_;have W:=Walks.tuple (prog:=X.prog) (w:=X.w) g s.heap.objs.size a (aK t) c.toArray;rw[aE]at W;simp only[List.getElem?_toArray]at W;refine h c s.heap.objs.size _ _ _ _ r f W ⟨⟨_,aq _ rfl,rfl,rfl⟩,P.at λo e=>af _ e⟩ (λb d=>?_) λh' tk k=>keep _ h' tk k;show b<(s.heap.push _).objs.size;rw[a9];rcases cc.mp d with e|d
  ·rw[e];exact bq _
  ·have e:b=a:=by simpa using d
   rw[e];exact aZ t
noncomputable def Yx:V->Option Bool
 |.bl b=>some b|.int i=>some (i != 0)|.non=>some false|_=>none
noncomputable def Yl:W->Option Bool
 |.bl b=>some b|.int i=>some (i != 0)|.non=>some false|_=>none
def Lb {w:W}{k:Bool}(q:RV K φ H w v)(e:Yl w=some k):Yx v=some k:=by
 cases w<;>first
  |(cases e;done)
  |(obtain rfl:=q;exact e)
def NP {A:Around}{k:Bool}{Q:Bool->Shared->Prop}(r:RelV v u)(e:Yx v=some k)(h:Q k s):wpAny (model X.prog X.w) A (truthy u) Q E s:=by
 cases v with
 |bl b=>cases e;cases r;exact wpAny_truthy_bool h|int i=>
  cases e;obtain⟨t,rfl⟩:=r;exact PySem.P.truthy_int h
 |non=>cases e;cases r;exactλ_ _ _=>h|_=>cases e
def gq:List W->Option (List Bool)
 |[]=>some []|w::ws=>match Yl w,gq ws with
  |some k,some K=>some (k::K)|_,_=>none
theorem V3:∀{ws:List W}{ys:List V}{s:List Bool},zw K φ H ws ys->gq ws=some s->∀(i:Nat)(y:V),ys[i]? =some y->∃k,s[i]? =some k/\Yx y=some k
 |[],_,_,r,e,i,y,h=>by cases r;simp at h|w::ws,_,s,⟨v,r,g,q,t⟩,e,i,y,h=>by
  subst g;unfold gq at e;cases E:Yl w with
  |none=>rw[E]at e;cases e|some k=>
   cases a:gq ws with
   |none=>rw[E,a]at e;cases e|some b=>
    rw[E,a]at e;cases e;cases i with
    |zero=>simp at h;subst h;exact⟨k,by simp,Lb q E⟩|succ i=>simp at h;obtain⟨c,f,d⟩:=V3 t a i y h;exact⟨c,by simpa using f,d⟩
theorem Uk:∀{ws:List W}{K:List Bool},gq ws=some K->K.length=ws.length
 |[],_,e=>by cases e;rfl|w::ws,K,e=>by
  unfold gq at e;cases a:Yl w with
  |none=>rw[a]at e;cases e|some k=>
   cases E:gq ws with
   |none=>rw[a,E]at e;cases e|some b=>rw[a,E]at e;cases e;simp[Uk E]
def range_all (k:List Bool):(List.range k.length).all (λi=>k.getD i false)=k.all id:=by
 rw[Bool.eq_iff_iff,bK,bK]
 constructor
 ·intro h x b
  obtain⟨i,a,rfl⟩:=bA b
  have:=h i (ck.mpr a)
  rw[ae,aa a]at this;exact this
 ·intro h i a
  have H:=ck.mp a;rw[ae,aa H];exact h _ (aN H)
def RU (K:Frag)(f:List Bool->Bool):List V->Hp->VK->Prop:=λxs H Q=>∃a ys s,xs=[.ref a]/\(qN K H a ys∨qy K H a ys)/\s.length=ys.length/\(∀(i:Nat)(y:V),ys[i]? =some y->∃k,s[i]? =some k/\Yx y=some k)/\Q (.bl (f s)) H
def LA {K:List Bool}{A:Around}(r:Vals ys its)(l:K.length=ys.length)(t:∀(i:Nat)(y:V),ys[i]? =some y->∃k,K[i]? =some k/\Yx y=some k):TruthOf X.prog X.w A (λi v=>its[i]? =some v) λi=>K.getD i false:=by
 intro i v s Q E P H;have b:i<its.length:=(cg.mp P).1;have h:i<ys.length:=by rw[r.length];exact b
 obtain⟨u,a,e⟩:=r.get (i:=i) (x:=ys[i]) (by simp[h])
 rw[P]at a;cases a;obtain⟨k,d,c⟩:=t i ys[i] (by simp[h])
 dsimp only at H;rw[ae,d]at H;exact NP e c H
def Lk (f:X.calm=true):jQ X (.builtin "all") (RU X.K λb=>b.all id):=by
 intro pins s σ H xs us Q I r h;obtain⟨a,ys,b,rfl,z,l,t,q⟩:=h;obtain⟨u,rfl,d⟩:=vals1 r;cases d;refine call_all_walk (Th I f z λc g fp wr S s2 v j W st p back=>?_);refine⟨g,fp,wr,_,_,S,λi=>b.getD i false,rfl,W,st,LA v l t,λh' tk k=>?_⟩;have e:c.length=b.length:=by rw[l,v.length]
 rw[e,range_all];exact⟨.bl _,H,back h' tk k,rfl,q⟩
def Zm (f:List Bool->Bool):List W->Hx->R W:=λws A=>match gq ws with
 |some k=>.ok (.bl (f k)) A|none=>.bad
def FX {f:List Bool->Bool}:∀ws A,qv (Zm f ws A):=λws A=>by
 unfold Zm;split
 ·exact jh
 ·exact qe
def Hu {f:List Bool->Bool}:QJ K (RU K f) (Zm f):=λφ A H a ys ws Q S z r p=>by
 unfold Zm at p;cases e:gq ws with
 |none=>rw[e]at p;exact p.elim|some k=>
  rw[e]at p;exact⟨a,ys,k,rfl,z,by rw[Uk e,r.length],V3 r e,p φ H _ .refl S rfl⟩
abbrev Z3:=Zm λk=>k.all id
def FW:qH X (compareOp .Is) (λx y H Q=>∃i j,x=.bl i/\y=.bl j/\Q (.bl (i==j)) H):=by
 intro pins s σ H x y v u Q I a r h;obtain⟨i,j,rfl,rfl,q⟩:=h;cases a;cases r;exact is_bool ⟨.bl _,H,I,rfl,q⟩
noncomputable def Xz:W->Bool
 |.non=>true|_=>false
def Ny {w:W}(q:RV K φ H w v):decide (v=.non)=Xz w:=by
 cases w with
 |non=>obtain rfl:=q;rfl|bl b=>obtain rfl:=q;rfl|clo _ _ _=>obtain⟨a,_,_,_,_,_,_,rfl,_⟩:=q;rfl|xc _=>obtain⟨a,_,_,_,rfl,_⟩:=q;rfl|int b=>obtain rfl:=q;rfl|str b=>obtain rfl:=q;rfl|tup ws=>obtain⟨a,vs,rfl,_⟩:=q;rfl|ref n=>obtain⟨a,rfl,_⟩:=q;rfl
def Jy (neg:Bool):W->W->Hx->R W:=λx y A=>match x,y with
 |.bl i,.bl j=>.ok (.bl (if neg then !(i==j) else i==j)) A|w,.non=>.ok (.bl (if neg then !Xz w else Xz w)) A|_,_=>.bad
def El {n:Bool}:∀x y A,qv (Jy n x y A):=λx y A=>by
 unfold Jy;split
 ·exact jh
 ·exact jh
 ·exact qe
def EC:j6 K (λx y H Q=>(y=.non/\Q (.bl (decide (x=.non))) H)∨∃i j,x=.bl i/\y=.bl j/\Q (.bl (i==j)) H) (Jy false):=λφ A H x y u v Q S b a p=>by
 cases v with
 |non=>
  have q:y=.non:=a;refine .inl ⟨q,?_⟩;rw[Ny b];cases u<;>exact p φ H _ .refl S rfl
 |bl j=>
  cases u with
  |bl i=>obtain rfl:=b;obtain rfl:=a;exact .inr ⟨i,j,rfl,rfl,p φ H _ .refl S rfl⟩|_=>exact p.elim
 |_=>cases u<;>exact p.elim
def Ba:kQ X .Is (Jy false):=Qp (Dz.or FW) El EC
end
noncomputable def RX (outer sc:Scope):Bool:=sc.kind==.function&&decide ((sc.names.map (·.1)).Nodup)&&sc.names.all λy=>y.2 != .free || (outer.names.lookup y.1==some .cell || outer.names.lookup y.1==some .free)
def cps (h:RX X.env.scope sc=true):gE X sc:=by
 unfold RX at h;rw[aj,aj,ak,aI,bK]at h;refine⟨h.1.1,h.1.2,λy H e=>?_⟩
 have:=h.2 y H
 rw[e]at this;simp only[bne_self_eq_false,Bool.false_or,bH,aI]at this;exact this
section
variable {xr:XR}{K:Frag}{a b:Expr}{ma mb:Ev}
theorem zE.lst {φ:bO}{A:Hx}{H:Hp}{n:Nat}{ws:List W}{v:V}(S:zE K φ A H)(q:RV K φ H (.ref n) v)(e:A[n]? =some (.lst ws)):∃p vs,v=.ref p/\φ[n]? =some p/\H p=some (.lst vs)/\zw K φ H ws vs:=by
 obtain⟨p,rfl,a⟩:=q;obtain⟨P,h,vs,c,b⟩:=S.ob n _ e;rw[a]at h;cases h;exact⟨p,vs,rfl,a,c,b⟩
def MW {prog:Program}{A:Around}{t b:Addr}{ws:bN}(a:IsTup s.heap t ([]:bN).toArray)(e:IsTup s.heap b ws.toArray)(h0:Q (.ref b) s):
  wpAny (model prog w) A (binaryOp .Add (.ref t) (.ref b)) Q E s:=by
 obtain⟨⟨cls,dd,data,l⟩,o,c,n,hd⟩:=id a;obtain⟨⟨C,d,data2,S⟩,h,H,N,hd2⟩:=id e;simp only at c hd H hd2;subst c hd H hd2;exact concat_meets ⟨_,o,rfl⟩ ⟨_,h,rfl⟩ noFill_tuple_add seq_tuple_add slot_tuple_add entry_tuple_add (args_tuple_add_2 _ _)
   (tuple_addW0 t b ([]:bN).toArray ws.toArray n N dd d l S (by simp)) ⟨o,h,h0⟩
noncomputable def Rg (K:Frag):R2:=λx y H Q=>∃a b ys,x=.ref a/\y=.ref b/\qy K H a []/\qy K H b ys/\Q (.ref b) H
def Lp:qH X (binaryOp .Add) (Rg X.K):=by
 intro pins s σ H x y v u Q I c r h;obtain⟨a,b,ys,rfl,rfl,g,f,q⟩:=h;cases c;cases r;obtain⟨e,d,P,_⟩:=I.tuple g;obtain⟨i,j,p,_⟩:=I.tuple f;cases d;exact MW P p ⟨.ref b,H,I,rfl,q⟩
def qf:W->W->Hx->R W:=λx y A=>match x,y with
 |.int i,.int j=>.ok (.int (i+j)) A|.tup xs,.tup ys=>if xs.length+ys.length<=qa then .ok (.tup (xs++ys)) A else .bad|.ref n,.ref k=>match A[n]?,A[k]? with
  |some (.lst xs),some (.lst ys)=>if xs.length+ys.length<=qa then .ok (.ref A.length) (A++[.lst (xs++ys)]) else .bad|_,_=>.bad
 |_,_=>.bad
def EN:∀x y A,qv (qf x y A):=λx y A=>by
 unfold qf
 split
 ·exact jh
 ·exact yW jh qe
 ·split
  ·exact yW jh qe
  ·exact qe
 ·exact qe
def g8 (h:n<=qa):n<=sizeLine:=by
 have:sizeLine=16777216:=sizeLine_eq
 unfold qa at h;omega
def Fs:j6 K (λx y H Q=>gD (λi j=>.int (i+j)) x y H Q∨RI K x y H Q∨Rg K x y H Q∨R1 x y H Q) qf:=λφ A H x y u v Q S f q p=>by
 cases u with
 |int i=>cases v with
  |int j=>obtain rfl:=f;obtain rfl:=q;exact .inl ⟨i,j,rfl,rfl,p φ H _ .refl S rfl⟩|_=>exact p.elim
 |tup xs=>cases v with
  |tup ys=>
   obtain⟨a1,b,rfl,t1,c⟩:=f;obtain⟨a2,a,rfl,t,r⟩:=q;unfold qf at p;dsimp only at p
   by_cases h:xs.length+ys.length<=qa
   ·rw[ag h]at p
    by_cases z:b=[]
    ·subst z
     have o:xs=[]:=by
      have:=c.length
      simpa using this
     subst o;exact .inr (.inr (.inl ⟨a1,a2,a,rfl,rfl,t1,t,p φ H _ .refl S ⟨a2,a,rfl,t,r⟩⟩))
    ·refine .inr (.inl ⟨a1,a2,b,a,rfl,rfl,t1,t,z,by rw[<- c.length,<- r.length];exact g8 h,λe=>?_,λne l g=>?_⟩)
     ·subst e
      have o:ys=[]:=by
       have:=r.length
       simpa using this
      subst o;rw[bg]at p;exact p φ H _ .refl S ⟨a1,b,rfl,t1,c⟩
     ·obtain⟨w,s,B⟩:=Yc S g (c.append r)
      exact p _ _ _ w s B
   ·rw[ar h]at p;exact p.elim
  |_=>exact p.elim
 |ref n=>cases v with
  |ref k=>
   unfold qf at p;dsimp only at p;cases E:A[n]? with
   |none=>rw[E]at p;exact p.elim|some I=>cases I with
    |lst xs=>
     cases d:A[k]? with
     |none=>rw[E,d]at p;exact p.elim|some D=>cases D with
      |lst ys=>
       rw[E,d]at p;dsimp only at p;obtain⟨C,v1,rfl,f1,g1,c⟩:=S.lst f E;obtain⟨P,v2,rfl,f2,g2,r⟩:=S.lst q d
       by_cases h:xs.length+ys.length<=qa
       ·rw[ag h]at p
        refine .inr (.inr (.inr ⟨C,P,v1,v2,rfl,rfl,g1,g2,by rw[<- c.length,<- r.length];exact g8 h,λl g=>?_⟩))
        obtain⟨w,s,B⟩:=Zg S g (c.append r);exact p _ _ _ w s B
       ·rw[ar h]at p;exact p.elim
      |_=>rw[E,d]at p;exact p.elim
    |_=>rw[E]at p;exact p.elim
  |_=>exact p.elim
 |_=>cases v<;>exact p.elim
def jo:W->W->Hx->R W:=λx y A=>match x,y with
 |.int i,.int j=>if Yr i j then .ok (.int (i * j)) A else .bad|.ref n,.int k=>match A[n]? with
  |some (.lst xs)=>if jN k&&decide (xs.length * k.toNat<=qa) then .ok (.ref A.length) (A++[.lst (List.replicate k.toNat xs).flatten]) else .bad|_=>.bad
 |_,_=>.bad
def E3:∀x y A,qv (jo x y A):=λx y A=>by
 unfold jo
 split
 ·exact yW jh qe
 ·split
  ·exact yW jh qe
  ·exact qe
 ·exact qe
theorem zw.rep {ws:List W}(r:zw K φ H ws vs):∀n:Nat,zw K φ H (List.replicate n ws).flatten (List.replicate n vs).flatten
 |0=>.nil|n+1=>by rw[bj,bj,aS,aS];exact r.append (zw.rep r n)
def IV:j6 K (λx y H Q=>rI Ys (λi j=>.int (i * j)) x y H Q∨RO x y H Q) jo:=λφ A H x y u v Q S a q p=>by
 cases v with
 |int j=>cases u with
  |int i=>
   obtain rfl:=a;obtain rfl:=q;unfold jo at p;dsimp only at p
   by_cases c:Yr i j=true
   ·rw[ag c]at p;exact .inl ⟨i,j,rfl,rfl,HU i j c,p φ H _ .refl S rfl⟩
   ·rw[ar c]at p;exact p.elim
  |ref n=>
   obtain rfl:=q;unfold jo at p;dsimp only at p;cases e:A[n]? with
   |none=>rw[e]at p;exact p.elim|some o=>cases o with
    |lst xs=>
     rw[e]at p;dsimp only at p;obtain⟨P,v1,rfl,f1,g1,r⟩:=S.lst a e
     by_cases h:(jN j&&decide (xs.length * j.toNat<=qa))=true
     ·rw[ag h]at p
      rw[aj,ak]at h;obtain⟨g,B⟩:=QW h.1;refine .inr ⟨P,j,v1,rfl,rfl,g1,by omega,by omega,by rw[<- r.length];exact g8 h.2,λl b=>?_⟩
      obtain⟨f,d,C⟩:=Zg S b (r.rep j.toNat);exact p _ _ _ f d C
     ·rw[ar h]at p;exact p.elim
    |_=>rw[e]at p;exact p.elim
  |_=>exact p.elim
 |_=>cases u<;>exact p.elim
def gi:W->W->Hx->R W:=λx y A=>match x with
 |.ref n=>match A[n]? with
  |some (.lst ws)=>if ws.length<qa then .ok .non (A.set n (.lst (ws++[y]))) else .bad|_=>.bad
 |_=>.bad
noncomputable def JC (x:W)(A:Hx):Bool:=match x with
 |.ref n=>match A[n]? with
  |some (.lst _)=>true|_=>false
 |_=>false
def LP {A:Hx}{w:W}(S:zE K φ A H)(q:RV K φ H w v)(e:JC w A=true):Vb K "list" v H:=by
 unfold JC at e;cases w with
 |ref n=>
  dsimp only at e;cases E:A[n]? with
  |none=>rw[E]at e;cases e|some o=>cases o with
   |lst ws=>obtain⟨p,vs,rfl,_,h,_⟩:=S.lst q E;exact .inl ⟨rfl,_,qN.of h⟩|_=>rw[E]at e;cases e
 |_=>cases e
def kE (g:W->W->Hx->R W)(a b:Ev):Ev:=λρ A=>(a ρ A).bind λx A1=>if JC x A1 then(b ρ A1).bind λy A2=>g x y A2 else .bad
def Xn {nm:Str}{id:String}{r:V->List V->Hp->VK->Prop}{g:W->W->Hx->R W}(slot:Slot "list" nm id)(j:typeOf (.builtin id)=pure (.type "method_descriptor"))(hm:QK X id r)(hn:∀x y A,qv (g x y A))
  (C:∀φ A H x y u v Q,zE X.K φ A H->RV X.K φ H u x->RV X.K φ H v y->(g u v A).post (PB X.K φ H Q) gA->r x [y] H Q)(B:SE X xr a ma)(he:SE X xr b mb)
  (s:starEach [b] X.env=(false,eval b X.env)::starEach [] X.env)(c:attributeBase a nm X.env (eval a X.env)=eval a X.env)
  (d:((backTo cpos (starEach [b] X.env)).all (λx=>!x.1)&&(backToKw cpos (keywordEach [] X.env)).all (λx=>x.1.isSome)
   && decide ([b].length+([]:bY).length+(if ([]:bY).isEmpty then 0 else 1)<30))=true)(e:(apos.endLine==cpos.line)=true):
  SE X xr (.Call (.Attribute a nm apos) [b] [] cpos) (kE g ma mb):=
 PE.imp (Cg PySem.F.plainAttrs_list slot j hm B (qZ he jP s) c d e s (by rfl)) λσ H Q ⟨φ,A,ρ,S,re,h⟩=>by
  refine tM.go S re (zV.mp h) λw A1 o H1 v f l n q=>?_
  by_cases k:JC w A1=true
  ·rw[ag k]at f
   refine⟨LP n q k,?_⟩;refine tM.go n (re.mono l) (qp (zV.mp f) (λ_ _ z=>z) λ_ _ z=>z.mono l) λp A2 i I v2 D L E t=>?_;exact C i A2 I v v2 w p Q E (q.mono L) t (qp (Qi (hn _ _ _) D) (λ_ _ z=>z.mono (l.trans L)) λ_ _ z=>z)
  ·rw[ar k]at f;exact f.elim
def MC:∀x y A,qv (gi x y A):=λx y A=>by
 unfold gi
 split
 ·split
  ·exact yW jh qe
  ·exact qe
 ·exact qe
def gH:W->W->Hx->R W:=λx y A=>match x,y with
 |.ref n,.int i=>match A[n]? with
  |some (.lst ws)=>match (if jN i then seqIndex? i ws.length else none) with
   |some k=>match ws[k]? with
    |some w=>.ok w (A.set n (.lst (ws.eraseIdx k)))|none=>.bad
   |none=>.bad
  |_=>.bad
 |_,_=>.bad
def Ia:∀x y A,qv (gH x y A):=λx y A=>by
 unfold gH
 split
 ·split
  ·split
   ·split
    ·exact jh
    ·exact qe
   ·exact qe
  ·exact qe
 ·exact qe
def ki:W->W->W->Hx->R Unit:=λo i v A=>match o,i with
 |.ref n,.int k=>match A[n]? with
  |some (.lst ws)=>match wx ws.length k with
   |some j=>.ok () (A.set n (.lst (ws.set j v)))|none=>.bad
  |_=>.bad
 |_,_=>.bad
def Ey:∀o i v A,qv (ki o i v A):=λo i v A=>by
 unfold ki
 split
 ·split
  ·split
   ·exact jh
   ·exact qe
  ·exact qe
 ·exact qe
def IH:Rx K Rq ki:=λφ A H o i v a w wv Q S f d q p=>by
 unfold ki at p;cases a with
 |ref n=>cases w with
  |int k=>
   obtain rfl:=d;dsimp only at p;cases e:A[n]? with
   |none=>rw[e]at p;exact p.elim|some g=>cases g with
    |lst ws=>
     rw[e]at p;dsimp only at p;cases E:wx ws.length k with
     |none=>rw[E]at p;exact p.elim|some j=>
      rw[E]at p;obtain⟨l,vs,rfl,f1,g1,r⟩:=S.lst f e;have ln:Le K φ H φ (upd H l (.lst (vs.set j v))):=Le.upd f1 (λxs z=>by rw[g1]at z;cases z) (λ_ _ z=>by rw[g1]at z;cases z)
      obtain⟨c,b⟩:=S.write (o:=.lst ws) (o':=.lst (ws.set j wv)) e rfl rfl f1 ⟨_,jI,(r.mono ln).set (q.mono ln) j⟩;exact⟨l,vs,k,j,rfl,rfl,g1,by rw[<- r.length];exact E,p _ _ c b⟩
    |_=>rw[e]at p;exact p.elim
  |_=>exact p.elim
 |_=>cases w<;>exact p.elim
variable {es:bT}{m:Ev}
def Ro {id:String}{g:W->Hx->R W}(i:jQ X (.builtin id) r)(hn:∀w A,qv (g w A))(f:Wx X.K (λv=>r [v]) g)(hm:X.mg x=none)(d:bootBuiltins x=some (.builtin id))(j:SE X xr e m)(b:Gl X x:=by rfl)
  (a:x ≠ "__name__":=by decide)(c:(x==("__debug__":Str))=false:=by decide)(he:starEach [e] X.env=(false,eval e X.env)::starEach [] X.env:=by rfl)(l:(backTo pos (starEach [] X.env)).any (·.1)=false:=by rfl):
  SE X xr (.Call (.Name x p) [e] [] pos) (qP g m):=PE.imp (ZF i b hm d (qZ j jP he) a c he l) λσ H Q h=>qP.read (r:=λv=>r [v]) hn f σ H Q h
def Xh {id:String}{g:W->Hx->R W}(i:jQ X (.type id) r)(hn:∀w A,qv (g w A))(f:Wx X.K (λv=>r [v]) g)(hm:X.mg x=none)(d:bootBuiltins x=some (.type id))(j:SE X xr e m)(b:Gl X x:=by rfl)
  (a:x ≠ "__name__":=by decide)(c:(x==("__debug__":Str))=false:=by decide)(he:starEach [e] X.env=(false,eval e X.env)::starEach [] X.env:=by rfl)(l:(backTo pos (starEach [] X.env)).any (·.1)=false:=by rfl):
  SE X xr (.Call (.Name x p) [e] [] pos) (qP g m):=PE.imp (QZ i b hm d (qZ j jP he) a c he l) λσ H Q h=>qP.read (r:=λv=>r [v]) hn f σ H Q h
def Xx {id:String}{g:W->W->Hx->R W}(o:jQ X (.builtin id) r)(hn:∀w j A,qv (g w j A))(n:j6 X.K (λv c=>r [v,c]) g)(hm:X.mg x=none)(k:bootBuiltins x=some (.builtin id))(s:SE X xr a ma)(q:SE X xr b mb)(e:Gl X x)
  (d:x ≠ "__name__")(f:(x==("__debug__":Str))=false)(i:starEach [a,b] X.env=(false,eval a X.env)::starEach [b] X.env)(t:starEach [b] X.env=(false,eval b X.env)::starEach [] X.env)(l:(backTo pos (starEach [b] X.env)).any (·.1)=false):
  SE X xr (.Call (.Name x p) [a,b] [] pos) (zc g ma mb):=PE.imp (ZF o e hm k (qZ s (qZ q jP t) i) d f i l) λσ H Q h=>zc.read (r:=λv c=>r [v,c]) hn n σ H Q h
noncomputable def Yp:W->Hx->R W
 |.int i,A=>.ok (.int (if i<0 then -i else i)) A|_,_=>.bad
noncomputable def QE:W->Hx->R W
 |.int i,A=>.ok (.int i) A|.bl k,A=>.ok (.int (if k then 1 else 0)) A|_,_=>.bad
def Xy:=gz λi j=>.int (if j > i then j else i)
def ZW:=gz λi j=>.int (if j<i then j else i)
noncomputable def wK:W->Bool
 |.tup _=>false|.ref _=>false|.clo _ _ _=>false|.xc _=>false|_=>true
noncomputable def XN:W->W->Bool
 |.non,.non=>true|.bl a,.bl b=>a==b|.bl a,.int b=>(if a then 1 else 0)==b|.int a,.bl b=>a==(if b then 1 else 0)|.int a,.int b=>a==b|.str a,.str b=>a==b|_,_=>false
def JA (x:W)(xs:List W):Bool:=xs.any λy=>XN y x
def UK {w:W}(q:RV K φ H w v)(e:wK w=true):gL v=true:=by
 cases w<;>first
  |(cases e;done)
  |(obtain rfl:=q;rfl)
def NS {w a:W}{b:V}(q:RV K φ H w v)(Q:RV K φ H a b)(e:wK w=true)(E:wK a=true):Zs v b=XN w a:=by
 cases w<;>cases a<;>first
  |(cases e;done)
  |(cases E;done)
  |(obtain rfl:=q;obtain rfl:=Q;rfl)
theorem U1 {x:W}(q:RV K φ H x v)(e:wK x=true):∀{xs:List W}{vs:List V},zw K φ H xs vs->xs.all wK=true->vs.all gL=true/\Ws v vs=JA x xs
 |[],_,r,_=>by cases r;exact⟨rfl,rfl⟩|w::ws,_,⟨y,r,E,h,t⟩,a=>by
  subst E;rw[List.all_cons,aj]at a;obtain⟨I,i⟩:=U1 q e t a.2;refine⟨by rw[List.all_cons,UK h a.1,I];rfl,?_⟩
  unfold Ws JA at i ⊢;rw[any_cons,any_cons,i,NS h q a.1 e]
def QB (neg:Bool):W->W->Hx->R W:=λx y A=>match zS y A with
 |some ws=>if wK x&&ws.all wK then .ok (.bl (if neg then !JA x ws else JA x ws)) A else .bad|none=>.bad
abbrev Wi:=QB false
def Ez {n:Bool}:∀x y A,qv (QB n x y A):=λx y A=>by
 unfold QB
 split
 ·exact yW jh qe
 ·exact qe
def FC {n:Bool}:j6 K (R9 K n) (QB n):=λφ A H x y u v Q S q b p=>by
 unfold QB at p;cases es:zS v A with
 |none=>rw[es]at p;exact p.elim|some ws=>
  rw[es]at p;dsimp only at p
  by_cases hf:(wK u&&ws.all wK)=true
  ·rw[ag hf]at p
   rw[aj]at hf;obtain⟨a,ys,rfl,z,r⟩:=YW S b es;obtain⟨I,i⟩:=U1 q hf.1 r hf.2;exact⟨a,ys,rfl,z,UK q hf.1,I,by rw[i];exact p φ H _ .refl S rfl⟩
  ·rw[ar hf]at p;exact p.elim
structure XZ (X:Cx)(op:CmpOp)(g:W->W->Hx->R W):Prop where
 ex:∃r:R2,qH X (compareOp op) r/\(∀x y A,qv (g x y A))/\j6 X.K r g
def R4:XZ X .In Wi:=⟨_,My,Ez,FC⟩
end
noncomputable def yy (f:W->Option PyData):List W->Option (List PyData)
 |[]=>some []|w::ws=>match f w,yy f ws with
  |some d,some ds=>some (d::ds)|_,_=>none
def qk (A:Hx):Nat->W->Option PyData
 |_,.non=>some .none|_,.bl b=>some (.bool b)|_,.int i=>some (.int i)|_,.str x=>if PyData.strOk x then some (.str x) else none|_,.clo _ _ _=>none|_,.xc _=>none|0,.tup _=>none|0,.ref _=>none|n+1,.tup ws=>(yy (qk A n) ws).map .tuple|n+1,.ref k=>match zS (.ref k) A with
  |some ws=>(yy (qk A n) ws).map .list|none=>none
def L6 {K:Frag}{A:Hx}{us:List W}(S:zE K φ A H)(q:RV K φ H (.ref n) v)(e:zS (.ref n) A=some us):∃a ys,v=.ref a/\qN K H a ys/\zw K φ H us ys:=by
 obtain⟨a,rfl,d⟩:=q;unfold zS at e;dsimp only at e;cases E:A[n]? with
 |none=>rw[E]at e;cases e|some o=>
  rw[E]at e;obtain⟨f,c,r⟩:=S.ob n o E;rw[d]at c;cases c;cases o with
  |lst xs=>cases e;obtain⟨ys,b,h⟩:=r;exact⟨a,ys,rfl,qN.of b,h⟩|ro xs=>cases e;obtain⟨ys,b,h⟩:=r;exact⟨a,ys,rfl,b.sq,h⟩|dct xs=>cases e|td _=>cases e|tab _ _=>cases e
section
variable {a:Expr}
theorem Ga {K:Frag}{f:W->Option PyData}(hf:∀w v u d,RV K φ H w v->RelV v u->f w=some d->∃as,Reads h u d as):
  ∀{ws:List W}{vs:List V}{us:bN}{ds:List PyData},zw K φ H ws vs->Vals vs us->yy f ws=some ds->∃as,ReadsAll h us ds as
 |[],_,_,_,r,a,e=>by cases r;cases a;cases e;exact⟨[],.nil⟩|w::ws,_,_,ds,⟨v,r,k,q,t⟩,a,e=>by
  subst k;cases a with
  |cons g c=>
   unfold yy at e;cases E:f w with
   |none=>rw[E]at e;cases e|some d=>
    cases b:yy f ws with
    |none=>rw[E,b]at e;cases e|some D=>
     rw[E,b]at e;cases e;obtain⟨as,j⟩:=hf w v _ d q g E;obtain⟨bs,i⟩:=Ga hf t c b;exact⟨_,.cons j i⟩
def Q2 {A:Hx}(I:Inv X pins σ H s)(S:zE X.K φ A H):∀(n:Nat)(w:W)(v:V)(u:Value)(d:PyData),RV X.K φ H w v->RelV v u->qk A n w=some d->∃as,Reads s.heap u d as:=by
 intro n
 induction n with
 |zero=>
  intro w v u d q r e;cases w with
  |non=>obtain rfl:=q;cases r;cases e;exact⟨_,.none⟩|bl k=>obtain rfl:=q;cases r;cases e;exact⟨_,.bool k⟩|int k=>obtain rfl:=q;obtain⟨t,rfl⟩:=r;cases e;exact⟨_,.int k t⟩|str k=>
   obtain rfl:=q;obtain⟨t,rfl⟩:=r;unfold qk at e
   split at e
   ·cases e;exact⟨_,.str k t⟩
   ·cases e
  |tup _=>cases e|ref _=>cases e|clo _ _ _=>unfold qk at e;cases e|xc _=>unfold qk at e;cases e
 |succ n x=>
  intro w v u d q r e;cases w with
  |non=>obtain rfl:=q;cases r;cases e;exact⟨_,.none⟩|bl k=>obtain rfl:=q;cases r;cases e;exact⟨_,.bool k⟩|clo _ _ _=>unfold qk at e;cases e|xc _=>unfold qk at e;cases e|int k=>obtain rfl:=q;obtain⟨t,rfl⟩:=r;cases e;exact⟨_,.int k t⟩|str k=>
   obtain rfl:=q;obtain⟨t,rfl⟩:=r;unfold qk at e
   split at e
   ·cases e;exact⟨_,.str k t⟩
   ·cases e
  |tup ws=>
   obtain⟨a,vs,rfl,h,c⟩:=q;cases r;unfold qk at e;cases E:yy (qk A n) ws with
   |none=>rw[E]at e;cases e|some ds=>
    rw[E]at e;cases e;obtain⟨i,b,⟨o,l,j,k,g⟩,_⟩:=I.tuple h;obtain⟨as,f⟩:=Ga x c b E;exact⟨_,.tuple l j g (by simpa using f)⟩
  |ref k=>
   unfold qk at e;cases E:zS (.ref k) A with
   |none=>rw[E]at e;cases e|some ws=>
    rw[E]at e;dsimp only at e;obtain⟨a,ys,rfl,h,c⟩:=L6 S q E;cases r;cases p:yy (qk A n) ws with
    |none=>rw[p]at e;cases e|some ds=>
     rw[p]at e;cases e;obtain⟨i,b,⟨o,y,l,j,_,g⟩,_⟩:=I.list h;obtain⟨as,f⟩:=Ga x c b p;exact⟨_,.list l j g (by simpa using f)⟩
def Gi {A:Hx}:∀(n:Nat)(w:W)(d:PyData),qk A n w=some d->d.canLay0=true/\d.depth<=n:=by
 intro n;have lst:∀{n:Nat},(∀(w:W)(d:PyData),qk A n w=some d->d.canLay0=true/\d.depth<=n)->∀(ws:List W)(ds:List PyData),yy (qk A n) ws=some ds->PyData.canLayAll0 ds=true/\PyData.depthAll ds<=n:=by
  intro n i ws
  induction ws with
  |nil=>intro ds e;cases e;exact⟨by simp[PyData.canLayAll0],by simp[PyData.depthAll]⟩|cons w ws I=>
   intro ds e;unfold yy at e;cases E:qk A n w with
   |none=>rw[E]at e;cases e|some d=>
    cases b:yy (qk A n) ws with
    |none=>rw[E,b]at e;cases e|some D=>
     rw[E,b]at e;cases e;obtain⟨h,c⟩:=i w d E;obtain⟨f,g⟩:=I D b;refine⟨by simp[PyData.canLayAll0,h,f],?_⟩
     simp only[PyData.depthAll];omega
 induction n with
 |zero=>
  intro w d e;cases w with
  |tup _=>cases e|ref _=>cases e|clo _ _ _=>unfold qk at e;cases e|xc _=>unfold qk at e;cases e|str x=>
   unfold qk at e
   split at e
   ·rename_i H;cases e;exact⟨by simp[PyData.canLay0,H],by simp[PyData.depth]⟩
   ·cases e
  |_=>cases e;exact⟨by simp[PyData.canLay0],by simp[PyData.depth]⟩
 |succ n i=>
  intro w d e;cases w with
  |clo _ _ _=>unfold qk at e;cases e|xc _=>unfold qk at e;cases e|tup ws=>
   unfold qk at e;cases a:yy (qk A n) ws with
   |none=>rw[a]at e;cases e|some ds=>
    rw[a]at e;cases e;obtain⟨h,c⟩:=lst i ws ds a;refine⟨by simp[PyData.canLay0,h],?_⟩
    simp only[PyData.depth];omega
  |ref k=>
   unfold qk at e;cases a:zS (.ref k) A with
   |none=>rw[a]at e;cases e|some ws=>
    rw[a]at e;dsimp only at e;cases E:yy (qk A n) ws with
    |none=>rw[E]at e;cases e|some ds=>
     rw[E]at e;cases e;obtain⟨h,c⟩:=lst i ws ds E;refine⟨by simp[PyData.canLay0,h],?_⟩
     simp only[PyData.depth];omega
  |str x=>
   unfold qk at e
   split at e
   ·rename_i H;cases e;exact⟨by simp[PyData.canLay0,H],by simp[PyData.depth]⟩
   ·cases e
  |_=>cases e;exact⟨by simp[PyData.canLay0],by simp[PyData.depth]⟩
def kT (neg:Bool):W->W->Hx->R W:=λx y A=>match qk A 8 x,qk A 8 y with
 |some d,some d'=>.ok (.bl (if neg then !PyData.eqv d d' else PyData.eqv d d')) A|_,_=>.bad
abbrev qX:=kT false
abbrev qx:=kT true
def Sv {n:Bool}:∀x y A,qv (kT n x y A):=λx y A=>by
 unfold kT
 split
 ·exact jh
 ·exact qe
def XW (K:Frag)(neg:Bool):R2:=λx y H Q=>∃φ A u v d d',zE K φ A H/\RV K φ H u x/\RV K φ H v y/\qk A 8 u=some d/\qk A 8 v=some d'/\Q (.bl (if neg then !PyData.eqv d d' else PyData.eqv d d')) H
def Kc {A:Hx}{w:W}{d:PyData}(h:qk A 8 w=some d):SeqAt.shaped d=true:=by
 obtain⟨H,a⟩:=Gi 8 w d h;unfold SeqAt.shaped;rw[H,Bool.true_and,ak];omega
def E7 (g:X.A.units+64<cLine):qH X (compareOp .Eq) (XW X.K false):=by
 intro pins s σ H x y v u Q I b r h;obtain⟨φ,A,a,w,d,d',S,f,c,E,e,q⟩:=h;obtain⟨as,j⟩:=Q2 I S 8 a x v d f b E;obtain⟨bs,i⟩:=Q2 I S 8 w y u d' c r e;exact eq_dataH j i (Kc E) (Kc e) g ⟨.bl _,H,I,rfl,q⟩
def EU (g:X.A.units+64<cLine):qH X (compareOp .NotEq) (XW X.K true):=by
 intro pins s σ H x y v u Q I b r h;obtain⟨φ,A,a,w,d,d',S,f,c,E,e,q⟩:=h;obtain⟨as,j⟩:=Q2 I S 8 a x v d f b E;obtain⟨bs,i⟩:=Q2 I S 8 w y u d' c r e;exact ne_dataH j i (Kc E) (Kc e) g ⟨.bl _,H,I,rfl,q⟩
def TN {K:Frag}{n:Bool}:j6 K (XW K n) (kT n):=λφ A H x y u v Q S a q p=>by
 unfold kT at p;cases e:qk A 8 u with
 |none=>rw[e]at p;exact p.elim|some d=>
  cases E:qk A 8 v with
  |none=>rw[e,E]at p;exact p.elim|some d'=>
   rw[e,E]at p;exact⟨φ,A,u,v,d,d',S,a,q,e,E,p φ H _ .refl S rfl⟩
def yt (h:jD k X.A):kQ X .Eq qX:=Qp (E7 h.units) Sv TN
def yR (h:jD k X.A):kQ X .NotEq qx:=Qp (EU h.units) Sv TN
end
mutual
noncomputable def W.nr:W->Bool
 |.tup ws=>jA ws|.ref _=>false|.clo _ ws _=>jA ws|_=>true
noncomputable def jA:List W->Bool
 |[]=>true|w::ws=>w.nr&&jA ws
end
def iso (f:Fn):Fn:=λus A=>if jA us then(match f us [] with
 |.ok w A1=>(match w with
  |.ref n=>(match A1[n]? with
   |some (.lst ws)=>if jA ws then .ok (.ref A.length) (A++[.lst ws]) else .bad|some (.dct k)=>if jA (k.map (·.2)) then .ok (.ref A.length) (A++[.dct k]) else .bad|_=>.bad)
  |w=>if w.nr then .ok w A else .bad)
 |_=>.bad) else .bad
def wV (f:Fn):Fn:=λus A=>match us with
 |.ref n::us=>(match A[n]? with
  |some (.lst ws)=>if jA ws&&jA us then(match f (.ref 0::us) [.lst ws] with
   |.ok w A1=>(match (List.head? A1:Option O) with
    |some (.lst a)=>if jA a&&w.nr then .ok w (A.set n (.lst a)) else .bad|_=>.bad)
   |_=>.bad) else .bad
  |_=>.bad)
 |_=>.bad
section
variable {K:Frag}{φ' φ1:bO}{H' H1:Hp}{A A1:Hx}
mutual
theorem RV.nrm (tp:∀a vs,qy K H a vs->qy K H' a vs)(fz:∀a o u,H a=some (.frz o u)->H' a=some (.frz o u)):∀{w:W}{v:V},w.nr=true->RV K φ H w v->RV K φ' H' w v
 |.non,_,_,h=>h|.bl _,_,_,h=>h|.int _,_,_,h=>h|.str _,_,_,h=>h|.tup ws,_,n,⟨a,vs,e,t,r⟩=>⟨a,vs,e,tp _ _ t,zw.nrm tp fz n r⟩|.ref _,_,n,_=>nomatch n
 |.clo _ ws P,_,n,⟨a,ob,u,c,g,uc,vs,e,d,b,i,r⟩=>⟨a,ob,u,c,g,uc,vs,e,fz _ _ _ d,fz _ _ _ b,i,zw.nrm tp fz n r⟩|.xc _,_,_,⟨a,f,u,C,e,d,b⟩=>⟨a,f,u,C,e,fz _ _ _ d,b⟩
theorem zw.nrm (tp:∀a vs,qy K H a vs->qy K H' a vs)(fz:∀a o u,H a=some (.frz o u)->H' a=some (.frz o u)):∀{ws:List W}{vs:List V},jA ws=true->zw K φ H ws vs->zw K φ' H' ws vs
 |[],_,_,h=>h|w::ws,_,n,⟨v,r,e,h,t⟩=>by
  have N:(w.nr&&jA ws)=true:=n;rw[aj]at N;exact⟨v,r,e,RV.nrm tp fz N.1 h,zw.nrm tp fz N.2 t⟩
end
def zE.none:zE K [] [] H:=⟨rfl,λi j a o o' _ _ h=>by simp at h,λn o h=>by simp at h⟩
def zE.frame (S:zE K φ A H)(k:∀a o,H a=some o->H1 a=some o)(l:Le K φ H φ H1):zE K φ A H1:=
 ⟨S.len,S.inj,λn o e=>let ⟨a,h1,q⟩:=S.ob n o e;⟨a,h1,q.keep l λu h=>k a u h⟩⟩
def Le.apart (l:Le K [] H φ1 H1):Le K φ H φ H1/\∀a o,H a=some o->H1 a=some o:=
 have k:∀a o,H a=some o->H1 a=some o:=λa o h=>l.fr a o h λn e=>by simp at e
 ⟨⟨λ_ _ h=>h,l.tp,λa o h _=>k a o h,λ_ _ h=>.inl h,l.st,l.fz⟩,k⟩
def zE.trackN {u:HO}{o:O}(S:zE K φ A H)(I:H D=some u)(n:∀(k:Nat)(q:O),φ[k]? =some D->A[k]? =some q->q.mut=false)(new:OR K (φ++[D]) H D o):zE K (φ++[D]) (A++[o]) H:=by
 have l:Zx K φ H (φ++[D]) H:=⟨λn a h=>by
  have:=(cg.mp h).1
  rw[ai this];exact h,λ_ _ h=>h,λ_ _ _ h=>h⟩
 have old:∀(i:Nat) a,(φ++[D])[i]? =some a->i<A.length->φ[i]? =some a:=λi a e d=>by
  rw[ai (by rw[S.len];exact d)]at e;exact e
 have last:∀a,(φ++[D])[A.length]? =some a->a=D:=λa e=>by
  rw[av (by rw[S.len];exact au _),S.len]at e
  simpa using e.symm
 refine⟨by simp[S.len],λi j a B y w v f b m1 m2=>?_,λk o' e=>?_⟩
 ·by_cases d:i<A.length
  ·rw[ai d]at f
   by_cases c:j<A.length
   ·rw[ai c]at b
    exact S.inj i j a B y (old i a w d) (old j a v c) f b m1 m2
   ·exfalso
    have p:j=A.length:=by have:=(cg.mp b).1;simp at this;omega
    subst p;have z:=n i B (by rw[<- last a v];exact old i a w d) f
    rw[m1]at z;cases z
  ·have s:i=A.length:=by have:=(cg.mp f).1;simp at this;omega
   by_cases c:j<A.length
   ·exfalso
    rw[ai c]at b;subst s;have z:=n j y (by rw[<- last a w];exact old j a v c) b
    rw[m2]at z;cases z
   ·have:=(cg.mp b).1;simp at this;omega
 ·by_cases hn:k<A.length
  ·rw[ai hn]at e
   obtain⟨a,E,q⟩:=S.ob k o' e;refine⟨a,l.ex _ _ E,?_⟩;cases o' with
   |lst ws=>obtain⟨vs,z,r⟩:=q;exact⟨vs,z,r.monoW l⟩|dct ws=>obtain⟨vs,z,Z,r⟩:=q;exact⟨vs,z,Z,r.monoW l⟩|td _=>obtain⟨vs,z,Z,t,r⟩:=q;exact⟨vs,z,Z,λx C=>l.tp _ _ (t x C),r.monoW l⟩|tab _ _=>exact q|ro ws=>obtain⟨vs,z,r⟩:=q;exact⟨vs,z,r.monoW l⟩
  ·have g:k=A.length:=by have:=(cg.mp e).1;simp at this;omega
   subst g;rw[av (au _)]at e;simp at e;subst e;exact⟨D,by rw[av (by rw[S.len];exact au _),S.len];simp,new⟩
def zE.adopt {o:O}(S:zE K φ A H)(l:Le K [] H φ1 H1)(d:φ1[n]? =some a)(m:∃u,H1 a=some u)(new:OR K (φ++[a]) H1 a o):
  Le K φ H (φ++[a]) H1/\zE K (φ++[a]) (A++[o]) H1/\RV K (φ++[a]) H1 (.ref A.length) (.ref a):=by
 obtain⟨L,k⟩:=l.apart (φ:=φ);have h0:H a=Option.none:=by
  rcases l.nw n a d with e|e
  ·simp at e
  ·exact e
 obtain⟨u,b⟩:=m;have s:=S.frame k L;refine⟨L.Jh h0,s.trackN b (λk q g f=>?_) new,a,rfl,by rw[<- S.len];simp⟩
 cases c:q.mut with
 |false=>rfl|true=>
  obtain⟨i,E,r⟩:=S.ob k q f;rw[g]at E;cases E;obtain⟨z,h,_⟩:=r.there c;rw[h0]at h;cases h
def OR.nrL {ws:List W}(h:OR K φ H a (.lst ws))(n:jA ws=true):OR K φ' H a (.lst ws):=let ⟨vs,e,r⟩:=h;⟨vs,e,r.nrm (λ_ _ t=>t) (λ_ _ _ t=>t) n⟩
def OR.nrD {k:List (Key×W)}(h:OR K φ H a (.dct k))(n:jA (k.map (·.2))=true):OR K φ' H a (.dct k):=let ⟨vs,e,E,r⟩:=h;⟨vs,e,E,r.nrm (λ_ _ t=>t) (λ_ _ _ t=>t) n⟩
theorem zX.iso {f:Fn}(F:zX P w K mg base k x n f):zX P w K mg base k x n (iso f):=by
 obtain⟨C,fd,ps,F,a,b,c⟩:=F;refine⟨C,fd,ps,F.imp λvs H Q E ⟨z,φ,A,ws,S,r,q⟩=>?_,a,b,c⟩;unfold Mi.iso at q
 by_cases hn:jA ws=true
 ·rw[ag hn]at q
  refine⟨z,[],[],ws,zE.none,r.nrm (λ_ _ t=>t) (λ_ _ _ t=>t) hn,?_⟩;cases hf:f ws [] with
  |ok w A1=>
   rw[hf]at q;dsimp only at q;intro u H1 v L D g;cases w with
   |ref m=>
    dsimp only at q;cases hm:A1[m]? with
    |none=>rw[hm]at q;exact q.elim|some o=>
     rw[hm]at q;obtain⟨I,j,d⟩:=D.ob m o hm;obtain⟨a2,rfl,e⟩:=g;rw[j]at e;cases e;cases o with
     |lst us=>
      dsimp only at q
      by_cases h:jA us=true
      ·rw[ag h]at q
       obtain⟨t,i,_⟩:=d.there rfl;obtain⟨s,p,B⟩:=S.adopt L j ⟨t,i⟩ (o:=.lst us) (d.nrL h);exact q _ _ _ s p B
      ·rw[ar h]at q;exact q.elim
     |dct us=>
      dsimp only at q
      by_cases h:jA (us.map (·.2))=true
      ·rw[ag h]at q
       obtain⟨t,i,_⟩:=d.there rfl;obtain⟨s,p,B⟩:=S.adopt L j ⟨t,i⟩ (o:=.dct us) (d.nrD h);exact q _ _ _ s p B
      ·rw[ar h]at q;exact q.elim
     |ro us=>exact q.elim|td _=>exact q.elim|tab _ _=>exact q.elim
   |_=>
    all_goals
     dsimp only at q;obtain⟨l,kk⟩:=L.apart (φ:=φ)
     first
      |exact q φ H1 v l (S.frame kk l) g
      |(
        split at q
        ·rename_i hw
         exact q φ H1 v l (S.frame kk l) (RV.nrm (λ_ _ t=>t) (λ_ _ _ t=>t) hw g)
        ·exact q.elim)
  |exc y A1=>rw[hf]at q;exact q.elim|bad=>rw[hf]at q;exact q.elim
 ·rw[ar hn]at q;exact q.elim
theorem zX.wV {f:Fn}(F:zX P w K mg base k x n f):zX P w K mg base k x n (wV f):=by
 obtain⟨fa,fd,ps,F,a,b,c⟩:=F;refine⟨fa,fd,ps,F.imp λvs H Q E ⟨hl,φ,A,ws,S,r,q⟩=>?_,a,b,c⟩;unfold Mi.wV at q;cases ws with
 |nil=>exact q.elim|cons Y us=>cases Y with
  |ref n=>
   dsimp only at q;cases g:A[n]? with
   |none=>rw[g]at q;exact q.elim|some o=>cases o with
    |lst xs=>
     rw[g]at q;dsimp only at q
     by_cases hn:(jA xs&&jA us)=true
     ·rw[ag hn]at q
      rw[aj]at hn;obtain⟨v0,vr,rfl,q0,Z⟩:=r;obtain⟨p,ys,rfl,f1,g1,d⟩:=S.lst q0 g;have S0:zE K [p] [.lst xs] H:=by
       refine⟨rfl,λi j a o o' D C T N _ _=>?_,λm o e=>?_⟩
       ·have:=(cg.mp D).1
        have:=(cg.mp C).1
        simp at*;omega
       ·have:m=0:=by have:=(cg.mp e).1;simp at this;omega
        subst this;simp at e;subst e;exact⟨p,rfl,ys,g1,d.nrm (λ_ _ t=>t) (λ_ _ _ t=>t) hn.1⟩
      refine⟨hl,[p],[.lst xs],.ref 0::us,S0,.cons ⟨p,rfl,rfl⟩ (Z.nrm (λ_ _ t=>t) (λ_ _ _ t=>t) hn.2),?_⟩;cases hf:f (.ref 0::us) [.lst xs] with
      |ok w A1=>
       rw[hf]at q;dsimp only at q;intro s H1 v L S1 q1;cases h0:List.head? A1 with
       |none=>rw[h0]at q;exact q.elim|some o=>cases o with
        |lst zs=>
         rw[h0]at q;dsimp only at q
         by_cases hw:(jA zs&&w.nr)=true
         ·rw[ag hw]at q
          rw[aj]at hw;have apart:∀a o,a≠p->H a=some o->H1 a=some o:=λa o ne h=>L.fr a o h λm e=>by
           have:m=0:=by have:=(cg.mp e).1;simp at this;omega
           subst this;simp at e;exact ne e.symm
          have lf:Le K φ H φ H1:=⟨λ_ _ h=>h,L.tp,λa o h nn=>apart a o (λe=>nn n (by rw[e];exact f1)) h,λ_ _ h=>.inl h,L.st,L.fz⟩
          have hp:s[0]? =some p:=L.ex 0 p rfl;obtain⟨p',l,u,I,B⟩:=S1.ob 0 _ (by rw[<- List.head?_eq_getElem?];exact h0)
          rw[hp]at l;cases l;refine q φ H1 v lf ?_ (RV.nrm (λ_ _ t=>t) (λ_ _ _ t=>t) hw.2 q1);have mt:∀(i:Nat)(w:O),(A.set n (.lst zs))[i]? =some w->w.mut=true->∃J,A[i]? =some J/\J.mut=true:=λi w e mw=>by
           by_cases hi:i=n
           ·subst hi;exact⟨_,g,rfl⟩
           ·rw[aJ (Ne.symm hi)]at e;exact⟨w,e,mw⟩
          refine⟨by simp[S.len],λi j a o1 o2 D C T N m1 m2=>?_,λi w e=>?_⟩
          ·obtain⟨X,l,k1⟩:=mt i o1 T m1
           obtain⟨U,I,k2⟩:=mt j o2 N m2;exact S.inj i j a X U D C l I k1 k2
          ·by_cases hi:i=n
           ·subst hi
            have:i<A.length:=(cg.mp g).1
            rw[aH this]at e;cases e;exact⟨p,f1,u,I,B.nrm (λ_ _ t=>t) (λ_ _ _ t=>t) hw.1⟩
           ·rw[aJ (Ne.symm hi)]at e
            obtain⟨a,l,M⟩:=S.ob i w e;refine⟨a,l,?_⟩
            by_cases hm:w.mut=true
            ·have ne:a≠p:=λz=>hi (S.inj i n a w _ l (by rw[z];exact f1) e g hm rfl)
             exact M.keep lf λz hz=>apart a z ne hz
            ·cases w with
             |lst _=>exact absurd rfl hm|dct _=>exact absurd rfl hm|td _=>exact absurd rfl hm|tab _ _=>exact absurd rfl hm|ro ws=>
              obtain⟨vs,d,B⟩:=M;refine⟨vs,?_,B.mono lf⟩;rcases d with ⟨ob,d⟩|d
              ·refine .inl ⟨ob,apart a _ ?_ d⟩
               intro z;subst z;rw[g1]at d;cases d
              ·exact .inr d
         ·rw[ar hw]at q;exact q.elim
        |_=>rw[h0]at q;exact q.elim
      |exc y A1=>rw[hf]at q;exact q.elim|bad=>rw[hf]at q;exact q.elim
     ·rw[ar hn]at q;exact q.elim
    |_=>rw[g]at q;exact q.elim
  |_=>exact q.elim
end
section
variable {K:Frag}{a b:Expr}{m:Ev}{st:Stmt}
noncomputable def intsOf:List W->Option (bM)
 |[]=>some []|w::ws=>match w with
  |.int i=>match intsOf ws with
   |some is=>some (i::is)|none=>none
  |_=>none
theorem Gd:∀{ws:List W}{ns:bM},intsOf ws=some ns->ws=ns.map W.int
 |[],_,e=>by cases e;rfl|w::ws,ns,e=>by
  unfold intsOf at e;cases w with
  |int i=>
   dsimp only at e;cases E:intsOf ws with
   |none=>rw[E]at e;cases e|some is=>rw[E]at e;cases e;rw[Gd E];rfl
  |_=>cases e
noncomputable def jZ:List Int->Int->Int
 |[],m=>m|i::is,m=>jZ is (if i > m then i else m)
def NO (ns:bM):∀(k:Nat)(a:k<ns.length),jZ (ns.drop (k+1)) (ns.getD (argBest (λi j=>decide (ns.getD i 0 > ns.getD j 0)) k) 0)=jZ ns.tail (ns.getD 0 0):=by
 intro k
 induction k with
 |zero=>intro _;rw[show argBest _ 0=0 from rfl,List.drop_one]|succ k I=>
  intro a;have H:k<ns.length:=by omega
  rw[<- I H];have e:ns.drop (k+1)=ns[k+1]::ns.drop (k+1+1):=List.drop_eq_getElem_cons a;rw[e];have E:ns.getD (k+1) 0=ns[k+1]:=by rw[ae,aa a];rfl
  show jZ _ (ns.getD (if decide (ns.getD (k+1) 0 > ns.getD (argBest _ k) 0)=true then k+1 else argBest _ k) 0)=jZ _ (if ns[k+1] > ns.getD (argBest _ k) 0 then ns[k+1] else ns.getD (argBest _ k) 0);rw[E]
  by_cases h:ns[k+1] > ns.getD (argBest (λi j=>decide (ns.getD i 0 > ns.getD j 0)) k) 0
  ·rw[ag (by rw[ak];exact h),ag h,E]
  ·rw[ar (by rw[ak];exact h),ar h]
noncomputable def RB (K:Frag)(C:List Int->Prop)(f:List Int->Int):List V->Hp->VK->Prop:=λxs H Q=>∃a ns,xs=[.ref a]/\(qN K H a (ns.map V.int)∨qy K H a (ns.map V.int))/\C ns/\Q (.int (f ns)) H
def GQ (r:Vals (ns.map V.int) its){v:Value}(h:its[i]? =some v):∃t,v=.int (ns.getD i 0) t:=by
 have c:i<its.length:=(cg.mp h).1;have H:i<ns.length:=by have:=r.length;rw[ah]at this;omega
 obtain⟨u,a,b⟩:=r.get (i:=i) (x:=V.int ns[i]) (by simp[H])
 rw[h]at a;cases a;obtain⟨t,rfl⟩:=b;exact⟨t,by rw[ae,aa H];rfl⟩
def NT (n:X.calm=true):jQ X (.builtin "max") (RB X.K (λns=>ns≠[]) λns=>jZ ns.tail (ns.getD 0 0)):=by
 intro pins s σ H xs us Q I r h;obtain⟨a,ns,rfl,z,f,q⟩:=h;obtain⟨u,rfl,g⟩:=vals1 r;cases g;have M:0<ns.length:=List.length_pos_iff.mpr f;refine call_max_walk (Th I n z λd C fp wr S s2 c L W st p back=>?_);have e:d.length=ns.length:=by have:=c.length;rw[ah]at this;omega
 refine⟨C,fp,wr,_,_,S,λi j=>decide (ns.getD i 0 > ns.getD j 0),rfl,W,st,p,by omega,?_,λv h' tk l k=>?_⟩
 ·intro i j J D s' Q' E y x o
  obtain⟨t1,rfl⟩:=GQ c y;obtain⟨T,rfl⟩:=GQ c x;exact(PyProof.Rows.gt_int o:wpAny (model X.prog X.w) X.A.in1 (compareOp .Gt (.int (ns.getD i 0) t1) (.int (ns.getD j 0) T)) Q' E s')
 ·obtain⟨t,rfl⟩:=GQ c l
  rw[e];have b:=NO ns (ns.length-1) (by omega)
  rw[show ns.length-1+1=ns.length by omega,drop_length]at b
  have B:ns.getD (argBest (λi j=>decide (ns.getD i 0 > ns.getD j 0)) (ns.length-1)) 0=jZ ns.tail (ns.getD 0 0):=b;rw[B];exact⟨.int _,H,back h' tk k,⟨_,rfl⟩,q⟩
def yK:List W->Hx->R W:=λws A=>match intsOf ws with
 |some (i::is)=>.ok (.int (jZ is i)) A|_=>.bad
def FA:∀ws A,qv (yK ws A):=λws A=>by
 unfold yK;split
 ·exact jh
 ·exact qe
def MO {ws:List W}{a:Addr}(z:qN K H a ys∨qy K H a ys)(r:zw K φ H ws ys)(e:intsOf ws=some ns):qN K H a (ns.map V.int)∨qy K H a (ns.map V.int):=by
 rw[Gd e]at r;rw[<- zw.ints.mp r];exact z
def HS:QJ K (RB K (λns=>ns≠[]) λns=>jZ ns.tail (ns.getD 0 0)) yK:=λφ A H a ys ws Q S z r p=>by
 unfold yK at p;cases e:intsOf ws with
 |none=>rw[e]at p;exact p.elim|some ns=>cases ns with
  |nil=>rw[e]at p;exact p.elim|cons i is=>rw[e]at p;exact⟨a,i::is,rfl,MO z r e,(by intro z;cases z),p φ H _ .refl S rfl⟩
def Bp (y:W):List W->Nat->Nat
 |[],n=>n|w::ws,n=>Bp y ws (if XN w y then n+1 else n)
noncomputable def BH (lo d:Int)(n:Nat):It:=⟨λi _=>i<n,λi H x h=>h=H/\x=.int (lo+i * d),λi _=>n<=i⟩
def BK (t:TA):TI:=λσ H R=>t σ H λvs H1=>∃i j:Int,vs=[.int i,.int j,.int (-1)]/\(-(2 ^ 62)<=i/\i<2 ^ 62/\-(2 ^ 62)<=j/\j<2 ^ 62)/\R (BH i (-1) (i-j).toNat) H1
noncomputable def C5 (h:Int)(n:Nat):jv:=⟨λ_ i=>if i<n then some (some (.int (h-i))) else some none,n⟩
def BM (m M:Ev):Ei:=λρ A=>(m ρ A).bind λw A1=>(M ρ A1).bind λa A2=>match w,a with
 |.int i,.int j=>if jN i&&jN j then .ok (C5 i (i-j).toNat) A2 else .bad|_,_=>.bad
def Cm (t:TA):TE:=λσ H Q=>t σ H λvs H1=>∃j:Int,vs=[.int j]/\∀p,H1 p=none->Q (.ref p) (upd H1 p (.rng 0 j))
def Ff {T:TA}(g:Gl X "range")(hm:X.mg "range"=none)(e:PA X [a] T)(d:starEach [a] X.env=[(false,eval a X.env)]):PE X (.Call (.Name "range" p) [a] [] pos) (Cm T):=by
 intro pins s σ H Q I h;refine Call_ (ZT I g hm boot_range (PyProof.Rows.callWith_type1 (zP (e pos pins s σ H _ I h) λus s1 ⟨vs,H1,i,r,c⟩=>?_) d rfl));obtain⟨j,rfl,q⟩:=c;obtain⟨u,rfl,⟨t,rfl⟩⟩:=r.one;refine call_range_1 ⟨.ref _,_,i.laid (o:=.rng 0 j) (λb o E=>af _ E) (au _) ?_,rfl,q _ (i.hok.fresh (au _))⟩;exact⟨_,_,_,aq _ rfl⟩
noncomputable def QA (n:Nat):List V:=(List.range n).map λ(i:Nat)=>V.int i
def NF (A:X.calm=true):jQ X (.type "list") (λxs H Q=>∃(r:Addr) (j:Int),xs=[.ref r]/\H r=some (.rng 0 j)/\(-(2 ^ 62)<=j/\j<2 ^ 62)/\j.toNat<=sizeLine/\∀l,H l=none->Q (.ref l) (upd H l (.lst (QA j.toNat)))):=by
 intro pins s σ H xs us Q I r h;obtain⟨p,j,rfl,x,⟨D,B⟩,z,q⟩:=h;obtain⟨u,rfl,g⟩:=vals1 r;cases g;obtain⟨t1,T,t3,y⟩:=I.hok p _ x;have E:sizeLine=16777216:=sizeLine_eq;refine PySem.call_list_range (n:=j.toNat) (I.ok.hd A) (show IsRange s.heap p 0 j 1 t1 T t3 from y) (small_one (by omega) (by omega) D B) (by rw[rangeSize_one];split<;>omega) (by omega) λh' tk acc C kk S ⟨hn,d⟩=>?_
 refine⟨.ref s.heap.objs.size,_,I.laid (t':=tk) (o:=.lst (QA j.toNat)) kk (au _) ?_,rfl,q _ (I.hok.fresh (au _))⟩;refine⟨by unfold QA;simpa using z,acc.toList,C,?_,by simpa using S⟩
 have a:∀(l:bN)(k:Nat),(∀(i:Nat) v,l[i]? =some v->∃t,v=.int ((k+i:Nat):Int) t)->Vals ((List.range' k l.length).map λ(i:Nat)=>V.int i) l:=by
  intro l
  induction l with
  |nil=>intro k _;exact .nil|cons v l w=>
   intro k e;rw[bc,range'_succ,aU];refine .cons ?_ (w (k+1) λi f a=>?_)
   ·obtain⟨t,rfl⟩:=e 0 v rfl
    exact⟨t,rfl⟩
   ·obtain⟨t,rfl⟩:=e (i+1) f (by simpa using a)
    exact⟨t,by congr 1;omega⟩
 have b:acc.toList.length=j.toNat:=by simpa using hn
 have:=a acc.toList 0 λi v c=>by
  obtain⟨t,rfl⟩:=d i v (by simpa using c)
  exact⟨t,by congr 1;omega⟩
 rw[b]at this;unfold QA;rw[range_eq_range'];exact this
def Qm (m:Ev):Ev:=λρ A=>(m ρ A).bind λw A1=>match w with
 |.int j=>if jN j&&decide (j.toNat<=qa) then .ok (.ref A1.length) (A1++[.lst ((List.range j.toNat).map λ(i:Nat)=>W.int i)]) else .bad|_=>.bad
end
def jt (k:Bool)(h:Heap)(it a:Addr)(i:Nat):Prop:=if k=true then h.IsListIter it a i else h.IsTupleIter it a i
def jY (k:Bool)(h:Heap)(a:Addr)(items:Array Value):Prop:=if k=true then h.IsList a items else h.IsTuple a items
def y9 (k:Bool)(K:Frag)(H:Hp)(a:Addr)(xs:List V):Prop:=if k=true then qN K H a xs else qy K H a xs
noncomputable def Qx (k:Bool):String:=if k then "list_iterator" else "tuple_iterator"
def jt.ob {k:Bool}{it:Addr}(x:jt k h it a i):∃o,h.get? it=some o/\o.cls=.type (Qx k)/\o.data=.fields #[.ref a,.int i 0]:=by
 cases k<;>exact x
def jt.mk {k:Bool}{it:Addr}(x:∃o,h.get? it=some o/\o.cls=.type (Qx k)/\o.data=.fields #[.ref a,.int i 0]):jt k h it a i:=by
 cases k<;>exact x
def jt.to {k:Bool}{h':Heap}{it:Addr}(x:jt k h it a i)(e:∀o,h.get? it=some o->h'.get? it=some o):jt k h' it a i:=let ⟨o,h1,r⟩:=x.ob;.mk ⟨o,e o h1,r⟩
def jY.ob {k:Bool}{items:Array Value}(x:jY k h a items):∃o,h.get? a=some o/\o.cls=.type (if k then "list" else "tuple")/\∃n,o.data=.seq items n:=by
 cases k<;>exact x
def jY.to {k:Bool}{h':Heap}{items:Array Value}(x:jY k h a items)(e:∀o,h.get? a=some o->h'.get? a=some o):jY k h' a items:=by
 cases k with
 |false=>exact let ⟨o,h1,r⟩:=x.ob;⟨o,e o h1,r⟩|true=>exact let ⟨o,h1,r⟩:=x.ob;⟨o,e o h1,r⟩
section
variable {prog:Program}{A:Around}{k:Bool}{it:Addr}{items:Array Value}
def T8 (h:jY k s.heap a items)(H:Q (.ref s.heap.objs.size) { s with heap:=s.heap.push { cls:=.type (Qx k),data:=.fields #[.ref a,.int 0 0] } }):wpAny (model prog w) A (pyIter (.ref a)) Q E s:=by
 cases k with
 |true=>exact wpAny_pyIter_list h H|false=>exact wpAny_pyIter_tuple h H
def Kh {x:Value}(hit:jt k s.heap it a i)(l:jY k s.heap a items)(f:items[i]? =some x)
  (g:∀h',jt k h' it a (i+1)->Heap.SameBut it s.heap h'->Q x { s with heap:=h' }):wpAny (model prog w) A (Builtin.SmallTypes.nextOf (.ref it)) Q E s:=by
 cases k with
 |true=>exact wpAny_nextOf_list_item hit l f g|false=>
  have h:s.heap.IsTupleIter it a i:=hit;obtain⟨o,b,e,H⟩:=id h;obtain⟨j,c,_,na,d⟩:s.heap.IsTuple a items:=l;unfold Builtin.SmallTypes.nextOf;refine b9 (wpAny_callSpecial?_slot (name:=Str.ofString "__next__") h.typeIs F.slot_tuple_iterator_next (wpAny_call_entry F.slot_tuple_iterator_next h.typeIs F.entry_tuple_iterator_next ?_ (F.args_tuple_iterator_next_1 _)));show wpAny _ _ (field (.ref it) 0 >>= _) _ _ s;refine b9 (wpAny_field b H (x:=.ref a) rfl ?_);show wpAny _ _ (if (Value.ref a==Value.none)=true then _ else _) _ _ s;rw[ar (show ¬((Value.ref a==Value.none)=true) from aA)]
  show wpAny _ _ (field (.ref it) 1 >>= _) _ _ s;refine b9 (wpAny_field b H (x:=.int i 0) rfl ?_);show wpAny _ _ (seqItems? (.ref a) >>= _) _ _ s;refine b9 (wpAny_seqItems c d ?_);simp only[aM,f];refine b9 (wpAny_setField b H (by simp) (cb ⟨x,rfl,cb (g _ (.mk ?_) (Heap.SameBut.update ..))⟩))
  exact⟨_,aY _ b (Obj.isFreed_of_fields (Obj.data_mapFields H _)),(Obj.cls_mapFields ..).trans e,by rw[Obj.data_mapFields H];simp[rawInt]⟩
def G3 (d:A.handled=none)(hit:jt k s.heap it a i)(l:jY k s.heap a items)(g:items[i]? =none)
  (j:∀h' e,Heap.ExtBut it s.heap h'->(∃o,h'.get? e=some o/\o.cls=.type "StopIteration")->E (.ref e) { s with heap:=h' }):wpAny (model prog w) A (Builtin.SmallTypes.nextOf (.ref it)) Q E s:=by
 cases k with
 |true=>exact wpAny_nextOf_list_end d hit l g j|false=>
  have h:s.heap.IsTupleIter it a i:=hit;obtain⟨p,H,n,b⟩:=id h;obtain⟨q,c,_,na,f⟩:s.heap.IsTuple a items:=l;unfold Builtin.SmallTypes.nextOf;refine b9 (wpAny_callSpecial?_slot (name:=Str.ofString "__next__") h.typeIs F.slot_tuple_iterator_next (wpAny_call_entry F.slot_tuple_iterator_next h.typeIs F.entry_tuple_iterator_next ?_ (F.args_tuple_iterator_next_1 _)));show wpAny _ _ (field (.ref it) 0 >>= _) _ _ s;refine b9 (wpAny_field H b (x:=.ref a) rfl ?_);show wpAny _ _ (if (Value.ref a==Value.none)=true then _ else _) _ _ s;rw[ar (show ¬((Value.ref a==Value.none)=true) from aA)]
  show wpAny _ _ (field (.ref it) 1 >>= _) _ _ s;refine b9 (wpAny_field H b (x:=.int i 0) rfl ?_);show wpAny _ _ (seqItems? (.ref a) >>= _) _ _ s;refine b9 (wpAny_seqItems c f ?_);simp only[aM,g];refine b9 (wpAny_rule (b9 (wpAny_setField H b (by simp) ?_)))
  show wpAny _ _ (newExc (.type "StopIteration") [] >>= _) _ _ _;refine b9 ?_;simp only[newExc,newTuple];refine b9 (wpAny_newObj_type ?_ (by size_fits))
  refine b9 (m:=firstArgMember _ _) (wpAny_of_eq (a:=Value.none) (by first|rfl|(simp only[firstArgMember];rfl)) ?_);refine wpAny_newObj_type ?_ (by size_fits)
  simp only[raiseNew];refine b9 (wpAny_handled ?_)
  first|rw[show A.in1.handled=none from d]|rw[d]
  refine b9 (cb (wpAny_throw ?_));exact j _ _ (((Heap.SameBut.update ..).extBut.push _).push _) ⟨_,aq _ rfl,rfl⟩
def U0 (j:A.handled=none)(c:a≠it):Draws prog w A it [it,a] items.size (λi v=>items[i]? =some v) (λi h=>jt k h it a i/\jY k h a items) where
 live:=λ_ _ st=>let ⟨o,g,_⟩:=st.1.ob;⟨o,g⟩
 frame:=λ_ _ _ st d=>⟨st.1.to λo e=>d it (by simp) o e,st.2.to λo e=>d a (by simp) o e⟩
 item:=λi s Q E f st l=>Kh st.1 st.2 (x:=items[i]) (by simp[f]) λh' b H=>l _ h' s.toks (by simp[f]) ⟨b,st.2.to λo e=>H.extBut a o c e⟩ H
 done:=λs Q E st n=>G3 j st.1 st.2 (by simp) n
end
section
variable {h':Heap}
def _root_.L2.Inv.spun {T:Addr}{o:HO}(I:Inv X pins σ H s)(k:∀b u,b∉fp->s.heap.get? b=some u->h'.get? b=some u)(hf:∀b∈fp,kG X pins H b)(hT:s.heap.objs.size<=T)
  (new:jb X.prog X.w (upd H T o) h' T o):Inv X pins σ (upd H T o) { s with heap:=h',toks:=t' }:=by
 have hn:H T=none:=I.hok.fresh hT;have lt:∀b u,s.heap.get? b=some u->b≠T:=λb u e=>aK (aC (aF e) hT);have N:∀b u,H b=some u->b∉fp:=λb u e z=>by rw[(hf b z).1]at e;cases e
 refine I.step (g':=s.gens) (d':=s.drawn) (ch:=fp) (λb a=>let ⟨_,f1,_,g,f4,f⟩:=hf b a;⟨g,f1,f4,f⟩) (λb o _ _ h e _=>k b o h e) (λb o _ _ h e _=>⟨o.slots,k b o h e⟩)
  (λb o _ e n=>by rw[qc (lt b o e)];exact n) (λb o h e=>⟨o,k b o h e⟩) (λb xs e=>by rw[qc (kv e hn)];exact e) (λb u xs e=>by rw[qc (kv e hn)];exact e)
  (λb ps e=>⟨#[],by rw[qc (kv e hn),e];simp⟩) (λm hm=>?_) (λb u e=>?_) I.bare
 ·obtain⟨o,E,p,d,r⟩:=hm
  exact⟨o,E,p,k _ o (λz=>(hf _ z).2.1 rfl) d,r⟩
 ·by_cases a:b=T
  ·subst a;rw[jI]at e;cases e;exact new
  ·rw[qc a]at e
   refine(I.hok b u e).stay (λc v h q=>k c v ?_ q) (λc q=>by rw[qc (kv q hn)];exact q) λc xs q=>by rw[qc (kv q hn)];exact q
   rcases h with z|z
   ·rw[z];exact N b u e
   ·exact N c _ z
def _root_.L2.Inv.spun0 (I:Inv X pins σ H s)(k:∀b u,b∉fp->s.heap.get? b=some u->h'.get? b=some u)(hf:∀b∈fp,kG X pins H b):Inv X pins σ H { s with heap:=h',toks:=t' }:=by
 have N:∀b u,H b=some u->b∉fp:=λb u e z=>by rw[(hf b z).1]at e;cases e
 refine I.step (g':=s.gens) (d':=s.drawn) (ch:=fp) (λb d=>let ⟨_,f1,_,g,f4,f⟩:=hf b d;⟨g,f1,f4,f⟩) (λb o _ _ h e _=>k b o h e) (λb o _ _ h e _=>⟨o.slots,k b o h e⟩)
  (λb o _ e n=>n) (λb o h e=>⟨o,k b o h e⟩) (λb xs e=>e) (λb u xs e=>e) (λb ps e=>⟨#[],by rw[e];simp⟩) (λm hm=>?_) (λb u e=>?_) I.bare
 ·obtain⟨o,E,p,a,r⟩:=hm
  exact⟨o,E,p,k _ o (λz=>(hf _ z).2.1 rfl) a,r⟩
 ·refine(I.hok b u e).stay (λc v h q=>k c v ?_ q) (λc q=>q) λc xs q=>q
  rcases h with z|z
  ·rw[z];exact N b u e
  ·exact N c _ z
def _root_.L2.Inv.sq {k:Bool}(I:Inv X pins σ H s)(h:y9 k X.K H a xs):∃i:bN,Vals xs i/\jY k s.heap a i.toArray/\xs.length<=sizeLine:=by
 cases k with
 |true=>obtain⟨i,r,p,z⟩:=I.list h;exact⟨i,r,p.isList,z⟩|false=>obtain⟨i,r,p,z⟩:=I.tuple h;exact⟨i,r,(show s.heap.IsTuple a i.toArray from p),z⟩
def _root_.L2.Inv.sq_inj {k:Bool}(I:Inv X pins σ H s)(h:y9 k X.K H a xs)(h':y9 k X.K H a ys):xs=ys:=by
 cases k with
 |true=>exact I.list_inj h h'|false=>exact I.tuple_inj h h'
end
def X9 (k:Bool)(K:Frag)(a:Addr):It:=
 ⟨λi H=>∃xs x,y9 k K H a xs/\xs[i]? =some x,λi H x h=>∃p y,(∀xs,y9 k K H a xs->xs[i]? =some y)/\H p=none/\x=.ref p/\h=upd H p (.tup [.int i,y]),λi H=>∃xs,y9 k K H a xs/\xs.length=i⟩
def N6 {K:Frag}(k:Bool)(a n it:Addr):Turn P w K (.Tuple elts kk tpos) (X9 k K a) [n,it] n (λi h=>(∃old,IsEnum h n it i old)/\jt k h it a i/\n≠it) where
 mem:=by simp
 obj:=λi h st b f=>by
  obtain⟨⟨old,he⟩,g,_⟩:=st;rcases cc.mp f with rfl|f
  ·exact⟨_,he,λv z=>nomatch z⟩
  ·rw[cn.mp f]
   obtain⟨o,S,_,hd⟩:=g.ob;exact⟨o,S,λv z=>by rw[hd]at z;cases z⟩
 keep:=λi h h' ⟨⟨old,he⟩,g,ne⟩ kp=>⟨⟨old,kp n (by simp) _ he⟩,g.to λo r=>kp it (by simp) o r,ne⟩
 item:=by
  intro X hP hw hK hc i pins s σ H E I hf st U;subst hP hw hK;obtain⟨⟨old,he⟩,g,ne⟩:=st;obtain⟨xs,x,D,C⟩:=U;obtain⟨d,J,t,hz⟩:=I.sq D;obtain⟨u,hu,ru⟩:=J.get C;have T:i<d.toArray.size:=by simpa using (cg.mp hu).1
  obtain⟨oa,j,hca,na,e⟩:=t.ob;have A:a≠it:=λz=>by
   obtain⟨oi,c,Z,p⟩:=g.ob;rw[<- z,j]at c;cases c;rw[p]at e;cases e
  have ane:n≠a:=λz=>by
   have B:s.heap.get? a=_:=z ▸ he;rw[j]at B;cases B;cases e
  refine wpAny_pyNext_enum_itemD (U0 (k:=k) (items:=d.toArray) (I.ok.hd hc) A) he ⟨g,t⟩ T ne (by simp[ne,ane]) λy h1 tk M S Q hT hsz hk=>?_
  have ey:y=u:=by
   have:d[i]? =some y:=by simpa using M
   rw[hu]at this;exact(aB this).symm
  subst ey;refine⟨_,rfl,wpAny_letOwnedTupleGo_enum S λh2 Y l=>?_⟩;have L:n<s.heap.objs.size:=aF he;have hT2:h2.get? s.heap.objs.size=some { cls:=.type "tuple",data:=.seq #[.int i tk,y] }:=l.extBut _ _ (bx L) hT;refine⟨.ref s.heap.objs.size,upd H s.heap.objs.size (.tup [.int i,x]),?_,rfl,⟨s.heap.objs.size,x,λys M=>by rw[I.sq_inj M D];exact C,I.hok.fresh (au _),rfl,rfl⟩,⟨⟨_,by simpa using Y⟩,?_,ne⟩,λb f=>?_⟩
  ·refine I.spun (fp:=[n,it]) (t':=tk+1) (λb o f r=>?_) hf (au _) ?_
   ·exact l.extBut _ _ (λz=>f (by simp[z])) (hk b o (λz=>f (by simp[z])) (λz=>f (by simp[z])) r)
   ·exact⟨by show 2<=sizeLine;decide,[.int i tk,y],.cons ⟨tk,rfl⟩ (.cons ru .nil),_,hT2,⟨rfl,rfl⟩,0,rfl⟩
  ·exact Q.1.to λo r=>l.extBut _ _ (λz=>ne z.symm) r
  ·have bn:b≠s.heap.objs.size:=λz=>by
    rcases cc.mp f with q|q
    ·exact absurd L (by rw[<- q,z];exact aW _)
    ·obtain⟨oi,c,_⟩:=g.ob
     exact absurd (aF c) (by rw[<- cn.mp q,z];exact aW _)
   show upd H s.heap.objs.size _ b=none;rw[qc bn];exact(hf b f).1
 done:=by
  intro X hP hw hK hc i pins s σ H E I hf st U;subst hP hw hK;obtain⟨⟨old,he⟩,g,ne⟩:=st;obtain⟨xs,D,C⟩:=U;obtain⟨d,J,t,hz⟩:=I.sq D;have en':d.toArray.size=i:=by rw[aE,<- J.length];exact C
  obtain⟨oa,j,hca,na,e⟩:=t.ob;have A:a≠it:=λz=>by
   obtain⟨oi,c,Z,p⟩:=g.ob;rw[<- z,j]at c;cases c;rw[p]at e;cases e
  refine wpAny_pyNext_enum_endD (U0 (k:=k) (items:=d.toArray) (I.ok.hd hc) A) he ⟨by rw[en'];exact g,t⟩ λh1 N=>⟨rfl,?_⟩
  exact I.spun0 (fp:=[n,it]) (t':=s.toks) (λb o f r=>N b o (λz=>f (by simp[z])) r) hf
 self:=λ_ _ _ _ _ ⟨⟨_,he⟩,_⟩ h=>wpAny_pyIter_enum he h
open AutoSeq1 (wpAny_loadPart')
abbrev K6 (h:Heap)(k:Bool)(a:Addr):Heap:=h.push { cls:=.type (Qx k),data:=.fields #[.ref a,.int 0 0] }
abbrev RN (h:Heap)(k:Bool)(a:Addr):Heap:=(K6 h k a).push { cls:=.type "enumerate",data:=.fields #[.none,.bool false,.ref h.objs.size,rawInt 0,.none,.none] }
def O8 (a:Addr)(items:Array Value)(n:Nat)(dd:bZ)(S:Array (Option Value)):
  Meets (Builtin.«enumerate.__new__» ⟨[.type "enumerate",.ref a],[]⟩) (λ_ R s=>s.heap.get? a=some { cls:=.type "tuple",dict:=dd,data:=.seq items n,slots:=S }/\R (.ok (.ret (.ref (K6 s.heap false a).objs.size))) { s with heap:=RN s.heap false a }):=
 .of_wp λprog w A R s h=>by
  obtain⟨p,g,d,tk,os⟩:=s;obtain⟨H,h⟩:=h;have b:=sub_enumerate;have hT:Heap.IsTuple (Shared.heap ⟨p,g,d,tk,os⟩) a items:=⟨_,H,rfl,n,rfl⟩
  wp_walk using wpAny_loadPart' H
  refine wpAny_stack_any λst=>cb ?_;split
  ·rename_i c _ _ _ _ _
   cases (c==Value.type "enumerate")<;>(wp_walk using wpAny_loadPart' H,wpAny_pyIter_tuple hT;exact⟨_,rfl,h⟩)
  ·wp_walk using wpAny_loadPart' H,wpAny_pyIter_tuple hT
   exact⟨_,rfl,h⟩
section
variable {prog:Program}{A:Around}
def Mm {k:Bool}{items:Array Value}(l:jY k s.heap a items)
  (h:∀h',IsEnum h' (s.heap.objs.size+1) s.heap.objs.size 0 .none->jt k h' s.heap.objs.size a 0->(∀b o,s.heap.get? b=some o->h'.get? b=some o)->Q (.ref (s.heap.objs.size+1)) { s with heap:=h' }):
  wpAny (model prog w) A (call (.type "enumerate") [.ref a]) Q E s:=by
 cases k with
 |true=>exact call_enumerate_list l λh' g f _ e=>h h' g f e|false=>
  obtain⟨⟨c,dd,dt,S⟩,d,H,n,hd⟩:=(show s.heap.IsTuple a items from l)
  replace H:c=.type "tuple":=H
  replace hd:dt=.seq items n:=hd
  subst H hd;refine callType_new F.called_enumerate (by decide) (F.typeCall_enumerate_1 _) (F.newCall_enumerate_1 _) (λobj=>F.args_object_init_2 obj _) F.entry_enumerate_new (O8 a items n dd S) ⟨d,?_⟩
  have z:(K6 s.heap false a).objs.size=s.heap.objs.size+1:=a9 ..;have he:IsEnum (RN s.heap false a) (K6 s.heap false a).objs.size s.heap.objs.size 0 .none:=aq _ rfl;show _/\_;rw[z]at he ⊢;exact⟨⟨_,he,rfl⟩,h _ he (.mk ⟨_,af _ (aq _ rfl),rfl,rfl⟩) λb o x=>af _ (af _ x)⟩
end
section
variable {a b:Expr}{m:Ev}
def CK (K:Frag)(t:TA):TI:=λσ H R=>t σ H λvs H1=>∃p k xs,vs=[.ref p]/\y9 k K H1 p xs/\R (X9 k K p) H1
def boot_enumerate:bootBuiltins "enumerate"=some (.type "enumerate"):=by rfl
def boot_zip:bootBuiltins "zip"=some (.type "zip"):=by rfl
def Hv {t:TA}(l:Gl X "enumerate")(hm:X.mg "enumerate"=none)(o:PA X [a] t)(g:starEach [a] X.env=[(false,eval a X.env)]):
  PI X (.Tuple elts kk tpos) (.Call (.Name "enumerate" p) [a] [] pos) (CK X.K t):=by
 intro pins s σ H R I h;refine Call_ (ZT I l hm boot_enumerate (PyProof.Rows.callWith_type1 (zP (o pos pins s σ H _ I h) λus s1 ⟨vs,H1,i,d,Q⟩=>?_) g rfl));obtain⟨p,k,xs,rfl,j,q⟩:=Q;obtain⟨u,rfl,r⟩:=d.one;cases r;obtain⟨f,w,sq,x⟩:=i.sq j;refine Mm sq λh' e v E=>wpAny_pyIter_enum e ?_;refine⟨s1.heap.objs.size+1,[s1.heap.objs.size+1,s1.heap.objs.size],_,_,H1,rfl,i.kept (t':=s1.toks) E,N6 k p _ _,⟨⟨_,by simpa using e⟩,v,Nat.succ_ne_self _⟩,λb n=>?_,q⟩
 have c:s1.heap.objs.size<=b:=by
  rcases cc.mp n with z|z
  ·rw[z];exact le_succ _
  ·rw[cn.mp z];exact au _
 exact i.fpOk c (i.hok.fresh c)
noncomputable def atEnd (ws:List W)(i:Nat)(f:W->W):Option (Option W):=match ws[i]? with
 |some x=>some (some (f x))|none=>if ws.length=i then some none else none
def wR (w:W)(n:Nat):jv:=⟨λA i=>match zS w A with
 |some ws=>atEnd ws i λx=>.tup [.int i,x]|none=>none,n⟩
noncomputable def Z0 (w:W):Bool:=match w with
 |.tup _=>false|_=>true
def Y7 {K:Frag}{A:Hx}{w:W}{ws:List W}(S:zE K φ A H)(q:RV K φ H w v)(e:zS w A=some ws):∃p ys,v=.ref p/\y9 (Z0 w) K H p ys/\zw K φ H ws ys:=by
 cases w with
 |tup us=>cases e;obtain⟨a,vs,E,t,r⟩:=q;exact⟨a,vs,E,t,r⟩|ref n=>
  obtain⟨a,E,f⟩:=q;unfold zS at e;dsimp only at e;cases c:A[n]? with
  |none=>rw[c]at e;cases e|some o=>
   rw[c]at e;obtain⟨g,d,r⟩:=S.ob n o c;rw[f]at d;cases d;cases o with
   |lst xs=>cases e;obtain⟨y,b,h⟩:=r;exact⟨a,y,E,qN.of b,h⟩|ro xs=>cases e;obtain⟨y,b,h⟩:=r;exact⟨a,y,E,b.sq,h⟩|dct xs=>cases e|td _=>cases e|tab _ _=>cases e
 |non=>cases e|bl _=>cases e|clo _ _ _=>cases e|xc _=>cases e|int _=>cases e|str _=>cases e
def W7 {K:Frag}{a:bO}{A:Hx}{h:Hp}{w:W}{b:List W}{p:Addr}(q:RV K φ H w (.ref p))(lw:Zx K φ H a h)(S:zE K a A h)(E:zS w A=some b):∃y,y9 (Z0 w) K h p y/\zw K a h b y:=by
 obtain⟨P,ys,e,d,c⟩:=Y7 S (RV.monoW lw q) E;cases e;exact⟨ys,d,c⟩
def Cr {K:Frag}{w:W}{p:Addr}(q:RV K φ H w (.ref p)):Z4 K φ H (wR w n) (X9 (Z0 w) K p):=λi c l k lw S=>by
 unfold wR;dsimp only;cases es:zS w k with
 |none=>exact⟨λ_ z=>(by cases z),λz=>(by cases z)⟩|some ws=>
  dsimp only;obtain⟨ys,a,b⟩:=W7 q lw S es;unfold atEnd;cases E:ws[i]? with
  |none=>
   dsimp only
   by_cases h:ws.length=i
   ·rw[ag h]
    exact⟨λ_ z=>(by cases z),λ_=>⟨ys,a,by rw[<- b.length];exact h⟩⟩
   ·rw[ar h]
    exact⟨λ_ z=>(by cases z),λz=>(by cases z)⟩
  |some x=>
   dsimp only;refine⟨λu z=>?_,λz=>(by cases z)⟩
   cases z;obtain⟨y,e,j⟩:=b.get E;refine⟨⟨ys,y,a,e⟩,λX H1 ⟨t,Y,d,f,ex,g⟩=>?_⟩;subst ex g
   have:=d ys a
   rw[e]at this;cases this;obtain⟨a1,a2,A⟩:=Yc S f (.cons (w:=.int i) (v:=.int i) rfl (.one j));exact⟨a1,a2,A⟩
def Jk (m:Ev):Ei:=λρ A=>(m ρ A).bind λw A1=>match zS w A1 with
 |some ws=>.ok (wR w ws.length) A1|none=>.bad
end
section
variable {prog:Program}{A:Around}{z TI TO i1 i2 l1 l2:Addr}{n1 n2:Nat}{c1 c2:Bool}{xs ys:Array Value}{x y a b:Value}
def Fc (D:ZipApart z TI TO i1 i2 l1 l2)(H:IsZip s.heap z TI TO .none)(I:IsPair s.heap TI (.ref i1) (.ref i2))(u:IsPair s.heap TO a b)
  (g1:jt c1 s.heap i1 l1 n1)(g2:jt c2 s.heap i2 l2 n2)(s1:jY c1 s.heap l1 xs)(s2:jY c2 s.heap l2 ys)(X:xs[n1]? =some x)(U:ys[n2]? =some y)
  (hQ:∀h',IsZip h' z TI TO (rawInt s.heap.objs.size)->IsPair h' TI (.ref i1) (.ref i2)->IsPair h' TO x y->jt c1 h' i1 l1 (n1+1)->jt c2 h' i2 l2 (n2+1)->IsPair h' s.heap.objs.size x y->
   (∀c o,c≠z->c≠TO->c≠i1->c≠i2->s.heap.get? c=some o->h'.get? c=some o)->Q (.ref s.heap.objs.size) { s with heap:=h' }):
  wpAny (model prog w) A (Builtin.«zip.__next__» ⟨[.ref z],[]⟩) (λfin s'=>∃v,fin=.done (.ret v)/\Q v s') E s:=by
 show wpAny _ _ (field (.ref z) 2 >>= _) _ _ _;refine b9 (wpAny_field H rfl (x:=.bool false) rfl ?_);show wpAny _ _ (field (.ref z) 3 >>= _) _ _ _;refine b9 (wpAny_field H rfl (x:=.ref TI) rfl (b9 (wpAny_seqItems I rfl ?_)));show wpAny _ _ (Builtin.SmallTypes.ownedTupleIsFree (.ref z) >>= _) _ _ _;refine b9 ?_;unfold Builtin.SmallTypes.ownedTupleIsFree;refine b9 (wpAny_field H rfl (x:=.none) rfl (cb ?_));simp only[if_true];refine b9 (wpAny_rule (b9 (wpAny_field H rfl (x:=.ref TO) rfl ?_)));refine b9 (wpAny_setField_rec H (by simp) λha p sa=>?_);replace p:IsZip ha z TI TO .ellipsis:=p
 refine b9 ?_;simp only[List.zipIdx_cons,List.zipIdx_nil,forIn_cons,forIn_nil];refine b9 (b9 (wpAny_onRaise ?_));show wpAny _ _ (Builtin.SmallTypes.nextOf (.ref i1) >>= _) _ _ _;refine b9 (Kh (g1.to λo e=>sa.extBut _ _ D.i1z e) (s1.to λo e=>sa.extBut _ _ D.l1z e) X λhb gb j=>cb ?_);have J:IsPair hb TO a b:=j.extBut _ _ D.TOi1 (sa.extBut _ _ D.TOz u);refine b9 (wpAny_seqItems J rfl (b9 (wpAny_updateSeq_pair J λN T sc=>b9 (wpAny_letGo (cb ?_)))));replace T:IsPair N TO x b:=T;refine b9 (b9 (wpAny_onRaise ?_));show wpAny _ _ (Builtin.SmallTypes.nextOf (.ref i2) >>= _) _ _ _;have up:∀c o,c≠z->c≠i1->c≠TO->s.heap.get? c=some o->N.get? c=some o:=λc o f d h e=>sc.extBut _ _ h (j.extBut _ _ d (sa.extBut _ _ f e));refine b9 (Kh (g2.to λo e=>up _ o D.i2z D.i12.symm D.TOi2.symm e) (s2.to λo e=>up _ o D.l2z D.l2i1 D.l2TO e) U λhd gd g=>cb ?_);have td:IsPair hd TO x b:=g.extBut _ _ D.TOi2 T;refine b9 (wpAny_seqItems td rfl (b9 (wpAny_updateSeq_pair td λhe t S=>b9 (wpAny_letGo (cb (cb ?_))))));replace t:IsPair he TO x y:=t;refine b9 (wpAny_seqItems t rfl (b9 (wpAny_newTuple ?_)));have i:he.objs.size=s.heap.objs.size:=by rw[S.1,g.1,sc.1,j.1,sa.1]
 have C:IsZip he z TI TO .ellipsis:=S.extBut _ _ D.TOz.symm (g.extBut _ _ D.i2z.symm (sc.extBut _ _ D.TOz.symm (j.extBut _ _ D.i1z.symm p)));have M:∀c o,c≠z->c≠TO->c≠i1->c≠i2->s.heap.get? c=some o->he.get? c=some o:=λc o f d h r e=>S.extBut _ _ d (g.extBut _ _ r (up c o f h d e));have ge1:jt c1 he i1 l1 (n1+1):=((gb.to λo e=>sc.extBut _ _ D.TOi1.symm e).to λo e=>g.extBut _ _ D.i12 e).to λo e=>S.extBut _ _ D.TOi1.symm e;have B:jt c2 he i2 l2 (n2+1):=gd.to λo e=>S.extBut _ _ D.TOi2.symm e;have Z:z<he.objs.size:=aF C;show wpAny _ _ (Builtin.SmallTypes.ownedTupleHandOut (.ref z) (.ref he.objs.size) >>= _) _ _ _;refine b9 ?_;unfold Builtin.SmallTypes.ownedTupleHandOut;have P:IsZip (he.push { cls:=.type "tuple",data:=.seq #[x,y] }) z TI TO .ellipsis:=af _ C;refine b9 (wpAny_setField_rec P (by simp) λY n L=>?_);replace n:IsZip Y z TI TO (rawInt he.objs.size):=n
 refine wpAny_setField_rec n (by simp) λl k K=>?_;replace k:IsZip l z TI TO (rawInt he.objs.size):=k
 have fin:∀c o,c≠z->he.get? c=some o->l.get? c=some o:=λc o q e=>K.extBut _ _ q (L.extBut _ _ q (af _ e));have tk:IsPair l he.objs.size x y:=K.extBut _ _ (bx Z) (L.extBut _ _ (bx Z) (aq _ rfl));rw[i]at k tk;refine cb ⟨_,rfl,?_⟩;show Q (.ref he.objs.size) _;rw[i];exact hQ l k (fin _ _ D.TIz (M _ _ D.TIz D.TITO D.TIi1 D.TIi2 I)) (fin _ _ D.TOz t) (ge1.to λo e=>fin _ o D.i1z e) (B.to λo e=>fin _ o D.i2z e) tk λc o f d h r e=>fin c o f (M c o f d h r e)
def Ec {Q:Fin->Shared->Prop}(J:A.handled=none)(D:ZipApart z TI TO i1 i2 l1 l2)(i:IsZip s.heap z TI TO .none)(I:IsPair s.heap TI (.ref i1) (.ref i2))(u:IsPair s.heap TO a b)
  (g1:jt c1 s.heap i1 l1 n1)(g2:jt c2 s.heap i2 l2 n2)(s1:jY c1 s.heap l1 xs)(s2:jY c2 s.heap l2 ys)(j:xs[n1]? =none∨ys[n2]? =none)
  (K:∀h' e,(∀c o,c≠z->c≠TO->c≠i1->c≠i2->s.heap.get? c=some o->h'.get? c=some o)->(∃o,h'.get? e=some o/\o.cls=.type "StopIteration")->E (.ref e) { s with heap:=h' }):
  wpAny (model prog w) A (Builtin.«zip.__next__» ⟨[.ref z],[]⟩) Q E s:=by
 show wpAny _ _ (field (.ref z) 2 >>= _) _ _ _;refine b9 (wpAny_field i rfl (x:=.bool false) rfl ?_);show wpAny _ _ (field (.ref z) 3 >>= _) _ _ _;refine b9 (wpAny_field i rfl (x:=.ref TI) rfl (b9 (wpAny_seqItems I rfl ?_)));show wpAny _ _ (Builtin.SmallTypes.ownedTupleIsFree (.ref z) >>= _) _ _ _;refine b9 ?_;unfold Builtin.SmallTypes.ownedTupleIsFree;refine b9 (wpAny_field i rfl (x:=.none) rfl (cb ?_));simp only[if_true];refine b9 (wpAny_rule (b9 (wpAny_field i rfl (x:=.ref TO) rfl ?_)));refine b9 (wpAny_setField_rec i (by simp) λt Z sa=>?_);replace Z:IsZip t z TI TO .ellipsis:=Z
 refine b9 ?_;simp only[List.zipIdx_cons,List.zipIdx_nil,forIn_cons,forIn_nil];refine b9 (b9 (wpAny_onRaise ?_));show wpAny _ _ (Builtin.SmallTypes.nextOf (.ref i1) >>= _) _ _ _;have ga:=g1.to (h':=t) λo e=>sa.extBut _ _ D.i1z e;have Y:=s1.to (h':=t) λo e=>sa.extBut _ _ D.l1z e;cases n:xs[n1]? with
 |none=>
  refine b9 (G3 J ga Y n λr e S he=>?_);obtain⟨l,h,H⟩:=he;have y:IsZip r z TI TO .ellipsis:=S _ _ D.i1z.symm Z;have f:e≠z:=λq=>by subst q;rw[y]at h;cases h;simp at H
  exact wpAny_setField_rec y (by simp) λp _ sc=>K p e (λc o d _ g _ q=>sc.extBut _ _ d (S _ _ g (sa.extBut _ _ d q))) ⟨l,sc.extBut _ _ f h,H⟩
 |some x=>
  have M:ys[n2]? =none:=by
   rcases j with q|q
   ·rw[n]at q;cases q
   ·exact q
  refine b9 (Kh ga Y n λr P S=>cb ?_);have T:IsPair r TO a b:=S.extBut _ _ D.TOi1 (sa.extBut _ _ D.TOz u);refine b9 (wpAny_seqItems T rfl (b9 (wpAny_updateSeq_pair T λp N sc=>b9 (wpAny_letGo (cb ?_)))));refine b9 (b9 (wpAny_onRaise ?_));show wpAny _ _ (Builtin.SmallTypes.nextOf (.ref i2) >>= _) _ _ _;have up:∀c o,c≠z->c≠i1->c≠TO->s.heap.get? c=some o->p.get? c=some o:=λc o d k g e=>sc.extBut _ _ g (S.extBut _ _ k (sa.extBut _ _ d e));refine b9 (G3 J (g2.to λo e=>up _ o D.i2z D.i12.symm D.TOi2.symm e) (s2.to λo e=>up _ o D.l2z D.l2i1 D.l2TO e) M λhd e C he=>?_);obtain⟨l,h,H⟩:=he;have v:IsZip hd z TI TO .ellipsis:=C _ _ D.i2z.symm (sc.extBut _ _ D.TOz.symm (S.extBut _ _ D.i1z.symm Z));have f:e≠z:=λq=>by subst q;rw[v]at h;cases h;simp at H
  exact wpAny_setField_rec v (by simp) λhf _ B=>K hf e (λc o d k g L q=>B.extBut _ _ d (C _ _ L (up c o d g k q))) ⟨l,B.extBut _ _ f h,H⟩
def Fh {Q:Option Value->Shared->Prop}(D:ZipApart z TI TO i1 i2 l1 l2)(d:IsZip s.heap z TI TO .none)(H:IsPair s.heap TI (.ref i1) (.ref i2))(h:IsPair s.heap TO a b)
  (g1:jt c1 s.heap i1 l1 n1)(g2:jt c2 s.heap i2 l2 n2)(s1:jY c1 s.heap l1 xs)(s2:jY c2 s.heap l2 ys)(n:xs[n1]? =some x)(l:ys[n2]? =some y)
  (p:∀h',IsZip h' z TI TO (rawInt s.heap.objs.size)->IsPair h' TI (.ref i1) (.ref i2)->IsPair h' TO x y->jt c1 h' i1 l1 (n1+1)->jt c2 h' i2 l2 (n2+1)->IsPair h' s.heap.objs.size x y->
   (∀c o,c≠z->c≠TO->c≠i1->c≠i2->s.heap.get? c=some o->h'.get? c=some o)->Q (some (.ref s.heap.objs.size)) { s with heap:=h' }):wpAny (model prog w) A (pyNext (.ref z)) Q E s:=by
 have hT:s.TypeIs (.ref z) "zip":=⟨_,d,rfl⟩;unfold pyNext;exact b9 (wpAny_attempt (wpAny_callSpecial?_slot (name:=Str.ofString "__next__") hT F.slot_zip_next (wpAny_call_entry F.slot_zip_next hT F.entry_zip_next
  (Fc D d H h g1 g2 s1 s2 n l λh' k j i g f e q=>cb (p h' k j i g f e q)) (F.args_zip_next_1 _))))
def Fb {Q:Option Value->Shared->Prop}(g:A.handled=none)(D:ZipApart z TI TO i1 i2 l1 l2)(d:IsZip s.heap z TI TO .none)(I:IsPair s.heap TI (.ref i1) (.ref i2))(H:IsPair s.heap TO a b)
  (g1:jt c1 s.heap i1 l1 n1)(g2:jt c2 s.heap i2 l2 n2)(s1:jY c1 s.heap l1 xs)(s2:jY c2 s.heap l2 ys)(h:xs[n1]? =none∨ys[n2]? =none)
  (j:∀h',(∀c o,c≠z->c≠TO->c≠i1->c≠i2->s.heap.get? c=some o->h'.get? c=some o)->Q none { s with heap:=h' }):wpAny (model prog w) A (pyNext (.ref z)) Q E s:=by
 have hT:s.TypeIs (.ref z) "zip":=⟨_,d,rfl⟩;unfold pyNext;refine b9 (wpAny_attempt (wpAny_callSpecial?_slot (name:=Str.ofString "__next__") hT F.slot_zip_next (wpAny_call_entry F.slot_zip_next hT F.entry_zip_next (Ec g D d I H g1 g2 s1 s2 h λh' e k he=>?_) (F.args_zip_next_1 _))));obtain⟨o,f,i⟩:=he;exact b9 (wpAny_isInstance (T := "StopIteration") (b:=true) ⟨o,f,i⟩ isSubtype_stop (cb (j _ k)))
end
abbrev K7 (h:Heap)(c:Bool)(l:Addr):Heap:=h.push { cls:=.type (Qx c),data:=.fields #[.ref l,.int 0 0] }
abbrev KL (h:Heap)(C c:Bool)(L l:Addr):Heap:=(K7 h C L).push { cls:=.type (Qx c),data:=.fields #[.ref l,.int 0 0] }
abbrev K1 (h:Heap)(c C:Bool)(l L:Addr):Heap:=(KL h c C l L).push { cls:=.type "tuple",data:=.seq #[.ref h.objs.size,.ref (K7 h c l).objs.size] }
abbrev KP (h:Heap)(C c:Bool)(L l:Addr):Heap:=(K1 h C c L l).push { cls:=.type "tuple",data:=.seq #[.none,.none] }
abbrev Jr (h:Heap)(C c:Bool)(L l:Addr):Heap:=(KP h C c L l).push { cls:=.type "zip",data:=.fields #[.none,.bool false,.bool false,.ref (KL h C c L l).objs.size,.ref (K1 h C c L l).objs.size] }
def Mj (c C:Bool)(l L:Addr)(xs ys:Array Value):
  Meets (Builtin.«zip.__new__» ⟨[.type "zip",.ref l,.ref L],[]⟩) (λ_ R s=>jY c s.heap l xs/\jY C s.heap L ys/\R (.ok (.ret (.ref (KP s.heap c C l L).objs.size))) { s with heap:=Jr s.heap c C l L }):=
 .of_wp λprog w A R s h=>by
  obtain⟨p,g,d,tk,os⟩:=s;obtain⟨Q,q,h⟩:=h;have H:=sub_zip;have k1:jY c (Shared.heap ⟨p,g,d,tk,os⟩) l xs:=Q;have k2:jY C (Shared.heap ⟨p.push { cls:=.type (Qx c),data:=.fields #[.ref l,.int 0 0] },g,d,tk,os⟩) L ys:=q.to λo e=>af _ e
  wp_walk using T8 k1,T8 k2
  exact⟨_,rfl,h⟩
section
variable {prog:Program}{A:Around}{c1 c2:Bool}{l1 l2:Addr}{xs ys:Array Value}
def LW (s1:jY c1 s.heap l1 xs)(s2:jY c2 s.heap l2 ys)
  (h:∀h' n,n=s.heap.objs.size->IsZip h' (n+4) (n+2) (n+3) .none->IsPair h' (n+2) (.ref n) (.ref (n+1))->IsPair h' (n+3) .none .none->jt c1 h' n l1 0->jt c2 h' (n+1) l2 0->
   (∀c o,s.heap.get? c=some o->h'.get? c=some o)->Q (.ref (n+4)) { s with heap:=h' }):wpAny (model prog w) A (call (.type "zip") [.ref l1,.ref l2]) Q E s:=by
 refine callType_new F.called_zip (by decide) (F.typeCall_zip_2 _ _) (F.newCall_zip_2 _ _) (λobj=>F.args_object_init_3 obj _ _) F.entry_zip_new (Mj c1 c2 l1 l2 xs ys) ⟨s1,s2,?_⟩
 have a:(K7 s.heap c1 l1).objs.size=s.heap.objs.size+1:=a9 ..;have Z:(KL s.heap c1 c2 l1 l2).objs.size=s.heap.objs.size+2:=by rw[a9,a]
 have z:(K1 s.heap c1 c2 l1 l2).objs.size=s.heap.objs.size+3:=by rw[a9,Z]
 have b:(KP s.heap c1 c2 l1 l2).objs.size=s.heap.objs.size+4:=by rw[a9,z]
 have y5:(Jr s.heap c1 c2 l1 l2).get? (KP s.heap c1 c2 l1 l2).objs.size=some _:=aq _ rfl;have y4:(Jr s.heap c1 c2 l1 l2).get? (K1 s.heap c1 c2 l1 l2).objs.size=some _:=af _ (aq _ rfl);have y:(Jr s.heap c1 c2 l1 l2).get? (KL s.heap c1 c2 l1 l2).objs.size=some _:=af _ (af _ (aq _ rfl));have Y:(Jr s.heap c1 c2 l1 l2).get? (K7 s.heap c1 l1).objs.size=some _:=af _ (af _ (af _ (aq _ rfl)));have y1:(Jr s.heap c1 c2 l1 l2).get? s.heap.objs.size=some _:=af _ (af _ (af _ (af _ (aq _ rfl))));show _/\_;rw[Z,z,b]at y5;rw[a,Z]at y;rw[z]at y4;rw[a]at Y;rw[b];exact⟨⟨_,y5,rfl⟩,h _ _ rfl y5 y y4 (.mk ⟨_,y1,rfl,rfl⟩) (.mk ⟨_,Y,rfl,rfl⟩) λc o q=>
  af _ (af _ (af _ (af _ (af _ q))))⟩
end
def Vf (C c:Bool)(K:Frag)(p q:Addr):It:=
 ⟨λi H=>∃xs ys x y,y9 C K H p xs/\y9 c K H q ys/\xs[i]? =some x/\ys[i]? =some y,
  λi H v h=>∃t x y,(∀xs,y9 C K H p xs->xs[i]? =some x)/\(∀ys,y9 c K H q ys->ys[i]? =some y)/\H t=none/\v=.ref t/\h=upd H t (.tup [x,y]),
  λi H=>∃xs ys,y9 C K H p xs/\y9 c K H q ys/\(xs[i]? =none∨ys[i]? =none)⟩
def Ln {K:Frag}(c1 c2:Bool)(p q z TI TO t r:Addr)(D:ZipApart z TI TO t r p q):
  Turn P w K (.Tuple elts kk tpos) (Vf c1 c2 K p q) [z,TI,TO,t,r] z (λi h=>IsZip h z TI TO .none/\IsPair h TI (.ref t) (.ref r)/\(∃a b,IsPair h TO a b)/\jt c1 h t p i/\jt c2 h r q i) where
 mem:=by simp
 obj:=λi h st b d=>by
  obtain⟨j,g,⟨T,Q,f⟩,g1,g2⟩:=st;simp only[mem_cons,not_mem_nil,or_false]at d;rcases d with rfl|rfl|rfl|rfl|rfl
  ·exact⟨_,j,λv e=>nomatch e⟩
  ·exact⟨_,g,λv e=>nomatch e⟩
  ·exact⟨_,f,λv e=>nomatch e⟩
  ·obtain⟨o,B,_,hd⟩:=g1.ob;exact⟨o,B,λv e=>by rw[hd]at e;cases e⟩
  ·obtain⟨o,B,_,hd⟩:=g2.ob;exact⟨o,B,λv e=>by rw[hd]at e;cases e⟩
 keep:=λi h h' ⟨j,g,⟨T,Q,f⟩,g1,g2⟩ k=>⟨k z (by simp) _ j,k TI (by simp) _ g,⟨T,Q,k TO (by simp) _ f⟩,g1.to λo e=>k t (by simp) o e,g2.to λo e=>k r (by simp) o e⟩
 item:=by
  intro X hP hw hK hc i pins s σ H E I hf st hg;subst hP hw hK;obtain⟨j,g,⟨T,Q,f⟩,g1,g2⟩:=st;obtain⟨xs,ys,x,y,N,M,ex,ey⟩:=hg;obtain⟨n,r1,u,_⟩:=I.sq N;obtain⟨l,r2,S,_⟩:=I.sq M;obtain⟨Y,eu1,ru1⟩:=r1.get ex;obtain⟨U,eu2,Z⟩:=r2.get ey;refine Fh D j g f g1 g2 u S (x:=Y) (y:=U) (by simpa using eu1) (by simpa using eu2) λhh z1 z2 z3 z4 z5 z6 kp=>?_
  refine⟨_,rfl,wpAny_letOwnedTupleGo_zip z1 λhk zk J=>?_⟩;have lt:∀{c o},s.heap.get? c=some o->c≠s.heap.objs.size:=λe=>aK (aF e);have T2:IsPair hk s.heap.objs.size Y U:=J.extBut _ _ (lt j).symm z6;have fre:∀b∈[z,TI,TO,t,r],b≠s.heap.objs.size:=λb d=>by
   simp only[mem_cons,not_mem_nil,or_false]at d;rcases d with rfl|rfl|rfl|rfl|rfl
   ·exact lt j
   ·exact lt g
   ·exact lt f
   ·obtain⟨o,B,_⟩:=g1.ob;exact lt B
   ·obtain⟨o,B,_⟩:=g2.ob;exact lt B
  refine⟨.ref s.heap.objs.size,upd H s.heap.objs.size (.tup [x,y]),?_,rfl,⟨s.heap.objs.size,x,y,λzs A=>by rw[I.sq_inj A N];exact ex,λzs A=>by rw[I.sq_inj A M];exact ey,I.hok.fresh (au _),rfl,rfl⟩,
   ⟨zk,J.extBut _ _ D.TIz z2,⟨_,_,J.extBut _ _ D.TOz z3⟩,z4.to λo e=>J.extBut _ _ D.i1z e,z5.to λo e=>J.extBut _ _ D.i2z e⟩,λb d=>?_⟩
  ·refine I.spun (fp:=[z,TI,TO,t,r]) (t':=s.toks) (λb o d eo=>?_) hf (au _) ?_
   ·exact J.extBut _ _ (λe=>d (by simp[e])) (kp b o (λe=>d (by simp[e])) (λe=>d (by simp[e])) (λe=>d (by simp[e])) (λe=>d (by simp[e])) eo)
   ·exact⟨by show 2<=sizeLine;decide,[Y,U],.cons ru1 (.cons Z .nil),_,T2,⟨rfl,rfl⟩,0,rfl⟩
  ·show upd H s.heap.objs.size _ b=none
   rw[qc (fre b d)];exact(hf b d).1
 done:=by
  intro X hP hw hK hc i pins s σ H E I hf st hg;subst hP hw hK;obtain⟨j,g,⟨T,Q,f⟩,g1,g2⟩:=st;obtain⟨xs,ys,N,M,L⟩:=hg;obtain⟨n,r1,u,_⟩:=I.sq N;obtain⟨l,r2,S,_⟩:=I.sq M;have C:n.toArray[i]? =none∨l.toArray[i]? =none:=by
   rcases L with e|e
   ·exact .inl (by simpa using r1.none_of e)
   ·exact .inr (by simpa using r2.none_of e)
  exact Fb (I.ok.hd hc) D j g f g1 g2 u S C λhh kp=>⟨rfl,I.spun0 (fp:=[z,TI,TO,t,r]) (t':=s.toks) (λb o d eo=>kp b o (λe=>d (by simp[e])) (λe=>d (by simp[e])) (λe=>d (by simp[e])) (λe=>d (by simp[e])) eo) hf⟩
 self:=λ_ _ _ _ _ st h=>wpAny_pyIter_zip st.1 h
section
variable {a b:Expr}{m:Ev}
def Bq (K:Frag)(t:TA):TI:=λσ H R=>t σ H λvs H1=>∃p q C c xs ys,vs=[.ref p,.ref q]/\y9 C K H1 p xs/\y9 c K H1 q ys/\R (Vf C c K p q) H1
def FO {T:TA}(P:Gl X "zip")(hm:X.mg "zip"=none)(U:PA X [a,b] T)(M:starEach [a,b] X.env=(false,eval a X.env)::starEach [b] X.env)(N:(backTo pos (starEach [b] X.env)).any (·.1)=false):
  PI X (.Tuple elts kk tpos) (.Call (.Name "zip" p) [a,b] [] pos) (Bq X.K T):=by
 intro pins s σ H R I h;refine Call_ (ZT I P hm boot_zip (PyProof.Rows.callWith_type1 (zP (U pos pins s σ H _ I h) λus s1 ⟨vs,H1,g,J,Q⟩=>?_) M N));obtain⟨p,q,c1,c2,xs,ys,rfl,h1,h2,Y⟩:=Q;obtain⟨u1,u2,rfl,k,r⟩:=J.two;cases k;cases r;obtain⟨v,C,d,_⟩:=g.sq h1;obtain⟨u,B,S,_⟩:=g.sq h2;obtain⟨op,t,_⟩:=d.ob;obtain⟨oq,o,_⟩:=S.ob;have L:p<s1.heap.objs.size:=aF t;have l:q<s1.heap.objs.size:=aF o;refine LW d S λh' n E z A y x Z kp=>wpAny_pyIter_zip z ?_;rw[<- E]at L l;have ne1:∀(i j:Nat),i≠j->n+i≠n+j:=λi j h e=>h (Nat.add_left_cancel e);have ne2:∀(c:Nat)(i:Nat),c<n->c≠n+i:=λc i h e=>absurd h (by rw[e];exact Nat.not_lt.mpr (le_add_right n i))
 have D:ZipApart (n+4) (n+2) (n+3) (n+0) (n+1) p q:=⟨ne1 2 4 (by decide),ne1 3 4 (by decide),ne1 0 4 (by decide),ne1 1 4 (by decide),ne1 2 3 (by decide),ne1 2 0 (by decide),ne1 2 1 (by decide),ne1 3 0 (by decide),ne1 3 1 (by decide),ne1 0 1 (by decide),
  ne2 p 4 L,ne2 p 3 L,ne2 p 0 L,ne2 p 1 L,ne2 q 4 l,ne2 q 3 l,ne2 q 0 l,ne2 q 1 l⟩
 refine⟨n+4,[n+4,n+2,n+3,n,n+1],_,_,H1,rfl,g.kept (t':=s1.toks) kp,Ln c1 c2 p q _ _ _ _ _ D,⟨z,A,⟨_,_,y⟩,x,Z⟩,λc w=>?_,Y⟩;have f:s1.heap.objs.size<=c:=by
  rw[<- E];simp only[mem_cons,not_mem_nil,or_false]at w;rcases w with rfl|rfl|rfl|rfl|rfl
  ·exact le_add_right _ _
  ·exact le_add_right _ _
  ·exact le_add_right _ _
  ·exact au _
  ·exact le_add_right _ _
 exact g.fpOk f (g.hok.fresh f)
noncomputable def zip2:Option W->Option W->Option W
 |some x,some y=>some (.tup [x,y])|_,_=>none
def Wd (w a:W)(n:Nat):jv:=⟨λA i=>match zS w A,zS a A with
 |some us,some vs=>some (zip2 us[i]? vs[i]?)|_,_=>none,n⟩
def Cy {K:Frag}{w a:W}{p P:Addr}(q:RV K φ H w (.ref p))(Q:RV K φ H a (.ref P)):Z4 K φ H (Wd w a n) (Vf (Z0 w) (Z0 a) K p P):=λi c D A lw S=>by
 unfold Wd;dsimp only;cases es:zS w A with
 |none=>exact⟨λ_ z=>(by cases z),λz=>(by cases z)⟩|some us=>
  cases es':zS a A with
  |none=>exact⟨λ_ z=>(by cases z),λz=>(by cases z)⟩|some vs=>
   dsimp only;obtain⟨xs,b,f⟩:=W7 q lw S es;obtain⟨ys,h,d⟩:=W7 Q lw S es';have non:∀{us:List W}{xs:List V},zw K c D us xs->us[i]? =none->xs[i]? =none:=λr e=>by
    rw[List.getElem?_eq_none_iff]at e ⊢;rw[<- r.length];exact e
   cases j:us[i]? with
   |none=>exact⟨λ_ z=>(by cases z),λ_=>⟨xs,ys,b,h,.inl (non f j)⟩⟩|some x=>
    cases E:vs[i]? with
    |none=>exact⟨λ_ z=>(by cases z),λ_=>⟨xs,ys,b,h,.inr (non d E)⟩⟩|some y=>
     refine⟨λu z=>?_,λz=>(by cases z)⟩
     cases z;obtain⟨k,f1,f2⟩:=f.get j;obtain⟨v,g,f4⟩:=d.get E;refine⟨⟨xs,ys,k,v,b,h,f1,g⟩,λX H1 ⟨t,I,Y,o,l,s,ex,B⟩=>?_⟩;subst ex B;have g1:=o xs b;have g2:=l ys h;rw[f1]at g1;cases g1;rw[g]at g2;cases g2;obtain⟨a1,a2,C⟩:=Yc S s (.cons f2 (.one f4));exact⟨a1,a2,C⟩
def KU (m M:Ev):Ei:=λρ A=>(m ρ A).bind λw A1=>(M ρ A1).bind λa A2=>match zS w A2,zS a A2 with
 |some us,some _=>.ok (Wd w a us.length) A2|_,_=>.bad
end
section
noncomputable def Jv:Ev:=λ_ A=>.ok (.ref A.length) (A++[.dct []])
end
mutual
noncomputable def W.beq:W->W->Bool
 |.non,.non=>true|.bl a,.bl b=>a==b|.int a,.int b=>decide (a=b)|.str a,.str b=>decide (a=b)|.tup a,.tup b=>Yu a b|_,_=>false
noncomputable def Yu:List W->List W->Bool
 |[],[]=>true|a::as,b::bs=>a.beq b&&Yu as bs|_,_=>false
end
mutual
theorem W.eq_of:∀{a b:W},a.beq b=true->a=b
 |.non,.non,_=>rfl|.bl a,.bl b,h=>by have h':(a==b)=true:=h;rw[aI]at h';rw[h']|.int a,.int b,h=>by have h':decide (a=b)=true:=h;rw[ak]at h';rw[h']|.str a,.str b,h=>by have h':decide (a=b)=true:=h;rw[ak]at h';rw[h']|.tup a,.tup b,h=>by have h':Yu a b=true:=h;rw[Sz h']|.non,.bl _,h=>nomatch h|.non,.int _,h=>nomatch h|.non,.str _,h=>nomatch h|.non,.tup _,h=>nomatch h|.non,.ref _,h=>nomatch h
 |.bl _,.non,h=>nomatch h|.bl _,.int _,h=>nomatch h|.bl _,.str _,h=>nomatch h|.bl _,.tup _,h=>nomatch h|.bl _,.ref _,h=>nomatch h
 |.int _,.non,h=>nomatch h|.int _,.bl _,h=>nomatch h|.int _,.str _,h=>nomatch h|.int _,.tup _,h=>nomatch h|.int _,.ref _,h=>nomatch h
 |.str _,.non,h=>nomatch h|.str _,.bl _,h=>nomatch h|.str _,.int _,h=>nomatch h|.str _,.tup _,h=>nomatch h|.str _,.ref _,h=>nomatch h
 |.tup _,.non,h=>nomatch h|.tup _,.bl _,h=>nomatch h|.tup _,.int _,h=>nomatch h|.tup _,.str _,h=>nomatch h|.tup _,.ref _,h=>nomatch h
 |.ref _,.non,h=>nomatch h|.ref _,.bl _,h=>nomatch h|.ref _,.int _,h=>nomatch h|.ref _,.str _,h=>nomatch h|.ref _,.tup _,h=>nomatch h|.ref _,.ref _,h=>nomatch h
theorem Sz:∀{a b:List W},Yu a b=true->a=b
 |[],[],_=>rfl|a::as,b::bs,h=>by
  have h':(a.beq b&&Yu as bs)=true:=h;rw[aj]at h';rw[W.eq_of h'.1,Sz h'.2]
 |[],_::_,h=>nomatch h
 |_::_,[],h=>nomatch h
end
section
variable {K:Frag}
def FD (K:Frag)(x:Str)(st:Stmt):Prop:=∃f fd,kY K x x st f fd/\nsIn K mainGlobals x=some (some (.ref f))
def Ck {st:Stmt}{b:Value}{o an:bZ}{kV doc pm C ct:Value}(a:nsIn K mainGlobals x=some (some (.ref f)))
  (l:K.lookup f=some ⟨b,o,.func (fnOf x x (ZN st) (kL st) (qC st) .none kV doc pm an C ct),osl⟩)(c:codeIn K C x=true)(k:keepIn K (.ref f)=true):FD K x st:=⟨f,_,E5 l c k,a⟩
def CD (K:Frag)(x:Str)(i:Int):Prop:=∃t,nsIn K mainGlobals x=some (some (.int i t))
def DT {i:Int}{t:Tok}(a:nsIn K mainGlobals x=some (some (.int i t))):CD K x i:=⟨t,a⟩
end
open PySem PySem.Spec PyProof.Rows L2 Mi
@[irreducible] noncomputable def zp (X:Cx)(x:XR)(e:Expr)(m:Ev):Prop:=Mi.SE X x e m
def Ko:@zp=@Mi.SE:=by
 funext X xr e m
 unfold zp
 rfl
@[irreducible] noncomputable def kZ (X:Cx)(x:XR)(e:bT)(m:Ea):Prop:=Mi.SA X x e m
def G8:@kZ=@Mi.SA:=by
 funext X xr es m
 unfold kZ
 rfl
@[irreducible] noncomputable def yi (X:Cx)(x:XR)(e:Expr)(m:Ev):Prop:=Mi.ST X x e m
def G9:@yi=@Mi.ST:=by
 funext X xr e m
 unfold yi
 rfl
@[irreducible] noncomputable def w8 (X:Cx)(x:XR)(e:Expr)(m:Ev):Prop:=Mi.SW X x e m
def Xb:@w8=@Mi.SW:=by
 funext X xr e m
 unfold w8
 rfl
@[irreducible] noncomputable def yU (X:Cx)(x:XR)(st:Stmt)(m:Ex):Prop:=Mi.SS X x st m
def G4:@yU=@Mi.SS:=by
 funext X xr st m
 unfold yU
 rfl
@[irreducible] noncomputable def yZ (X:Cx)(x:XR)(st:b8)(m:Ex):Prop:=Mi.YC X x st m
def GN:@yZ=@Mi.YC:=by
 funext X xr st m
 unfold yZ
 rfl
@[irreducible] noncomputable def kH (X:Cx)(x:XR)(t e:Expr)(m:Ei):Prop:=Mi.SI X x t e m
def G5:@kH=@Mi.SI:=by
 funext X xr tg e m
 unfold kH
 rfl
@[irreducible] noncomputable def wA (X:Cx)(t:Expr)(m:Tg):Prop:=Mi.SG X t m
def Xg:@wA=@Mi.SG:=by
 funext X tg m
 unfold wA
 rfl
@[irreducible] noncomputable def Zv (X:Cx)(x:XR)(e:Expr)(m:jV):Prop:=Mi.SF X x e m
def Xj:@Zv=@Mi.SF:=by
 funext X xr e m
 unfold Zv
 rfl
@[irreducible] noncomputable def w9 (X:Cx)(x:XR)(e:Expr)(m:jV):Prop:=Mi.SQ X x e m
def Xi:@w9=@Mi.SQ:=by
 funext X xr e m
 unfold w9
 rfl
@[irreducible] noncomputable def gv (X:Cx)(e:bT)(m:Ev):Prop:=Mi.Yy X e m
def GV:@gv=@Mi.Yy:=by
 funext X es m
 unfold gv
 rfl
@[irreducible] noncomputable def wY (X:Cx)(elt:Expr)(gens:List Comprehension)(sc:Scope)(c:Pos)(d:Nat)(em:Em):Prop:=Mi.SM X elt gens sc c d em
def Xd:@wY=@Mi.SM:=by
 funext X elt gens sc cpos d em
 unfold wY
 rfl
section
variable {xr:XR}{K:Frag}{a b c:Expr}{es:bT}{m ma mb mc:Ev}{m1 m2:Ex}{st:Stmt}{rest:b8}
def zR:@zp=@Mi.SE/\@kZ=@Mi.SA/\@yi=@Mi.ST/\@w8=@Mi.SW/\@yU=@Mi.SS/\@yZ=@Mi.YC/\@kH=@Mi.SI/\@wA=@Mi.SG/\@Zv=@Mi.SF/\@w9=@Mi.SQ/\@gv=@Mi.Yy/\@wY=@Mi.SM:=⟨Ko,G8,G9,Xb,G4,GN,G5,Xg,Xj,Xi,GV,Xd⟩
def zj {M:Ea}(d:zp X xr e ma)(r:kZ X xr es M)(s:starEach (e::es) X.env=(false,eval e X.env)::starEach es X.env:=by rfl):kZ X xr (e::es) (zi ma M):=by
 try simp only[zR]at*
 exact PA.imp (qZ d r s) λσ H Q ⟨φ,A,ρ,S,re,h⟩=>by
   refine tM.go S re (zV.mp h) λw A1 b H1 v g l j c=>?_;refine Wl.go j (re.mono l) (qp (zV.mp g) (λ_ _ z=>z) λ_ _ z=>z.mono l) λn A2 a k v2 f L i q=>?_;exact f a k _ (l.trans L) i (.cons (c.mono L) q)
def zG:kZ X xr [] zo:=by
 try simp only[zR]at*
 exact PA.imp jP λσ H Q ⟨φ,A,ρ,S,re,h⟩=>h φ H [] .refl S .nil
def jO (H:zp X xr a ma)(h:zp X xr b mb):zp X xr (.BinOp a .Add b pos) (zc qf ma mb):=by
 try simp only[zR]at*
 exact ZR (Dc.or (Fg.or (Lp.or F0))) EN Fs H h
def JY {q:jV}(H:X.calm=true)(hm:X.mg "all"=none)(a:w9 X xr e q)(h:Gl X "all":=by rfl)(he:starEach [e] X.env=(false,eval e X.env)::starEach [] X.env:=by rfl):
  zp X xr (.Call (.Name "all" p) [e] [] pos) (mQ Z3 q):=by
 try simp only[zR]at*
 exact Xv (Lk H) FX Hu hm (by rfl) a h (by decide) (by decide) he (by rfl)
def Q5 {rest:bT}(f:zp X xr a ma)(e:zp X xr (.BoolOp .And (b::rest) pos) mb):zp X xr (.BoolOp .And (a::b::rest) pos) (kh ma mb):=by
 try simp only[zR]at*
 exact PE.imp (E8 f e) λσ H Q ⟨φ,A,ρ,S,re,h⟩=>by
   refine tM.go S re (zV.mp h) λw A1 d H1 v c l s q=>?_;cases w with
   |bl k=>
    refine⟨k,q,?_⟩;cases k with
    |true=>rw[ag rfl];exact⟨d,A1,ρ,s,re.mono l,qp c (λ_ _ z=>z.mono l) λ_ _ z=>z.mono l⟩|false=>rw[ar aA];exact c d H1 _ l s rfl
   |non=>cases c|int _=>cases c|str _=>cases c|tup _=>cases c|ref _=>cases c|clo _ _ _=>cases c|xc _=>cases c
def wc {i j}:zp X xr (.Constant (.bool i) j pos) (zy (.bl i)):=by
 try simp only[zR]at*
 exact PE.imp CL λσ H Q ⟨φ,A,ρ,S,r,h⟩=>h φ H _ .refl S rfl
def wQ {g:W->W->Hx->R W}(h:kQ X op g)(c:zp X xr a ma)(H:zp X xr b mb)(e:op≠.In:=by decide)(d:op≠.NotIn:=by decide):zp X xr (.Compare a [op] [b] pos) (zc g ma mb):=by
 try simp only[zR]at*
 exact let ⟨r,a1,a2,A⟩:=h.ex;SY a1 a2 A c H (h.mks b e d)
def Dm {o:CmpOp}{g g':W->W->Hx->R W}(h:kQ X op g)(h':kQ X o g')(e:zp X xr a ma)(d:zp X xr b mb)(H:zp X xr c mc)(hm:lastMarks [op,o] [b,c]=false:=by with_unfolding_all rfl):
  zp X xr (.Compare a [op,o] [b,c] pos) (yO g g' ma mb mc):=by
 try simp only[zR]at*
 exact let ⟨r,a1,a2,A⟩:=h.ex;let ⟨j,i,f,B⟩:=h'.ex;LV a1 a2 A i f B e d H hm
def qI {f:Fn}{M:Ea}(F:zX X.prog X.w X.K X.mg X.base k x n f)(r:jD k X.A)(s:kZ X yB (e::es) M)(g:gW M n:=by repeat' (first|exact ql|refine zx ?_))(j:Gl X x:=by rfl)
  (c:(x==("__debug__":Str))=false:=by decide)(he:starEach (e::es) X.env=(false,eval e X.env)::starEach es X.env:=by rfl)(l:(backTo pos (starEach es X.env)).any (·.1)=false:=by rfl):
  zp X yB (.Call (.Name x p) (e::es) [] pos) (zQ f M):=by
 try simp only[zR]at*
 obtain⟨B,fd,ps,F,hm,i,o⟩:=F;refine PE.imp (Tv F r j hm i o .nil D8 s c he l) λσ H Q ⟨φ,A,ρ,S,re,h⟩=>?_;have h':=zV.mp h;refine⟨φ,A,ρ,S,re,?_⟩;cases E:M ρ A with
 |ok ws A1=>
  rw[E]at h';intro b H1 vs L u q;have v:vs.length=n:=by rw[<- q.length];exact g ρ A ws A1 E
  rw[bg];exact⟨v,b,A1,ws,u,q,qp h' (λ_ _ z=>z.mono L) λx A2 z a y d t=>(z a y (L.trans d) t).elim⟩
 |exc x A1=>rw[E]at h';exact h'|bad=>rw[E]at h';exact h'
def F8 {g:W->W->Hx->R W}(h:XZ X op g)(c:zp X xr a ma)(H:zp X xr b mb)(hm:behindInMarks op b=false:=by rfl):zp X xr (.Compare a [op] [b] pos) (zc g ma mb):=by
 try simp only[zR]at*
 exact let ⟨r,a1,a2,A⟩:=h.ex;SY a1 a2 A c H hm
def IY:zp X xr (.Dict [] [] pos) Jv:=by
 try simp only[zR]at*
 exact PE.imp MY λσ H Q ⟨φ,A,ρ,S,re,h⟩ p a=>by
  obtain⟨l,s⟩:=S.alloc (o:=.dct []) a (u:=.dK []) ⟨[],jI,rfl,.nil⟩;exact h _ _ _ l s ⟨p,rfl,by rw[<- S.len];simp⟩
def Ic {i:Int}{t:Tok}(g:Gl X x)(hm:X.mg x=some (.int i t))(hd:(x==("__debug__":Str))=false:=by decide):zp X xr (.Name x pos) (zy (.int i)):=by
 try simp only[zR]at*
 exact PE.imp (Sb g hm (v:=.int i) ⟨t,rfl⟩ hd) λσ H Q ⟨φ,A,ρ,S,r,h⟩=>h φ H _ .refl S rfl
def GY {c:Expr}(f:yi X xr c mc)(i:zp X xr a ma)(g:zp X xr b mb):zp X xr (.IfExp c a b pos) (Zr mc ma mb):=by
 try simp only[zR]at*
 exact PE.imp (Ih f i g) λσ H Q ⟨φ,A,ρ,S,re,h⟩=>by
   refine tT.go S re (zV.mp h) λw A1 d=>?_;cases w with
   |bl k=>
    refine⟨k,rfl,λe H1 l s=>?_⟩;cases k with
    |true=>rw[ag rfl];exact⟨e,A1,ρ,s,re.mono l,qp d (λ_ _ z=>z.mono l) λ_ _ z=>z.mono l⟩|false=>rw[ar aA];exact⟨e,A1,ρ,s,re.mono l,qp d (λ_ _ z=>z.mono l) λ_ _ z=>z.mono l⟩
   |non=>cases d|int _=>cases d|str _=>cases d|tup _=>cases d|ref _=>cases d|clo _ _ _=>cases d|xc _=>cases d
def zt {i j}:zp X xr (.Constant (.int i) j pos) (zy (.int i)):=by
 try simp only[zR]at*
 exact PE.imp Ed λσ H Q ⟨φ,A,ρ,S,r,h⟩=>h φ H _ .refl S rfl
def gj (t:Ty){P:Pos}(hm:X.mg "isinstance"=none)(c:X.mg x=none)(f:bootBuiltins x=some (.type t.nm))(i:zp X xr e m)(g:Gl X "isinstance":=by rfl)(d:Gl X x:=by rfl)
  (hn:x ≠ "__name__":=by decide)(hd:(x==("__debug__":Str))=false:=by decide)
  (a:starEach [e,.Name x P] X.env=(false,eval e X.env)::starEach [.Name x P] X.env:=by rfl)(j:(backTo pos (starEach [.Name x P] X.env)).any (·.1)=false:=by rfl):
  zp X xr (.Call (.Name "isinstance" p) [e,.Name x P] [] pos) (yo t m):=by
 try simp only[zR]at*
 exact PE.imp (ZF Fe g hm (by rfl) (qZ i (qZ (Kf d c f (v:=.ty t.nm) rfl hn hd) jP) a) (by decide) (by decide) a j) λσ H Q ⟨φ,A,ρ,S,re,h⟩=>by
   refine tM.go S re (zV.mp h) λw A1 b H1 v a l s q=>?_;cases E:jE w A1 with
   |none=>rw[E]at a;exact a.elim|some t'=>
    rw[E]at a;exact⟨v,t',t,rfl,U7 s q E,a b H1 _ l s rfl⟩
def qA (c:zp X xr a ma)(H:zp X xr b mb)(h:Si b:=by intro _ _;rfl):zp X xr (.Subscript a b pos) (zc zA ma mb):=by
 try simp only[zR]at*
 exact PE.imp (DS Ej c H h) (zc.read Cf FT)
def kx {q:jV}(hm:X.mg "len"=none)(H:w9 X xr e q)(h:Gl X "len":=by rfl)(he:starEach [e] X.env=(false,eval e X.env)::starEach [] X.env:=by rfl):
  zp X xr (.Call (.Name "len" p) [e] [] pos) (mQ qG q):=by
 try simp only[zR]at*
 exact Xv OC (λ_ _=>jh) Ft hm (by rfl) H h (by decide) (by decide) he (by rfl)
def j4 {q:jV}(h:Zv X xr e q):zp X xr e (qh q):=by
 try simp only[zR]at*
 exact PE.imp h qh.read
def Ub {P pos':Pos}(t:X.calm=true)(hm:X.mg "list"=none)(f:X.mg "range"=none)(u:zp X xr a ma)(o:Gl X "list":=by rfl)(g:Gl X "range":=by rfl)(s:starEach [a] X.env=[(false,eval a X.env)]:=by rfl)
  (d:starEach [.Call (.Name "range" P) [a] [] pos'] X.env=(false,eval (.Call (.Name "range" P) [a] [] pos') X.env)::starEach [] X.env:=by rfl):
  zp X xr (.Call (.Name "list" p) [.Call (.Name "range" P) [a] [] pos'] [] pos) (Qm ma):=by
 try simp only[zR]at*
 exact PE.imp (QZ (NF t) o hm (by rfl) (qZ (Ff g f (qZ u jP (by rw[s];rfl)) s) jP d) (by decide) (by decide) d (by rfl)) λσ H Q ⟨φ,A,ρ,S,re,h⟩=>by
   refine tM.go S re (zV.mp h) λw A1 b H1 v c L z q=>?_;cases w with
   |int j=>
    obtain rfl:=q;dsimp only at c
    by_cases e:(jN j&&decide (j.toNat<=qa))=true
    ·rw[ag e]at c
     rw[aj,ak]at e;refine⟨j,rfl,λp k=>⟨p,j,rfl,jI,QW e.1,g8 e.2,λl n=>?_⟩⟩;have ln:Le X.K b H1 b (upd H1 p (.rng 0 j)):=Le.new k;have r:zw X.K b (upd H1 p (.rng 0 j)) ((List.range j.toNat).map λ(i:Nat)=>W.int i) (QA j.toNat):=by
      have:=(zw.ints (K:=X.K) (φ:=b) (H:=upd H1 p (.rng 0 j)) (ns:=(List.range j.toNat).map λ(i:Nat)=>(i:Int)) (vs:=QA j.toNat)).mpr (by unfold QA;simp)
      rw[aO]at this;exact this
     obtain⟨y,x,B⟩:=Zg (z.lay k) n r;exact c _ _ _ ((L.trans ln).trans y) x B
    ·rw[ar e]at c;exact c.elim
   |_=>exact c.elim
def q9 {M:Ea}(h:kZ X xr es M)(H:gW M n)(hn:n<=qa:=by decide):zp X xr (.List es pos) (z8 M):=by
 try simp only[zR]at*
 exact FQ h λρ A ws a e=>by rw[H ρ A ws a e];exact g8 hn
def GF {q:jV}(H:X.calm=true)(hm:X.mg "max"=none)(a:w9 X xr e q)(h:Gl X "max":=by rfl)(he:starEach [e] X.env=(false,eval e X.env)::starEach [] X.env:=by rfl):
  zp X xr (.Call (.Name "max" p) [e] [] pos) (mQ yK q):=by
 try simp only[zR]at*
 exact Xv (NT H) FA HS hm (by rfl) a h (by decide) (by decide) he (by rfl)
def GC (e:X.calm=true)(hm:X.mg "min"=none)(n:zp X xr a ma)(k:zp X xr b mb)(l:Gl X "min":=by rfl)(r:starEach [a,b] X.env=(false,eval a X.env)::starEach [b] X.env:=by rfl)(o:starEach [b] X.env=(false,eval b X.env)::starEach [] X.env:=by rfl)(h:(backTo pos (starEach [b] X.env)).any (·.1)=false:=by rfl):
  zp X xr (.Call (.Name "min" p) [a,b] [] pos) (zc ZW ma mb):=by
 try simp only[zR]at*
 exact Xx (MH e) ZY (λφ A H x y u v Q S d c p=>by
   obtain⟨i,j,s,E,q⟩:=ZS (K:=X.K) (f:=λi j=>.int (if j<i then j else i)) (g:=λi j=>.int (if j<i then j else i)) (λ_ _ _ _=>rfl) φ A H x y u v Q S d c p;subst s;subst E;exact⟨i,j,rfl,q⟩) hm (by rfl) n k l (by decide) (by decide) r o h
def ZI (H:zp X xr a ma)(h:zp X xr b mb):zp X xr (.BinOp a .Mod b pos) (zc kF ma mb):=by
 try simp only[zR]at*
 exact ZR Dh Xp (Xe Hi λ_ _ _ _=>rfl) H h
def wH (H:zp X xr a ma)(h:zp X xr b mb):zp X xr (.BinOp a .Mult b pos) (zc jo ma mb):=by
 try simp only[zR]at*
 exact ZR (FN.or EY) E3 IV H h
def TY (h:zp X xr a ma):zp X xr (.UnaryOp .USub a pos) (qP Jp ma):=by
 try simp only[zR]at*
 exact DG EJ (λx A=>by unfold Jp;split;exact jh;exact qe) (λφ A H x u Q S q p=>by
  cases u with
  |int i=>obtain rfl:=q;exact⟨i,rfl,p φ H _ .refl S rfl⟩|_=>exact p.elim) h
def ZL {j}:zp X xr (.Constant .none j pos) (zy .non):=by
 try simp only[zR]at*
 exact PE.imp Eg λσ H Q ⟨φ,A,ρ,S,r,h⟩=>h φ H _ .refl S rfl
def Fi (d:zp X xr a ma):zp X xr (.UnaryOp .Not a pos) (yw ma):=by
 try simp only[zR]at*
 exact PE.imp (E4 d) λσ H Q ⟨φ,A,ρ,S,re,h⟩=>by
   refine tM.go S re (zV.mp h) λw A1 c H1 v b l s q=>?_;cases w with
   |bl k=>exact⟨k,q,b c H1 _ l s rfl⟩|non=>cases b|int _=>cases b|str _=>cases b|tup _=>cases b|ref _=>cases b|clo _ _ _=>cases b|xc _=>cases b
def JW {op}(h:zp X xr a ma):zp X xr (.BoolOp op [a] pos) ma:=by
 try simp only[zR]at*
 exact Ef h
def Zd (H:zp X xr a ma)(h:zp X xr b mb):zp X xr (.BinOp a .Sub b pos) (zc yS ma mb):=by
 try simp only[zR]at*
 exact ZR FL ZY (ZS λ_ _ _ _=>rfl) H h
def kJ {x1}{M:Ea}(h:kZ X xr es M)(d:gW M n)(hn:n<=qa:=by decide):zp X xr (.Tuple es x1 pos) (jL M):=by
 try simp only[zR]at*
 exact PE.imp (S9 h) λσ H Q ⟨φ,A,ρ,S,re,h⟩=>by
   have h':=zV.mp h;cases e:M ρ A with
   |ok ws a=>
    rw[e]at h';refine⟨φ,A,ρ,S,re,?_⟩;rw[e];intro b H1 vs l s q;refine⟨by rw[<- q.length,d ρ A ws a e];exact g8 hn,λp c=>?_⟩
    obtain⟨a1,a2,f⟩:=Yc s c q;exact h' _ _ _ (l.trans a1) a2 f
   |exc x a=>rw[e]at h';refine⟨φ,A,ρ,S,re,?_⟩;rw[e];exact h'|bad=>rw[e]at h';exact h'.elim
def ZE {q:jV}(hm:X.mg "tuple"=none)(H:w9 X xr e q)(h:Gl X "tuple":=by rfl)(he:starEach [e] X.env=(false,eval e X.env)::starEach [] X.env:=by rfl):
  zp X xr (.Call (.Name "tuple" p) [e] [] pos) (mQ yN q):=by
 try simp only[zR]at*
 exact Cw Og (λ_ _=>jh) HY hm (by rfl) H h (by decide) (by decide) he (by rfl)
def zh (i:Nat)(b:X.N[i]? =some x:=by rfl)(a:Ww X.env.scope x:=by first|exact Or.inl rfl|exact Or.inr (Or.inl rfl)|exact Or.inr (Or.inr rfl))(hd:(x==("__debug__":Str))=false:=by decide)
  (d:(x==("__classdict__":Str))=false:=by decide):zp X xr (.Name x pos) (zH i):=by
 try simp only[zR]at*
 exact PE.imp (EO b a hd d) λσ H Q ⟨φ,A,ρ,S,r,h⟩=>by
  unfold zH at h;cases e:ρ[i]? with
  |none=>rw[e]at h;cases h|some o=>cases o with
   |none=>rw[e]at h;cases h|some w=>
    rw[e]at h;obtain⟨v,f,c⟩:=r.get i w e;exact⟨v,f,h φ H v .refl S c⟩
def M9 {iter:Expr}{mi:Ei}{tw:Tg}{M:Ev}{em:Em}(nl:Nat)(cap:bQ)(c:X.calm=true)(S:gE X sc)(p:ZZ X.N N sc nl cap=true)(hw:kH X xr tg iter mi)
  (n:∀s H fp,wA (jR X N sc s H fp yA) tg tw/\gv (jR X N sc s H fp yA) ifs M/\wY (jR X N sc s H fp yA) elt (⟨tg,iter,ifs,0⟩::gs) sc pos 0 em)
  (b:∀g',gs[0]? =some g'->g'.is_async=0:=by intro _ h;cases h<;>rfl)
  (a:∀x,foldedSetIterable iter X.env x=pure x:=by intro _;rfl):Zv X xr (.ListComp elt (⟨tg,iter,ifs,0⟩::gs) sc pos) (zO nl cap mi tw M em):=by
 try simp only[zR]at*
 exact PE.imp (IX (g:=tG X.K tw) (ti:=tT X.K yB M) (tm:=tE X.K em) c S p b hw n a) zO.read
def Ka (i j:Nat){y:Str}{q:Pos}(o:X.calm=true)(h:X.N.Nodup)(l:X.N[i]? =some x:=by rfl)(f:Loc X.env.scope x:=by first|exact Or.inl rfl|exact Or.inr rfl)(hf:X.fn x=true∨X.env.scope.names.lookup x=some .local:=by first|exact .inl rfl|exact .inr rfl)
  (g:X.N[j]? =some y:=by rfl)(d:Loc X.env.scope y:=by first|exact Or.inl rfl|exact Or.inr rfl)(n:X.fn y=true∨X.env.scope.names.lookup y=some .local:=by first|exact .inl rfl|exact .inr rfl):wA X (.Tuple [.Name x p,.Name y q] k pos) (wN i j):=by
 try simp only[zR]at*
 exact PG.imp (E9 o (U4 (GR h l f hf) (U4 (GR h g d n) IE))) λv σ H Q ⟨φ,A,ρ,w,b,S,re,c,e,kk⟩=>by
   unfold wN at e
   split at e
   ·rename_i x1 y1
    have E:=aB e;subst E;obtain⟨a,vs,rfl,s,rs⟩:=c;obtain⟨v1,z,rfl,t,v2,u,rfl,r,rfl⟩:=rs;exact⟨a,[v1,v2],rfl,s,rfl,v1,[v2],rfl,v2,[],rfl,rfl,kk _ ((re.set t).set r)⟩
   ·cases e
def qz (i:Nat)(c:X.N.Nodup)(b:X.N[i]? =some x:=by rfl)(h:Loc X.env.scope x:=by first|exact Or.inl rfl|exact Or.inr rfl)(hf:X.fn x=true∨X.env.scope.names.lookup x=some .local:=by first|exact .inl rfl|exact .inr rfl):wA X (.Name x pos) (zF i):=by
 try simp only[zR]at*
 exact PG.imp (GR c b h hf) λv σ H Q ⟨φ,A,ρ,w,a,S,re,q,e,k⟩=>by
   have E:ρ.set i (some w)=a:=aB e;subst E;exact k _ (re.set q)
def ye (h:zp X xr e m):kH X xr tg e (qo m):=by
 try simp only[zR]at*
 exact PI.imp (De h) λσ H Rr ⟨φ,A,ρ,S,re,h⟩=>by
  refine tM.go S re (zV.mp h) λw A1 g H1 v d P N Q=>?_;unfold K2 at d;cases e:zS w A1 with
  |none=>rw[e]at d;exact d.elim|some ws=>
   rw[e]at d;dsimp only at d;cases w with
   |tup us=>
    obtain⟨a,ys,rfl,j,q⟩:=Q;refine⟨a,rfl,.inr ⟨⟨ys,j⟩,d g H1 _ P N λi c k f lw s=>⟨λB b=>?_,λb=>?_⟩⟩⟩
    ·have E:us[i]? =some B:=aB b
     obtain⟨y,l,D⟩:=(q.monoW lw).get E;refine⟨⟨ys,y,lw.tp _ _ j,l⟩,λx Z u=>?_⟩;obtain⟨M,L⟩:=u;subst M;have p:=L ys (lw.tp _ _ j);rw[l]at p;cases p;exact⟨.refl,s,D⟩
    ·have E:us[i]? =none:=aB b
     refine⟨ys,lw.tp _ _ j,?_⟩;rw[<- q.length];exact List.getElem?_eq_none_iff.mp E
   |ref n=>
    obtain⟨a,rfl,j⟩:=Q;have read:∀{c k f us},Zx X.K g H1 c k->zE X.K c f k->zS (.ref n) f=some us->∃ys,qN X.K k a ys/\zw X.K c k us ys:=λ {c k f us} lw s es=>by
     obtain⟨U,ys,T,z,r⟩:=YW (w:=.ref n) (v:=.ref a) s ⟨a,rfl,lw.ex _ _ j⟩ es;cases T;unfold zS at es;dsimp only at es;cases J:f[n]? with
     |none=>rw[J]at es;cases es|some o=>
      rw[J]at es;obtain⟨U,q,r⟩:=s.ob n o J;rw[lw.ex _ _ j]at q;cases q;cases o with
      |lst xs=>cases es;obtain⟨ys,d,I⟩:=r;exact⟨ys,qN.of d,I⟩|ro xs=>cases es;obtain⟨ys,d,I⟩:=r;exact⟨ys,d.sq,I⟩|dct xs=>cases es|td _=>cases es|tab _ _=>cases es
    obtain⟨Y,C,_⟩:=read ⟨λ_ _ h=>h,λ_ _ h=>h,λ_ _ _ h=>h⟩ N e;refine⟨a,rfl,.inl ⟨⟨Y,C⟩,d g H1 _ P N λi c k f lw s=>⟨λB b=>?_,λb=>?_⟩⟩⟩
    ·dsimp only at b
     cases es:zS (.ref n) f with
     |none=>rw[es]at b;cases b|some us=>
      rw[es]at b;have E:us[i]? =some B:=aB b;obtain⟨ys,t,r⟩:=read lw s es;obtain⟨y,l,D⟩:=r.get E;refine⟨⟨ys,y,t,l⟩,λx Z u=>?_⟩;obtain⟨M,L⟩:=u;subst M;have p:=L ys t;rw[l]at p;cases p;exact⟨.refl,s,D⟩
    ·dsimp only at b
     cases es:zS (.ref n) f with
     |none=>rw[es]at b;cases b|some us=>
      rw[es]at b;have E:us[i]? =none:=aB b;obtain⟨ys,t,r⟩:=read lw s es;refine⟨ys,t,?_⟩;rw[<- r.length];exact List.getElem?_eq_none_iff.mp E
   |non=>cases e|bl _=>cases e|clo _ _ _=>cases e|xc _=>cases e|int _=>cases e|str _=>cases e
def Te (g:Gl X "enumerate")(hm:X.mg "enumerate"=none)(e:zp X xr a ma)(s:starEach [a] X.env=[(false,eval a X.env)]:=by rfl):kH X xr (.Tuple elts kk tpos) (.Call (.Name "enumerate" p) [a] [] pos) (Jk ma):=by
 try simp only[zR]at*
 exact PI.imp (Hv g hm (qZ e jP (by rw[s];rfl)) s) λσ H r ⟨φ,A,ρ,S,re,h⟩=>by
   refine tM.go S re (zV.mp h) λw A1 c H1 v b l d q=>?_;cases es:zS w A1 with
   |none=>rw[es]at b;exact b.elim|some ws=>
    rw[es]at b;obtain⟨p,ys,rfl,z,Z⟩:=Y7 d q es;exact⟨p,Z0 w,ys,rfl,z,b c H1 _ l d (Cr q)⟩
def yc (g:Gl X "range")(hm:X.mg "range"=none)(e:zp X xr a ma)(s:starEach [a] X.env=[(false,eval a X.env)]:=by rfl):kH X xr tg (.Call (.Name "range" p) [a] [] pos) (jg ma):=by
 try simp only[zR]at*
 exact PI.imp (N8 g hm (qZ e jP (by rw[s];rfl)) s) λσ H r ⟨φ,A,ρ,S,re,h⟩=>by
   refine tM.go S re (zV.mp h) λw A1 c H1 v b l i q=>?_;cases w with
   |int j=>
    obtain rfl:=q;dsimp only at b
    by_cases d:jN j=true
    ·rw[ag d]at b
     obtain⟨f,B⟩:=QW d;exact⟨j,rfl,f,B,b c H1 _ l i Ee⟩
    ·rw[ar d]at b;exact b.elim
   |non=>exact b.elim|bl _=>exact b.elim|str _=>exact b.elim|tup _=>exact b.elim|ref _=>exact b.elim|clo _ _ _=>exact b.elim|xc _=>exact b.elim
def I9 (o:Gl X "zip")(hm:X.mg "zip"=none)(t:zp X xr a ma)(r:zp X xr b mb)(g:starEach [a,b] X.env=(false,eval a X.env)::starEach [b] X.env:=by rfl)(e:starEach [b] X.env=(false,eval b X.env)::starEach [] X.env:=by rfl)(n:(backTo pos (starEach [b] X.env)).any (·.1)=false:=by rfl):
  kH X xr (.Tuple elts kk tpos) (.Call (.Name "zip" p) [a,b] [] pos) (KU ma mb):=by
 try simp only[zR]at*
 exact PI.imp (FO o hm (qZ t (qZ r jP e) g) g n) λσ H D ⟨φ,A,ρ,S,re,h⟩=>by
   refine tM.go S re (zV.mp h) λw A1 i H1 v u l x k=>?_;refine tM.go x (re.mono l) (qp (zV.mp u) (λ_ _ z=>z) λ_ _ z=>z.mono l) λf A2 d y v2 c L s Q=>?_;cases es:zS w A2 with
   |none=>rw[es]at c;exact c.elim|some us=>
    cases es':zS f A2 with
    |none=>rw[es,es']at c;exact c.elim|some vs=>
     rw[es,es']at c;have q:=k.mono L;obtain⟨p,xs,rfl,j,C⟩:=Y7 s q es;obtain⟨P,ys,rfl,Z,B⟩:=Y7 s Q es';exact⟨p,P,Z0 w,Z0 f,xs,ys,rfl,j,Z,c d y _ (l.trans L) s (Cy q Q)⟩
def IZ {d:Nat}{me:Ev}(x:∀e s,X.xe e s->False)(he:zp X yB elt me)(k:gens[d+1]? =none):wY X elt gens sc pos d (zL me):=by
 try simp only[zR]at*
 exact kU.imp (Ii x he k) λD σ H Q ⟨φ,A,ρ,acc,ys,S,re,o,n,r,h⟩=>by
   refine tM.go S re (Gs (zV.mp h)) λw A1 g H1 v f l p q=>?_;obtain⟨c,n1⟩:=l.off o n
   by_cases z:acc.length<qa
   ·rw[ag z]at f
    have j:=r.length;refine⟨ys,c,?_,?_⟩
    ·rw[<- j]
     have:sizeLine=16777216:=sizeLine_eq
     unfold qa at z;omega
    ·exact f g _ σ _ (l.toD.trans (yD.upd c)) n1 (p.off c n1) ⟨re.len,λi w e=>let ⟨v,a,b⟩:=re.get i w e;⟨v,a,(b.mono l).monoD (yD.upd c)⟩⟩ jI
      (((r.mono l).monoD (yD.upd c)).append (.one (q.monoD (yD.upd c))))
   ·rw[ar z]at f;exact f.elim
def HA {iter:Expr}{d:Nat}{mi:Ei}{tw:Tg}{M:Ev}{em:Em}(k:∀e s,X.xe e s->False)(v:X.calm=true)(u:gens[d+1]? =some ⟨tg,iter,ifs,0⟩)(w:∀g',gens[d+2]? =some g'->g'.is_async=0)
  (hw:kH X yB tg iter mi)(t:wA X tg tw)(q:gv X ifs M)(hm:wY X elt gens sc pos (d+1) em)(o:∀x,foldedSetIterable iter X.env x=pure x:=by intro _;rfl):wY X elt gens sc pos d (Jj mi tw M em):=by
 try simp only[zR]at*
 exact kU.imp (LX k v u w hw t q hm o) λD σ H Q ⟨φ,A,ρ,acc,ys,S,re,y,n,f,h⟩=>by
   refine⟨φ,A,ρ,S,re,qp (Gs (zV.mp h)) (λj A1 C c H1 J l P i=>?_) λ_ _ z=>z⟩;obtain⟨I,n1⟩:=l.off y n;exact ju.read i P (re.mono l) I n1 (f.mono l) (qp C (λp A2 B a T b zs L N K r E g=>B a T b zs (l.toD.trans L) N K r E g) λ_ _ z=>z)
def yu (h:zp X xr e m):w9 X xr e (qi m):=by
 try simp only[zR]at*
 exact PE.imp h λσ H Q ⟨φ,A,ρ,S,re,h⟩=>by
  refine tM.go S re (zV.mp h) λw A1 c H1 v b l s q=>?_;cases e:zS w A1 with
  |none=>rw[e]at b;exact b.elim|some ws=>
   rw[e]at b;obtain⟨a,ys,rfl,d,E⟩:=YW s q e;exact b c H1 a ys l s d E
def kD {q:jV}(h:Zv X xr e q):w9 X xr e q:=by
 try simp only[zR]at*
 exact PE.imp h λσ H Q ⟨φ,A,ρ,S,re,h⟩=>
  ⟨φ,A,ρ,S,re,qp h (λws A1 c a H1 D ys l s h0 b n r=>c a H1 D ys l s (.inl (qN.of b)) r) λ_ _ z=>z⟩
def zr (a:yU X xr st m1)(d:yZ X xr rest m2):yZ X xr (st::rest) (zl m1 m2):=by
 try simp only[zR]at*
 exact yr.imp (LO a d) λD σ H ⟨φ,A,ρ,S,re,h⟩=>by
   refine⟨φ,A,ρ,S,re,qp (zV.mp h) (λf A1 a=>?_) λ_ _ z=>z⟩;cases f with
   |nx ρ1=>exactλb e c l s r=>⟨b,A1,ρ1,s,r,qp a (λ_ _ z=>z.mono l) λ_ _ z=>z.mono l⟩|rt w=>exact a|bk ρ1=>exact a|ct ρ1=>exact a
def GD (he:zp X xr e m)(s:swapsWith e none pos.line X.env=pure false:=by rfl):yU X xr (.Expr e pos) (QI m):=by
 try simp only[zR]at*
 exact PS.imp (Fw he s) λD σ H ⟨φ,A,ρ,S,re,h⟩=>tM.go S re (zV.mp h) λw A1 a H1 v b l c q=>b a H1 σ l c (re.mono l)
def Zb {iter:Expr}{mi:Ei}{tw:Tg}(hp:PassesOwn (model X.prog X.w) X.A X.env X.xe)(hc:X.calm=true)(hi:kH X xr tg iter mi)(hg:wA X tg tw)(hb:yZ X xr body m1)
  (hs:∀x,foldedSetIterable iter X.env x=pure x:=by intro _;rfl):yU X xr (.For tg iter body [] pos) (yT mi tw m1):=by
 try simp only[zR]at*
 exact PS.imp (Es hp hc hi hg hb hs) λD σ H ⟨φ,A,ρ,S,re,h⟩=>by
   refine⟨φ,A,ρ,S,re,qp (zV.mp h) (λj A1 h1 g H1 J N S1 jr=>?_) λ_ _ z=>z⟩;refine⟨λi f d C=>Px X.K xr j (turn tw m1) D g H1 f i d C,
    ⟨j.len,g,A1,ρ,.refl,S1,re.mono N,qp h1 (λ_ _ z=>z.mono N) λ_ _ z=>z.mono N⟩,?_⟩
   rintro i f I U ⟨c,A2,p,t,T,q,b⟩
   obtain⟨j1,j2⟩:=jr i c U A2 ⟨t.ex,t.tp,t.fz⟩ T;cases E:j.at_ A2 i with
   |none=>cases f<;>(unfold j5 at b;rw[E]at b;exact b.elim)|some o=>
    cases o with
    |none=>
     left
     refine⟨j2 E,?_⟩;cases f<;>(unfold j5 at b;rw[E]at b;exact b c U I .refl T q)
    |some w=>
     right
     obtain⟨go,yl⟩:=j1 w E;cases f with
     |zero=>unfold j5 at b;rw[E]at b;exact b.elim|succ f=>
      unfold j5 at b;rw[E]at b;refine⟨go,λd C=>Px X.K xr j (turn tw m1) D g H1 f (i+1) d C,λd C z=>⟨f,bq _,z⟩,λx H3 y=>?_⟩;obtain⟨L,Q,q3⟩:=yl x H3 y;have u:=zV.mp b;unfold turn at u;cases P:tw w p with
      |none=>rw[P]at u;exact u.elim|some n=>
       rw[P]at u;refine⟨c,A2,p,w,n,Q,q.mono L,q3,P,λZ M=>?_⟩;refine⟨c,A2,n,Q,M,qp u (λfl Y B=>?_) λ_ _ z=>z.mono L⟩;cases fl with
       |nx e=>exactλa v k l s r=>⟨a,Y,e,(t.trans L).trans l,s,r,qp B (λ_ _ z=>z.mono (L.trans l)) λ_ _ z=>z.mono (L.trans l)⟩|ct e=>exactλa v k l s r=>⟨a,Y,e,(t.trans L).trans l,s,r,qp B (λ_ _ z=>z.mono (L.trans l)) λ_ _ z=>z.mono (L.trans l)⟩|bk e=>exactλa v k l s r=>B a v k (L.trans l) s r|rt w4=>exactλa v v4 l s q4=>B a v v4 (L.trans l) s q4
def jK {sa s:b8}(e:yi X xr c mc)(g:yZ X xr sa m1)(f:yZ X xr s m2):yU X xr (.If c sa s pos) (qB mc m1 m2):=by
 try simp only[zR]at*
 exact PS.imp (DM e g f) λD σ H ⟨φ,A,ρ,S,re,h⟩=>by
   refine tT.go S re (zV.mp h) λw A1 a=>?_;cases w with
   |bl k=>
    refine⟨k,rfl,λb H1 l d=>?_⟩;cases k with
    |true=>rw[ag rfl];exact⟨b,A1,ρ,d,re.mono l,qp a (λ_ _ z=>z.mono l) λ_ _ z=>z.mono l⟩|false=>rw[ar aA];exact⟨b,A1,ρ,d,re.mono l,qp a (λ_ _ z=>z.mono l) λ_ _ z=>z.mono l⟩
   |non=>cases a|int _=>cases a|str _=>cases a|tup _=>cases a|ref _=>cases a|clo _ _ _=>cases a|xc _=>cases a
def zM:yZ X xr [] zB:=by
 try simp only[zR]at*
 exact yr.imp ID λD σ H ⟨φ,A,ρ,S,re,h⟩=>h φ H σ .refl S re
def qD (he:zp X xr e m):yU X xr (.Return (some e) pos) (qF m):=by
 try simp only[zR]at*
 exact PS.imp (EK he) λD σ H ⟨φ,A,ρ,S,re,h⟩=>tM.go S re (zV.mp h) λw A1 a H1 v b l s q=>b a H1 v l s q
def qt (i:Nat){pos':Pos}(b:X.N.Nodup)(he:zp X xr e m)(a:X.N[i]? =some x:=by rfl)(h:Loc X.env.scope x:=by first|exact Or.inl rfl|exact Or.inr rfl)(H:swapsWith e (some (.Name x pos')) pos.line X.env=pure false:=by rfl)
  (hf:X.fn x=true∨X.env.scope.names.lookup x=some .local:=by first|exact .inl rfl|exact .inr rfl):yU X xr (.Assign [.Name x pos'] e pos) (zN i m):=by
 try simp only[zR]at*
 exact PS.imp (EE b a h he H hf) zN.read
def OW (i:Nat){iter:Expr}{mi:Ei}{tw:Tg}{M:Ev}{em:Em}{P a:Pos}(nl:Nat)(cap:bQ)(j:X.N.Nodup)
  (e:X.calm=true)(S:gE X sc)(p:ZZ X.N N sc nl cap=true)(hw:kH X xr tg iter mi)
  (n:∀s H fp,wA (jR X N sc s H fp yA) tg tw/\gv (jR X N sc s H fp yA) ifs M/\wY (jR X N sc s H fp yA) elt (⟨tg,iter,ifs,0⟩::gs) sc pos 0 em)
  (b:X.N[i]? =some x:=by rfl)(c:X.env.scope.names.lookup x=some .local:=by rfl)
  (w:swapsWith (.ListComp elt (⟨tg,iter,ifs,0⟩::gs) sc pos) (some (.Name x P)) a.line X.env=pure true:=by rfl)
  (f:∀g',gs[0]? =some g'->g'.is_async=0:=by intro _ h;cases h<;>rfl)
  (d:∀x,foldedSetIterable iter X.env x=pure x:=by intro _;rfl):yU X xr (.Assign [.Name x P] (.ListComp elt (⟨tg,iter,ifs,0⟩::gs) sc pos) a) (zN i (qh (zO nl cap mi tw M em))):=by
 try simp only[zR]at*
 exact PS.imp (L2.Nm (g:=tG X.K tw) (ti:=tT X.K yB M) (tm:=tE X.K em) j b c w e S p f hw n d) λD σ H h=>zO.read σ H _ (qh.read σ H _ (zN.read D σ H h))
def Qh (h:w8 X xr e m):yi X xr e m:=by
 try simp only[zR]at*
 exact PW.pt h
def jn {g:W->W->Hx->R W}(h:kQ X op g)(c:zp X xr a ma)(H:zp X xr b mb)(e:op≠.In:=by decide)(d:op≠.NotIn:=by decide):yi X xr (.Compare a [op] [b] pos) (zc g ma mb):=by
 try simp only[zR]at*
 exact let ⟨r,a1,a2,A⟩:=h.ex;Rj a1 a2 A c H (h.mks b e d)
def Eb {o:CmpOp}{g g':W->W->Hx->R W}(h:kQ X op g)(h':kQ X o g')(e:zp X xr a ma)(d:zp X xr b mb)(H:zp X xr c mc)(hm:lastMarks [op,o] [b,c]=false:=by with_unfolding_all rfl):
  yi X xr (.Compare a [op,o] [b,c] pos) (yO g g' ma mb mc):=by
 try simp only[zR]at*
 exact let ⟨r,a1,a2,A⟩:=h.ex;let ⟨j,i,f,B⟩:=h'.ex;L8 a1 a2 A i f B e d H hm
def Dx {g:W->W->Hx->R W}(h:XZ X op g)(c:zp X xr a ma)(H:zp X xr b mb)(hm:behindInMarks op b=false:=by rfl):yi X xr (.Compare a [op] [b] pos) (zc g ma mb):=by
 try simp only[zR]at*
 exact let ⟨r,a1,a2,A⟩:=h.ex;Rj a1 a2 A c H hm
def Ql (f:yi X xr a ma):yi X xr (.UnaryOp .Not a pos) (yw ma):=by
 try simp only[zR]at*
 exact PT.imp (EM f) λσ H Q ⟨φ,A,ρ,S,re,h⟩=>by
   refine tT.go S re (zV.mp h) λw A1 c=>?_;cases w with
   |bl k=>obtain⟨b,e,q⟩:=c;cases e;exact⟨k,rfl,λd H1 l s=>q d H1 l s⟩|non=>cases c|int _=>cases c|str _=>cases c|tup _=>cases c|ref _=>cases c|clo _ _ _=>cases c|xc _=>cases c
def Zc (h:zp X xr e m)(he:∀whole,isTrue e X.env whole=(do let v <- whole;standAt e.pos;holding [v] (truthy v)):=by intro _;rfl):yi X xr e m:=by
 try simp only[zR]at*
 exact PT.imp (EZ h he) λσ H Q h=>h.toM
def qY:gv X [] (zy (.bl true)):=by
 try simp only[zR]at*
 exactλpins s σ H Q I ⟨φ,A,ρ,S,re,h⟩=>M1 pins s σ H Q I (by
  obtain⟨b,e,q⟩:=h;cases e;exact q φ H .refl S)
def Y4 (h:yi X yB c mc):gv X [c] mc:=by
 try simp only[zR]at*
 exact M3 h
def TJ {rest:bT}(g:yi X xr a ma)(f:w8 X xr (.BoolOp .And (b::rest) pos) mb):w8 X xr (.BoolOp .And (a::b::rest) pos) (kh ma mb):=by
 try simp only[zR]at*
 exact PW.imp (pw_and g f) λσ H Q ⟨φ,A,ρ,S,re,h⟩=>by
   refine tT.go S re (zV.mp h) λw A1 c=>?_;cases w with
   |bl k=>
    refine⟨k,rfl,λd H1 l s=>?_⟩;cases k with
    |true=>rw[ag rfl];exact tT.mono s l re c|false=>rw[ar aA];obtain⟨b,e,q⟩:=c;cases e;exact q d H1 l s
   |non=>cases c|int _=>cases c|str _=>cases c|tup _=>cases c|ref _=>cases c|clo _ _ _=>cases c|xc _=>cases c
def Ts (h:yi X xr a ma):w8 X xr (.BoolOp .And [a] pos) ma:=by
 try simp only[zR]at*
 exact pw_and1 h
def Yd {rest:bT}(g:yi X xr a ma)(f:w8 X xr (.BoolOp .Or (b::rest) pos) mb):w8 X xr (.BoolOp .Or (a::b::rest) pos) (y8 ma mb):=by
 try simp only[zR]at*
 exact PW.imp (pw_or g f) λσ H Q ⟨φ,A,ρ,S,re,h⟩=>by
   refine tT.go S re (zV.mp h) λw A1 c=>?_;cases w with
   |bl k=>
    refine⟨k,rfl,λd H1 l s=>?_⟩;cases k with
    |false=>rw[ar aA];exact tT.mono s l re c|true=>rw[ag rfl];obtain⟨b,e,q⟩:=c;cases e;exact q d H1 l s
   |non=>cases c|int _=>cases c|str _=>cases c|tup _=>cases c|ref _=>cases c|clo _ _ _=>cases c|xc _=>cases c
def JV (h:yi X xr a ma):w8 X xr (.BoolOp .Or [a] pos) ma:=by
 try simp only[zR]at*
 exact pw_or1 h
def yM {K:Frag}{st:Stmt}{m:Ex}(F:kY K x x st f fd)(hm:mg x=some (.ref f))(S:jJ N ps (qC st))
  (i:∀(kV doc pm:Value)(an:bZ)(c ct:Value)(us:bN),us.length=ps.length->bindArgs (fnOf x x (ZN st) (kL st) (qC st) .none kV doc pm an c ct) ⟨us,[]⟩=pure (ps.zip us))
  (a:∀(c:Value)(A:Around)(outer:bW)(s:Shared)(H:Hp)(E:XK),jD k (A.deeper (envOfC x (qC st) s.heap.objs.size f c))->yZ (wk w6 P w K mg base N x (qC st) f c A outer s H E).nox yB (kL st) m):
  zX P w K mg base (k+1) x ps.length (jk N.length m):=by
 try simp only[zR]at*
 refine⟨f,fd,ps,?_,hm,F.kp,F.binds i⟩;refine F.ok S (λvs H Q E h=>h.len) λc A outer s H vs Q E g ⟨q,φ,A1,ws,n,r,h⟩=>⟨_,a c A outer s H E g,?_⟩;refine⟨φ,A1,ws.map some++List.replicate (N.length-ws.length) none,n,RE.start r,?_⟩;have h':=zV.mp h;show R.post _ (FB K φ H _) _;cases e:m (ws.map some++List.replicate (N.length-ws.length) none) A1 with
 |ok j A2=>
  rw[e]at h';cases j with
  |rt w=>exact h'|nx ρ=>exactλb p d l o _=>h' b p .non l o rfl|bk ρ=>exact h'.elim|ct ρ=>exact h'.elim
 |exc y A2=>
  rw[e]at h';exact h'.elim
 |bad=>rw[e]at h';exact h'.elim
def GW (hm:X.mg "abs"=none)(a:zp X xr e m)(h:Gl X "abs":=by rfl)(he:starEach [e] X.env=(false,eval e X.env)::starEach [] X.env:=by rfl):zp X xr (.Call (.Name "abs" p) [e] [] pos) (qP Yp m):=by
 try simp only[zR]at*
 exact Ro Ip (λw A=>by unfold Yp;split;exact jh;exact qe) (λφ A H x u Q S q p=>by
   cases u with
   |int i=>obtain rfl:=q;exact⟨i,rfl,p φ H _ .refl S rfl⟩|_=>exact p.elim) hm (by rfl) a h (by decide) (by decide) he (by rfl)
def W3 (i:zp X xr a ma)(he:zp X xr b mb)(s:starEach [b] X.env=(false,eval b X.env)::starEach [] X.env:=by rfl)
  (e:attributeBase a "append" X.env (eval a X.env)=eval a X.env:=by rfl)
  (w:((backTo cpos (starEach [b] X.env)).all (λx=>!x.1)&&(backToKw cpos (keywordEach [] X.env)).all (λx=>x.1.isSome)
   && decide ([b].length+([]:bY).length+(if ([]:bY).isEmpty then 0 else 1)<30))=true:=by rfl)(h:(apos.endLine==cpos.line)=true:=by rfl):
  zp X xr (.Call (.Attribute a "append" apos) [b] [] cpos) (kE gi ma mb):=by
 try simp only[zR]at*
 exact Xn PySem.F.slot_list_append PySem.F.type_list_append UC MC (λφ A H x y u v Q S g q p=>by
   unfold gi at p;cases u with
   |ref n=>
    dsimp only at p;cases E:A[n]? with
    |none=>rw[E]at p;exact p.elim|some o=>cases o with
     |lst ws=>
      rw[E]at p;dsimp only at p
      by_cases c:ws.length<qa
      ·rw[ag c]at p
       obtain⟨l,vs,rfl,f1,g1,r⟩:=S.lst g E;refine⟨l,vs,y,rfl,rfl,g1,?_,?_⟩
       ·rw[<- r.length]
        have:sizeLine=16777216:=sizeLine_eq
        unfold qa at c;omega
       ·have ln:Le X.K φ H φ (upd H l (.lst (vs++[y]))):=Le.upd f1 (λxs z=>by rw[g1]at z;cases z) (λ_ _ z=>by rw[g1]at z;cases z)
        obtain⟨f,d⟩:=S.write (o:=.lst ws) (o':=.lst (ws++[v])) E rfl rfl f1 ⟨_,jI,(r.mono ln).append (.one (q.mono ln))⟩;exact p _ _ _ f d rfl
      ·rw[ar c]at p;exact p.elim
     |_=>rw[E]at p;exact p.elim
   |_=>exact p.elim) i he s e w h
def JN (hm:X.mg "int"=none)(a:zp X xr e m)(h:Gl X "int":=by rfl)(he:starEach [e] X.env=(false,eval e X.env)::starEach [] X.env:=by rfl):zp X xr (.Call (.Name "int" p) [e] [] pos) (qP QE m):=by
 try simp only[zR]at*
 exact Xh MR (λw A=>by unfold QE;split;exact jh;exact jh;exact qe) (λφ A H x u Q S q p=>by
   cases u with
   |int i=>obtain rfl:=q;exact .inl ⟨i,rfl,p φ H _ .refl S rfl⟩|bl k=>obtain rfl:=q;exact .inr ⟨k,rfl,p φ H _ .refl S rfl⟩|_=>exact p.elim) hm (by rfl) a h (by decide) (by decide) he (by rfl)
def Ll (e:X.calm=true)(hm:X.mg "max"=none)(n:zp X xr a ma)(k:zp X xr b mb)(l:Gl X "max":=by rfl)(r:starEach [a,b] X.env=(false,eval a X.env)::starEach [b] X.env:=by rfl)(o:starEach [b] X.env=(false,eval b X.env)::starEach [] X.env:=by rfl)(h:(backTo pos (starEach [b] X.env)).any (·.1)=false:=by rfl):
  zp X xr (.Call (.Name "max" p) [a,b] [] pos) (zc Xy ma mb):=by
 try simp only[zR]at*
 exact Xx (Mf e) ZY (λφ A H x y u v Q S d c p=>by
   obtain⟨i,j,s,E,q⟩:=ZS (K:=X.K) (f:=λi j=>.int (if j > i then j else i)) (g:=λi j=>.int (if j > i then j else i)) (λ_ _ _ _=>rfl) φ A H x y u v Q S d c p;subst s;subst E;exact⟨i,j,rfl,q⟩) hm (by rfl) n k l (by decide) (by decide) r o h
def NV (C:zp X xr a ma)(he:zp X xr b mb)(B:starEach [b] X.env=(false,eval b X.env)::starEach [] X.env:=by rfl)
  (e:attributeBase a "pop" X.env (eval a X.env)=eval a X.env:=by rfl)
  (c:((backTo cpos (starEach [b] X.env)).all (λx=>!x.1)&&(backToKw cpos (keywordEach [] X.env)).all (λx=>x.1.isSome)
   && decide ([b].length+([]:bY).length+(if ([]:bY).isEmpty then 0 else 1)<30))=true:=by rfl)(h:(apos.endLine==cpos.line)=true:=by rfl):
  zp X xr (.Call (.Attribute a "pop" apos) [b] [] cpos) (kE gH ma mb):=by
 try simp only[zR]at*
 exact Xn PySem.F.slot_list_pop PySem.F.type_list_pop Lj Ia (λφ A H x y u v Q S t s p=>by
   unfold gH at p;cases u with
   |ref n=>cases v with
    |int i=>
     obtain rfl:=s;dsimp only at p;cases E:A[n]? with
     |none=>rw[E]at p;exact p.elim|some o=>cases o with
      |lst ws=>
       rw[E]at p;dsimp only at p
       by_cases d:jN i=true
       ·rw[ag d]at p
        obtain⟨L,J⟩:=QW d;cases g:seqIndex? i ws.length with
        |none=>rw[g]at p;exact p.elim|some k=>
         rw[g]at p;dsimp only at p;cases f:ws[k]? with
         |none=>rw[f]at p;exact p.elim|some w=>
          rw[f]at p;obtain⟨l,vs,rfl,f1,g1,r⟩:=S.lst t E;obtain⟨y,I,D⟩:=r.get f;have ln:Le X.K φ H φ (upd H l (.lst (vs.eraseIdx k))):=Le.upd f1 (λxs z=>by rw[g1]at z;cases z) (λ_ _ z=>by rw[g1]at z;cases z)
          obtain⟨j,q⟩:=S.write (o:=.lst ws) (o':=.lst (ws.eraseIdx k)) E rfl rfl f1 ⟨_,jI,(r.erase k).mono ln⟩;exact⟨l,vs,i,k,y,rfl,rfl,g1,by omega,by omega,by rw[<- r.length];exact g,I,p _ _ _ j q (D.mono j)⟩
       ·rw[ar d]at p;exact p.elim
      |_=>rw[E]at p;exact p.elim
    |_=>exact p.elim
   |_=>cases v<;>exact p.elim) C he B e c h
def TC (H:zp X xr a ma)(h:zp X xr b mb):zp X xr (.BinOp a .Pow b pos) (zc We ma mb):=by
 try simp only[zR]at*
 exact ZR FH Xp (Xe Iz λ_ _ _ _=>rfl) H h
def yF {x j}:zp X xr (.Constant (.str x) j pos) (zy (.str x)):=by
 try simp only[zR]at*
 exact PE.imp F7 λσ H Q ⟨φ,A,ρ,S,r,h⟩=>h φ H _ .refl S rfl
def T9 (H:zp X xr a ma)(h:zp X xr b mb):zp X xr (.BinOp a .BitXor b pos) (zc XS ma mb):=by
 try simp only[zR]at*
 exact ZR FF ZY (ZS λ_ _ _ _=>rfl) H h
def Y0 {q:jV}(hm:X.mg "list"=none)(d:w9 X xr e q)(g:Gl X "list":=by rfl)(he:starEach [e] X.env=(false,eval e X.env)::starEach [] X.env:=by rfl):
  zp X xr (.Call (.Name "list" p) [e] [] pos) (qh q):=by
 try simp only[zR]at*
 exact PE.imp (QZ OB g hm (by rfl) (qZ d jP he) (by decide) (by decide) he (by rfl)) λσ H Q ⟨φ,A,ρ,S,re,h⟩=>by
   refine⟨φ,A,ρ,S,re,qp (zV.mp h) (λws A1 f b H1 a ys L s z r=>?_) λ_ _ z=>z⟩;refine⟨a,ys,rfl,z,λl c=>?_⟩;obtain⟨a1,a2,i⟩:=Zg s c r;exact f _ _ _ (L.trans a1) a2 i
def Q4 {o i:Expr}{mo mi:Ev}(he:zp X xr e m)(H:zp X xr o mo)(a:zp X xr i mi)
  (h:swapsWithSole [.Subscript o i tpos] e pos.line X.env=pure false:=by rfl)(hw:swappedStores [.Subscript o i tpos] e X.env=pure none:=by rfl)
  (c:(assignEach [.Subscript o i tpos] X.env).map (·.2)=[assign (.Subscript o i tpos) X.env]:=by rfl)
  (b:∀v,assign (.Subscript o i tpos) X.env v=(do
   let ov <- holding [v] (eval o X.env)
   let iv <- holding [v,ov] (eval i X.env)
   standAt tpos
   holding [v,ov,iv] (setItem ov iv v)
   release [v,ov,iv] []):=by intro _;rfl):yU X xr (.Assign [.Subscript o i tpos] e pos) (kN ki m mo mi):=by
 try simp only[zR]at*
 exact Il set_list Ey IH he H a h hw c b
def NQ (f:Nat)(C:PassesOwn (model X.prog X.w) X.A X.env X.xe)(E:yi X xr c mc)(I:yZ X xr body m1):yU X xr (.While c body [] pos) (G2 f mc m1):=by
 try simp only[zR]at*
 exact PS.imp (LN C E I) λD σ H ⟨φ,A,ρ,S,re,h⟩=>by
   refine⟨λf g e=>∃a A2 d,Le X.K φ H a e/\zE X.K a A2 e/\RE X.K a e d g/\(Zl mc m1 f d A2).post (FB X.K a e D) (EB X.K a e xr),⟨f,φ,A,ρ,.refl,S,re,h⟩,?_⟩
   rintro f u U ⟨a,A2,d,x,M,o,v⟩
   cases f with
   |zero=>exact v.elim|succ f=>
    unfold Zl at v;refine tT.go M o (zV.mp v) λw P j=>?_;cases w with
    |bl k=>
     refine⟨k,rfl,λp N l y=>?_⟩;cases k with
     |true=>
      rw[ag rfl];refine⟨λg e=>∃a A2 d,Le X.K φ H a e/\zE X.K a A2 e/\RE X.K a e d g/\(Zl mc m1 f d A2).post (FB X.K a e D) (EB X.K a e xr),λg e z=>⟨f,bq _,z⟩,?_⟩;refine⟨p,P,d,y,o.mono l,qp (zV.mp j) (λJ B t=>?_) λ_ _ z=>z.mono l⟩;cases J with
      |nx i=>exactλb q n L s r=>⟨b,B,i,(x.trans l).trans L,s,r,qp t (λ_ _ z=>z.mono (l.trans L)) λ_ _ z=>z.mono (l.trans L)⟩|ct i=>exactλb q n L s r=>⟨b,B,i,(x.trans l).trans L,s,r,qp t (λ_ _ z=>z.mono (l.trans L)) λ_ _ z=>z.mono (l.trans L)⟩|bk i=>exactλb q n L s r=>t b q n (l.trans L) s r|rt T=>exactλb q v4 L s Q=>t b q v4 (l.trans L) s Q
     |false=>
      rw[ar aA];exact j p N u l y (o.mono l)
    |non=>cases j|int _=>cases j|str _=>cases j|tup _=>cases j|ref _=>cases j|clo _ _ _=>cases j|xc _=>cases j
end
end Mi
variable {mr:Mi.Ea}{mi:Mi.Ei}{ρ:Mi.En}{me:Mi.Ev}{A A1:Mi.Hx}{ws:List Mi.W}{o:Mi.O}{tw:Mi.Tg}{g:Mi.W->Mi.W->Mi.Hx->Mi.R Mi.W}{xr:Mi.XR}{q:Mi.jV}
set_option maxHeartbeats 4000000
namespace Mi
open PySem L2
section
variable {ρ1:En}{A2:Hx}{w x y:W}{m ma mb mc:Ev}{m1 m2:Ex}{f:Fn}
def zq (h:ρ[i]? =some (some w)):zH i ρ A=.ok w A:=by unfold zH;rw[h]
def qb:zy w ρ A=.ok w A:=rfl
def zJ (H:ma ρ A=.ok x A1)(h:mb ρ A1=.ok y A2):zc g ma mb ρ A=g x y A2:=by unfold zc;rw[H,zD,h,zD]
def Ki {g:W->Hx->R W}(h:ma ρ A=.ok x A1):qP g ma ρ A=g x A1:=by unfold qP;rw[h,zD]
def gh {k:Bool}(h:ma ρ A=.ok (.bl k) A1):yw ma ρ A=.ok (.bl (!k)) A1:=by unfold yw;rw[h,zD]
def Ze (h:ma ρ A=.ok (.bl true) A1):kh ma mb ρ A=mb ρ A1:=by unfold kh;rw[h,zD]
def Jd (h:ma ρ A=.ok (.bl false) A1):kh ma mb ρ A=.ok (.bl false) A1:=by unfold kh;rw[h,zD]
def KC (h:ma ρ A=.ok (.bl true) A1):y8 ma mb ρ A=.ok (.bl true) A1:=by unfold y8;rw[h,zD]
def Zh (h:ma ρ A=.ok (.bl false) A1):y8 ma mb ρ A=mb ρ A1:=by unfold y8;rw[h,zD]
def RD (h:mc ρ A=.ok (.bl true) A1):Zr mc ma mb ρ A=ma ρ A1:=by unfold Zr;rw[h,zD]
def Rv (h:mc ρ A=.ok (.bl false) A1):Zr mc ma mb ρ A=mb ρ A1:=by unfold Zr;rw[h,zD]
def jq {a:Ea}(h:a ρ A=.ok ws A1):zQ f a ρ A=f ws A1:=by unfold zQ;rw[h,zD]
def qK:zo ρ A=.ok [] A:=rfl
def qg {r:Ea}(H:ma ρ A=.ok x A1)(h:r ρ A1=.ok ws A2):zi ma r ρ A=.ok (x::ws) A2:=by unfold zi;rw[H,zD,h,zD]
def GG {a:Ea}(h:a ρ A=.ok ws A1):jL a ρ A=.ok (.tup ws) A1:=by unfold jL;rw[h,zD]
def jX {a:Ea}(h:a ρ A=.ok ws A1):z8 a ρ A=.ok (.ref A1.length) (A1++[.lst ws]):=by unfold z8;rw[h,zD]
def zK (h:m1 ρ A=.ok (.nx ρ1) A1):zl m1 m2 ρ A=m2 ρ1 A1:=by unfold zl;rw[h,zD]
def qm (h:m1 ρ A=.ok (.rt w) A1):zl m1 m2 ρ A=.ok (.rt w) A1:=by unfold zl;rw[h,zD]
def jM:zB ρ A=.ok (.nx ρ) A:=rfl
def qw (h:m ρ A=.ok w A1):zN i m ρ A=.ok (.nx (ρ.set i (some w))) A1:=by unfold zN;rw[h,zD]
def EL (h:m ρ A=.ok w A1):QI m ρ A=.ok (.nx ρ) A1:=by unfold QI;rw[h,zD]
def ja (h:m ρ A=.ok w A1):qF m ρ A=.ok (.rt w) A1:=by unfold qF;rw[h,zD]
def yH (h:mc ρ A=.ok (.bl true) A1):qB mc m1 m2 ρ A=m1 ρ A1:=by unfold qB;rw[h,zD]
def yd (h:mc ρ A=.ok (.bl false) A1):qB mc m1 m2 ρ A=m2 ρ A1:=by unfold qB;rw[h,zD]
def wG {j:jv}(h:mi ρ A=.ok j A1):yT mi tw m1 ρ A=j5 j (turn tw m1) j.len 0 ρ A1:=by unfold yT;rw[h,zD]
def kM (h:tw w ρ=some ρ1):turn tw m1 w ρ A=m1 ρ1 A:=by unfold turn;rw[h]
def Ud {j:jv}{st:W->Ex}(h:j.at_ A i=some none):j5 j st n i ρ A=.ok (.nx ρ) A:=by
 cases n with
 |zero=>unfold j5;rw[h]|succ n=>unfold j5;rw[h]
def Tj {j:jv}{st:W->Ex}(h:j.at_ A i=some (some w))(H:st w ρ A=.ok (.nx ρ1) A1):j5 j st (n+1) i ρ A=j5 j st n (i+1) ρ1 A1:=by
 rw[j5,h];dsimp only;rw[H,zD]
def L7 {j:jv}{st:W->Ex}(h:j.at_ A i=some (some w))(H:st w ρ A=.ok (.rt x) A1):j5 j st (n+1) i ρ A=.ok (.rt x) A1:=by
 rw[j5,h];dsimp only;rw[H,zD]
def JU {k:Int}(h:m ρ A=.ok (.int k) A1)(H:jN k=true):jg m ρ A=.ok (yP 0 k.toNat) A1:=by unfold jg;rw[h,zD];dsimp only;rw[ag H]
def ZV {lo:Int}(h:i<k):(yP lo k).at_ A i=some (some (.int (lo+i))):=by unfold yP;dsimp only;rw[ag h]
def ZJ {lo:Int}(h:¬i<k):(yP lo k).at_ A i=some none:=by unfold yP;dsimp only;rw[ar h]
def ji (h:m1 (ws.map some++List.replicate (n-ws.length) none) A=.ok (.rt w) A1):jk n m1 ws A=.ok w A1:=by unfold jk;rw[h];rfl
def Jg {w:W}(hn:jA ws=true)(hw:w.nr=true)(h:f ws []=.ok w A1):iso f ws A=.ok w A:=by
 unfold iso;rw[ag hn,h];cases w with
 |ref k=>cases hw|_=>dsimp only;rw[ag hw]
end
end Mi
set_option maxHeartbeats 4000000
namespace Mi
open PySem L2
def MZ {j:jv}{ifs:Ev}{c:En}{N:Nat}{item g:Nat->W}{keep:Nat->Bool}(t:∀i,i<N->j.at_ A i=some (some (item i)))(d:j.at_ A N=some none)
  (a:∀i,i<N->ifs (some (item i)::c) A=.ok (.bl (keep i)) A)(he:∀i,i<N->keep i=true->me (some (item i)::c) A=.ok (g i) A):
  ∀(n i:Nat)(x:Option W)(acc:List W),i+n=N->acc.length+n<=qa->∃y,ju j (zF 0) ifs (zL me) n i (x::c) acc A=.ok (y::c,acc++((List.range' i n).filter keep).map g) A:=by
 intro n
 induction n with
 |zero=>
  intro i x acc h _
  have:i=N:=by omega
  subst this;refine⟨x,?_⟩;unfold ju;rw[d];simp
 |succ n I=>
  intro i x acc h l;have H:i<N:=by omega
  rw[ju,t i H];dsimp only[zF,List.set];rw[a i H,zD];rw[range'_succ];cases k:keep i with
  |true=>
   dsimp only;obtain⟨y,e⟩:=I (i+1) (some (item i)) (acc++[g i]) (by omega) (by rw[aD,a5];omega)
   refine⟨y,?_⟩;have E:zL me (some (item i)::c) acc A=.ok (some (item i)::c,acc++[g i]) A:=by
    unfold zL;rw[he i H k,zD,ag (by omega)]
   rw[E,zD];dsimp only;rw[e,List.filter_cons_of_pos k,aU,aP]
   rfl
  |false=>
   dsimp only;obtain⟨y,e⟩:=I (i+1) (some (item i)) acc (by omega) (by omega)
   exact⟨y,by rw[e,List.filter_cons_of_neg (by rw[k];exact aA)]⟩
def Ug {j:jv}{ifs:Ev}{N:Nat}{item g:Nat->W}{keep:Nat->Bool}(hm:mi ρ A=.ok j A)(a:j.len=N)(d:N<=qa)
  (H:∀i,i<N->j.at_ A i=some (some (item i)))(h:j.at_ A N=some none)(b:∀i,i<N->ifs (some (item i)::cap.map λi=>(ρ[i]?).join) A=.ok (.bl (keep i)) A)
  (he:∀i,i<N->keep i=true->me (some (item i)::cap.map λi=>(ρ[i]?).join) A=.ok (g i) A):
  zO 1 cap mi (zF 0) ifs (zL me) ρ A=.ok (((List.range N).filter keep).map g) A:=by
 obtain⟨y,e⟩:=MZ H h b he N 0 none [] (Nat.zero_add N) (by simpa using d)
 unfold zO;rw[hm,zD,a];have c:Qv 1 cap ρ=none::cap.map λi=>(ρ[i]?).join:=rfl;rw[c,e,nil_append,<- range_eq_range']
 rfl
def Qd {j:jv}{N:Nat}{item g:Nat->W}(hm:mi ρ A=.ok j A)(a:j.len=N)(c:N<=qa)
  (t:∀i,i<N->j.at_ A i=some (some (item i)))(H:j.at_ A N=some none)(he:∀i,i<N->me (some (item i)::cap.map λi=>(ρ[i]?).join) A=.ok (g i) A):
  zO 1 cap mi (zF 0) (zy (.bl true)) (zL me) ρ A=.ok ((List.range N).map g) A:=by
 have h:=Ug (ifs:=zy (.bl true)) (keep:=λ_=>true) hm a c t H (λ_ _=>rfl) λi b _=>he i b;have f:(List.range N).filter (λ_=>true)=List.range N:=List.filter_eq_self.mpr λ_ _=>rfl;rw[f]at h;exact h
def yG {g:List W->Hx->R W}(h:q ρ A=.ok ws A1):mQ g q ρ A=g ws A1:=by unfold mQ;rw[h,zD]
def gf (h:q ρ A=.ok ws A1):qh q ρ A=.ok (.ref A1.length) (A1++[.lst ws]):=by unfold qh;rw[h,zD]
def kA {m:Ev}{w:W}(h:m ρ A=.ok w A1)(H:zS w A1=some ws):qi m ρ A=.ok ws A1:=by unfold qi;rw[h,zD,H]
open PySem PySem.Spec PyProof.Rows L2
inductive CW (H:Hp)(h g:Heap)(e:Addr)(vs:Array Value):Prop
 |mk (T:Addr) (oT:Obj) (ts:Array Value) (h1:vs[1]? =some (.ref T)) (ne:T≠e) (ng:g.get? T=none) (nH:H T=none) (hT:h.get? T=some oT) (hd:oT.data=.fields ts) (h3:ts[3]? =some .none)
inductive wg (H:Hp)(h g:Heap)(e:Addr)(C:Value):Prop
 |mk (ng:g.get? e=none) (nH:H e=none) (oe:Obj) (vs:Array Value) (a0:Value) (he:h.get? e=some oe) (hc:oe.cls=C) (hd:oe.data=.fields vs) (h0:vs[0]? =some a0) (h1:vs[1]? =some .none∨CW H h g e vs)
inductive Tr (h:Heap)(e:Addr):Prop
 |mk (oe:Obj) (vs:Array Value) (T:Addr) (he:h.get? e=some oe) (hd:oe.data=.fields vs) (h1:vs[1]? =some (.ref T))
section
variable {A:Around}{outer:bW}{L e:Addr}{C:Value}{g:Heap}
theorem frames_at {B:Heap}:∀{l:bW},s.heap.FunFrames base l->(∀b∈qu l,B.get? b=none)->s.heap.FunFrames B l
 |[],_,_=>trivial|e::r,⟨k,⟨L,o,hf,hn,a,hd⟩,H⟩,h=>⟨k,⟨L,o,hf,h L (by unfold qu;rw[bp,hf];exact az ..),a,hd⟩,frames_at H λb c=>h b (by
   unfold qu;rw[bp,hf];exact ao _ c)⟩
def Sr {Q:Unit->Shared->Prop}(w:A.frames=some (env::outer))(hf:env.frame=some L)(I:s.heap.FunFrames base (env::outer))(x:wg H s.heap g e C)
  (tr:∀b u,H b=some u->∃o,s.heap.get? b=some o)(th:∀b o,g.get? b=some o->∃o',s.heap.get? b=some o')
  (hQ:∀h',(∀b o,s.heap.get? b=some o->b∉qu (env::outer)->((∃o',g.get? b=some o')∨∃u,H b=some u)->h'.get? b=some o)->(∀b o,s.heap.get? b=some o->b∈qu (env::outer)->∃Y,h'.get? b=some { o with slots:=Y })->
   wg H h' g e C->Tr h' e->Q () { s with heap:=h' }):wpAny M A (leaving env (.ref e)) Q E s:=by
 obtain⟨K,S,oe,vs,a0,he,hc,hd,h0,B⟩:=x;have fin:∀(d:bO),(∀b∈qu (env::outer),b∈d)->(∀b∈d,b∉qu (env::outer)->g.get? b=none/\H b=none)->∀h',Heap.LeftW (hideAll s.heap d) (env::outer) e C a0 s.heap h'->Q () { s with heap:=h' }:=by
  intro d hi1 r h' ⟨st,ff,p,us⟩;refine hQ h' (λb o h nb hx=>?_) (λb o h mb=>?_) ?_ (by obtain⟨i,v,T,D,t,j,_,k,n,_⟩:=p;exact⟨i,v,T,j,k,n⟩)
  ·refine st b o (bF d h λhm=>?_)
   obtain⟨z1,z2⟩:=r b hm nb;rcases hx with ⟨o',q⟩|⟨u,q⟩
   ·rw[z1]at q;cases q
   ·rw[z2]at q;cases q
  ·obtain⟨_,o',a,f⟩:=I.mem mb
   rw[h]at a;cases a;exact us b o h f
  ·obtain⟨i,v,T,D,t,j,⟨N,X⟩,k,n,y,l,hT,c,U⟩:=p
   have nT:T∉qu (env::outer):=λhm=>by
    obtain⟨_,o',a,f⟩:=I.mem hm;obtain⟨Y,z⟩:=us T o' a f;rw[hT]at z;cases z;exact f t c
   have both:g.get? T=none/\H T=none:=by
    cases q:s.heap.get? T with
    |some o=>
     by_cases hm:T∈d
     ·exact r T hm nT
     ·rw[bF d q hm]at y;cases y
    |none=>
     constructor
     ·cases z:g.get? T with
      |none=>rfl|some o=>obtain⟨o',Z⟩:=th T o z;rw[q]at Z;cases Z
     ·cases z:H T with
      |none=>rfl|some u=>obtain⟨o',Z⟩:=tr T u z;rw[q]at Z;cases Z
   exact⟨K,S,i,v,a0,j,N,k,X,.inr ⟨T,D,t,n,l,both.1,both.2,hT,c,U⟩⟩
 have stay:∀d:bO,(hideAll s.heap d).StaysIn s.heap:=λd b o q=>of_hideAll d q;rcases B with B|⟨T,D,t,B,l,J,P,hT,c,U⟩
 ·have hn:∀b∈e::qu (env::outer),(hideAll s.heap (e::qu (env::outer))).get? b=none:=λb h=>hideAll_none _ h
  refine wpAny_leaving_firstW (base:=hideAll s.heap (e::qu (env::outer))) w (frames_at I λb h=>hn b (ao _ h)) hf he (stay _) (hn e (az ..)) hd B h0 ?_;rw[hc];refine fin _ (λb h=>ao _ h) λb h nb=>?_;rcases cc.mp h with rfl|h
  ·exact⟨K,S⟩
  ·exact absurd h nb
 ·have hn:∀b∈e::T::qu (env::outer),(hideAll s.heap (e::T::qu (env::outer))).get? b=none:=λb h=>hideAll_none _ h
  refine wpAny_leaving_nextW (base:=hideAll s.heap (e::T::qu (env::outer))) w (frames_at I λb h=>hn b (ao _ (ao _ h))) hf
   ⟨oe,vs,T,D,t,he,⟨hc,h0⟩,hd,B,hn T (ao _ (az ..)),l,hT,c,U⟩ (stay _) (hn e (az ..)) ?_
  refine fin _ (λb h=>ao _ (ao _ h)) λb h nb=>?_;rcases cc.mp h with rfl|h
  ·exact⟨K,S⟩
  ·rcases cc.mp h with rfl|h
   ·exact⟨J,P⟩
   ·exact absurd h nb
end
inductive MX (P:Program)(w:World)(outer:bW)(H:Hp)(s:Shared)(E:XK)(e:Value)(s':Shared):Prop
 |mk (ea C:Addr) (H':Hp) (he:e=.ref ea) (os:s'.os=s.os) (b:AllBare s'.gens) (un:Un (qu outer) [] H H' s.heap s'.heap) (hk:j0 P w H' s'.heap) (ly:wg H' s'.heap s.heap ea (.ref C)) (tr:Tr s'.heap ea) (q:E (.ref C) none H')
noncomputable def wW (P:Program)(w:World):wZ:=λouter H s E e s'=>MX P w outer H s E e s'
def _root_.L2.jb.obj {o:HO}(x:jb P w H h a o):∃ob,h.get? a=some ob:=by
 cases o with
 |lst xs=>obtain⟨_,_,_,_,e⟩:=x;exact⟨_,e⟩|tup xs=>obtain⟨_,_,_,o,e,_⟩:=x;exact⟨o,e⟩|dK k=>obtain⟨_,_,_,_,o,_,_,e,_⟩:=x;exact⟨o,e⟩|dT k=>obtain⟨_,_,_,_,o,_,_,e,_⟩:=x;exact⟨o,e⟩|set S n=>obtain⟨o,_,_,_,e,_⟩:=x;exact⟨o,e⟩|ins C d fs=>obtain⟨_,_,_,e,_⟩:=x;exact⟨_,e⟩|own y=>exact x|xd fs=>obtain⟨_,⟨o,_,_,e,_⟩,_⟩:=x;exact⟨o,e⟩|rng lo i=>obtain⟨_,_,_,e⟩:=x;exact⟨_,e⟩|frz ob u=>exact⟨ob,x.1⟩|tbl ps=>exact⟨_,(show h.get? a=some _ from x)⟩|met f y=>exact⟨_,(show h.get? a=some _ from x)⟩|ext φ=>exact x.2.1
def N7 {K:Frag}{cd:Value}{A:Around}{outer:bW}{E:XK}
  {h:Hp}{a C:Addr}(I:Inv (wk (wW P w) P w K mg base N qual scope f cd A outer s H E) pins σ h s')(x:wg h s'.heap s.heap a (.ref C))(p:E (.ref C) none h):
  (wk (wW P w) P w K mg base N qual scope f cd A outer s H E).xe (.ref a) s':=by
 have bs:Un (qu outer) [] H h s.heap s'.heap:=I.base;have stk:∀b∈qu (envOfC qual scope s.heap.objs.size f cd::outer),h b=none:=I.stkFree;have k:s.heap.get? s.heap.objs.size=none:=Heap.get?_none_of_le (au _);have g:(envOfC qual scope s.heap.objs.size f cd).frame=some s.heap.objs.size:=rfl;have mem:∀b,b∈qu (envOfC qual scope s.heap.objs.size f cd::outer)↔b=s.heap.objs.size∨b∈qu outer:=λb=>by
  unfold qu;rw[bp,g];exact mem_cons
 show wpAny (model P w) (A.deeper (envOfC qual scope s.heap.objs.size f cd)) (leaving (envOfC qual scope s.heap.objs.size f cd) (.ref a)) _ _ s';refine Sr (base:=base) (L:=s.heap.objs.size) I.ok.frames rfl I.stack x (λb u e=>(I.hok b u e).obj) (λb o e=>bs.there b o e (by simp)) λh' k1 k2 X t=>?_
 have r:∀b u,h b=some u->b∉qu (envOfC qual scope s.heap.objs.size f cd::outer):=λb u e hm=>by rw[stk b hm]at e;cases e
 refine⟨a,C,h,rfl,I.os,I.bare,⟨λb o e n nb _=>?_,λb o e n mb _=>?_,λb o e n d=>bs.free b o e n d,λb o e d=>?_,bs.tups,bs.frzs,bs.tbls⟩,λb u e=>?_,X,t,p⟩
 ·have i:b≠s.heap.objs.size:=λz=>by rw[z,k]at e;cases e
  exact k1 b o (bs.keep b o e n nb (by simp)) (λhm=>(mem b).mp hm |>.elim i nb) (.inl ⟨o,e⟩)
 ·obtain⟨l,q⟩:=bs.slot b o e n mb (by simp)
  obtain⟨S,Q⟩:=k2 b _ q ((mem b).mpr (.inr mb));exact⟨S,Q⟩
 ·obtain⟨o',q⟩:=bs.there b o e d
  by_cases hm:b∈qu (envOfC qual scope s.heap.objs.size f cd::outer)
  ·obtain⟨l,z⟩:=k2 b o' q hm;exact⟨_,z⟩
  ·exact⟨o',k1 b o' q hm (.inl ⟨o,e⟩)⟩
 ·refine(I.hok b u e).stay (λc v j q=>?_) (λ_ q=>q) λ_ _ q=>q
  rcases j with z|z
  ·rw[z]at q ⊢;exact k1 b v q (r b u e) (.inr ⟨u,e⟩)
  ·exact k1 c v q (r c _ z) (.inr ⟨_,z⟩)
def Uq {E:XK}{e:Value}(I:Inv X pins σ H s)(h:wW X.prog X.w X.stack H s E e s')(g:Heap)(p:∀b o,g.get? b=some o->∃o',s.heap.get? b=some o'):
  ∃a C c,e=.ref a/\Inv X pins σ c s'/\wg c s'.heap g a (.ref C)/\Tr s'.heap a/\E (.ref C) none c:=by
 obtain⟨a,C,c,rfl,os,bare,un,hok,x,r,u⟩:=h;obtain⟨l,v,d,t,f⟩:=s';obtain rfl:f=s.os:=os;refine⟨a,C,c,rfl,I.call (h':=l) (g':=v) (d':=d) (t':=t) (ch:=[]) un hok bare (λb z=>absurd z (by simp)),?_,r,u⟩
 have up:∀b,s.heap.get? b=none->g.get? b=none:=λb n=>by
  cases z:g.get? b with
  |none=>rfl|some o=>obtain⟨o',q⟩:=p b o z;rw[n]at q;cases q
 obtain⟨a1,a2,j,vs,U,S,Q,P,N,B⟩:=x;refine⟨up a a1,a2,j,vs,U,S,Q,P,N,?_⟩;rcases B with B|⟨T,k,i,M,L,K,J,D,A,y⟩
 ·exact .inl B
 ·exact .inr ⟨T,k,i,M,L,up T K,J,D,A,y⟩
noncomputable def gC (K:Frag)(E:XK):XR:=λx H=>∀C:Addr,yI K x (.ref C)->E (.ref C) none H
inductive Wr (K:Frag)(n:Nat)(f:Fn)(vs:List V)(H:Hp)(Q:VK)(E:XK):Prop
 |mk (len:vs.length=n) (φ:bO) (A:Hx) (ws:List W) (S:zE K φ A H) (r:zw K φ H ws vs) (q:(f ws A).post (PB K φ H Q) (EB K φ H (gC K E)))
def Wr.len {K:Frag}{f:Fn}{Q:VK}{E:XK}(h:Wr K n f vs H Q E):vs.length=n:=by cases h;assumption
inductive kX (P:Program)(w:World)(K:Frag)(mg:bV)(base:Heap)(k:Nat)(x:Str)(n:Nat)(f:Fn):Prop
 |mk (fa:Addr) (fd:FuncData) (ps:bR) (F:yv P w K mg base (wW P w) k fa fd ps (Wr K n f)) (at_:mg x=some (.ref fa)) (kp:keepIn K (.ref fa)=true) (bi:Binds K fd ps [])
structure gx (X:Cx)(g:Heap)(xr:XR):Prop where
 th:∀pins σ H s,Inv X pins σ H s->∀b o,g.get? b=some o->∃o',s.heap.get? b=some o'
 out:∀pins σ H s ea C x,Inv X pins σ H s->wg H s.heap g ea (.ref C)->yI X.K x (.ref C)->xr x H->X.xe (.ref ea) s
def CT {K:Frag}{cd:Value}{A:Around}{outer:bW}{E:XK}:
  gx (wk (wW P w) P w K mg base N qual scope f cd A outer s H E) s.heap (gC K E) where
 th:=λpins σ h s' I b o e=>(show Un (qu outer) [] H h s.heap s'.heap from I.base).there b o e (by simp)
 out:=λpins σ h s' d C x I l c a=>N7 I l (a C c)
section
variable {g:Heap}{c:Expr}
noncomputable def BF (K:Frag)(X:XR):XK:=λc _ H=>∃x C,c=.ref C/\yI K x (.ref C)/\X x H
def gx.passes (x:gx X g xr):Passes (wW X.prog X.w) X (BF X.K xr):=λpins σ H s e s' I h=>by
 obtain⟨b,C,d,rfl,i,l,_,nm,f,E,c,a⟩:=Uq I h g (x.th pins σ H s I);cases E;exact x.out pins σ d s' b C nm i l c a
end
noncomputable def Jq (n:Nat)(m:Ex):Fn:=λws A=>(m (ws.map some++List.replicate (n-ws.length) none) A).bind λf A1=>match f with
 |.rt w=>.ok w A1|.nx _=>.ok .non A1|_=>.bad
inductive Xt (C:Addr)(bmB:bN)(newId:String)(h:Heap):Prop
 |mk (tl N nm q bs hdct sn sub ab col dd k0 k1 k2 k3 k5 mN:_) (obj:h.get? C=some (excClassObj nm q C N bs tl hdct sn sub ab col dd k0 k1 k2 k3 k5 newId)) (ns:h.Ns N mN) (init:mN "__init__"=none) (tail:OwnTail h bmB tl)
noncomputable def Bh (d:Data):Option { c:ClassData // d=.cls c }:=match d with
 |.cls c=>some ⟨c,rfl⟩|_=>none
def gw (K:Frag)(C:Addr)(b:bN)(newId:String):Bool:=(K.lookup C).any λo=>(Bh o.data).any λc=>
 o.cls==.type "type" && c.1.mro==.ref C::c.1.mro.tail&&o.slots.toList==[o.slots.toList.getD 0 none,o.slots.toList.getD 1 none,o.slots.toList.getD 2 none,o.slots.toList.getD 3 none,some (.builtin newId),o.slots.toList.getD 5 none]
  && c.1.hasDel==false&&PySem.W.tailIn K b c.1.mro.tail&&PySem.W.nsOkIn K c.1.ns&&nsIn K c.1.ns "__init__" == some none
def Xu {K:Frag}{C:Addr}{b:bN}{newId:String}(X:K.In h)(q:gw K C b newId=true):Xt C b newId h:=by
 obtain⟨⟨o,dd,dat,⟨s⟩⟩,H,q⟩:=(any_eq_true _ _).mp q;obtain⟨⟨⟨nm,bs,mro,ns,Q,hd,sn,sub,ab,col,del⟩,i⟩,-,q⟩:=(any_eq_true _ _).mp q;simp only[aj,aI]at q;obtain⟨⟨⟨⟨⟨⟨g,f⟩,d⟩,c⟩,a⟩,e⟩,E⟩:=q;cases i;cases g;cases c;exact⟨mro.tail,ns,nm,Q,bs,hd,sn,sub,ab,col,dd,_,_,_,_,_,_,X _ _ (by rw[H,f,d];rfl),.of_isNs (PySem.W.isNs_of_in X e),PySem.W.nsMap_none_of_in X e E,PySem.W.tail_of_in X a⟩
noncomputable def Kj (x:Str)(M:Ea):Ex:=λρ A=>(M ρ A).bind λ_ A1=>.exc x A1
section
variable {g:Heap}{es:bT}{np:Pos}{C:Addr}{B newId initId:String}{bmB:bN}
def Hm {h':Heap}{e:Addr}{vs:bN}(x:gx X g xr)(I:Inv X pins σ H s)(m:Heap.MadeExcOf s.heap h' e (.ref C) vs):
  Inv X pins σ H { s with heap:=h' }/\wg H h' g e (.ref C):=by
 have N:∀b,s.heap.get? b=none->H b=none:=λb z=>by
  cases q:H b with
  |none=>rfl|some u=>obtain⟨o,k⟩:=(I.hok b u q).obj;rw[z]at k;cases k
 have n:∀b,s.heap.get? b=none->g.get? b=none:=λb z=>by
  cases q:g.get? b with
  |none=>rfl|some o=>obtain⟨o',k⟩:=x.th pins σ H s I b o q;rw[z]at k;cases k
 obtain⟨t,he,a,h⟩:=m.there;refine⟨I.call' (s':={ s with heap:=h' }) (ch:=[]) rfl ⟨λb o q _ _ _=>m.keeps b o q,λb o q _ _ _=>⟨o.slots,m.keeps b o q⟩,λb o q z _=>z,λb o q _=>⟨o,m.keeps b o q⟩,λ_ _ q=>q,λ_ _ _ q=>q,λb ps q=>⟨#[],by rw[Array.append_empty];exact q⟩⟩
  (λb u q=>(I.hok b u q).stay (λc v _ z=>m.keeps c v z) (λ_ z=>z) λ_ _ z=>z) I.bare (λb z=>absurd z (by simp)),?_⟩
 exact⟨n e m.new,N e m.new,_,_,_,he,rfl,rfl,rfl,.inl rfl⟩
def M7 (o:gx X g xr)(f:yI X.K x (.ref C))(ex:gw X.K C bmB newId=true)(FB:ExcBaseFacts B newId initId bmB)(w:SA X xr (e::es) mr)(u:gW mr n)(hn:n<=sizeLine:=by decide)(v:Gl X x:=by rfl)(a:X.calm=true:=by rfl)
  (d:(x==("__debug__":Str))=false:=by decide)(he:starEach (e::es) X.env=(false,eval e X.env)::starEach es X.env:=by rfl)(l:(backTo cpos (starEach es X.env)).any (·.1)=false:=by rfl):
  SS X xr (.Raise (some (.Call (.Name x np) (e::es) [] cpos)) none pos) (Kj x mr):=by
 intro pins s σ H D I ⟨φ,A,ρ,S,re,h⟩;have hm:X.mg x=some (.ref C):=bb I.mod.kin I.mod.glob f;obtain⟨t,N,nm,q,bs,hdct,sn,sub,ab,col,dd,k0,k1,k2,k3,k5,mN,J,z,c,T⟩:=Xu I.mod.kin ex;refine wpAny_Raise_call_subT (C:=C) (nm:=nm) (q:=q) (N:=N) (bs:=bs) (bm:=t) (hdct:=hdct) (sn:=sn) (sub:=sub) (ab:=ab) (col:=col) (dd:=dd) (k0:=k0) (k1:=k1) (k2:=k2) (k3:=k3) (k5:=k5)
  FB (mN:=mN) (T.hasType FB.hasBase) (I.ok.hd a) (by rw[he];show(false || (backTo cpos (starEach es X.env)).any (·.1))=false;rw[l];rfl) c (J2 I v hm ⟨rfl,?_⟩ d)
 have h':=zV.mp h;have j:=w cpos pins s σ H (λvs H1=>vs.length<=sizeLine/\xr x H1) I ⟨φ,A,ρ,S,re,?_⟩
 ·rw[he]at j ⊢
  refine Calls.evalArgs_plain (wpAny_mono j (λus s2 M=>?_) λ_ _ y=>y);obtain⟨vs,Z,i,r,hlen,p⟩:=M;refine⟨rfl,?_,i.bk _ _ J,z.keeps i.bk,T.keeps i.bk,λh3 P m=>?_⟩
  ·rw[<- r.length];exact hlen
  ·obtain⟨Y,L⟩:=Hm o i m
   exact o.out pins σ Z _ P C x Y L f p
 ·cases E:mr ρ A with
  |ok ws A1=>
   rw[E]at h';intro b H1 vs k U Q;refine⟨?_,h' b H1 k U⟩;rw[<- Q.length,u ρ A ws A1 E];exact hn
  |exc y A1=>rw[E]at h';exact h'|bad=>rw[E]at h';exact h'
end
noncomputable def mJ:List Ev->Str->Ev
 |[],acc=>λ_ A=>.ok (.str acc) A|m::ms,acc=>λρ A=>(m ρ A).bind λw A1=>match w with
  |.str y=>if (acc++y).length<=sizeLine then mJ ms (acc++y) ρ A1 else .bad|_=>.bad
section
variable {es:bT}{m:Ev}{ms:List Ev}
inductive SJ (X:Cx)(xr:XR):List Expr->List Ev->Prop where
 |nil:SJ X xr [] []
 |cons {e:Expr} {es:bT} {m:Ev} {ms:List Ev} (h:SE X xr e m) (r:SJ X xr es ms):SJ X xr (e::es) (m::ms)
end
section
variable {A:Around}{e C:Addr}{oe:Obj}{bmB bmD:bN}{newId newD:String}{Q:Bool->Shared->Prop}
def S6 (h:Heap)(C D:Addr):Prop:=∃o cd,h.get? C=some o/\o.data=.cls cd/\cd.mro.contains (.ref D)=true
def Nu (lc:Xt C bmB newId s.heap)(ld:Xt D bmD newD s.heap)(j:bmD.contains (.type "BaseException")=true)(he:s.heap.get? e=some oe)(a:oe.cls=.ref C)(up:S6 s.heap C D)(v:Q true s):
  wpAny M A (excMatches (.ref e) (.ref D)) Q E s:=by
 obtain⟨h,g,d,t,os⟩:=s;obtain⟨l,N,nm,q,bs,hdct,sn,sub,ab,col,dd,k0,k1,k2,k3,k5,mN,k,_,_,_⟩:=lc;obtain⟨T,Y,r,I,x,c,p,S,y,o,w,X,U,P,K,L,u,n,_,_,z⟩:=ld;obtain⟨J,cd,b,hd,hm⟩:=up;rw[k]at b;cases b;have H:(excClassObj nm q C N bs l hdct sn sub ab col dd k0 k1 k2 k3 k5 newId).data=.cls cd:=hd;unfold excClassObj at H;cases H;have B:(Value.ref D::T).contains (.type "BaseException")=true:=by rw[List.contains_cons,z.hasType j,Bool.or_true]
 have i:(Value.ref C::l).contains (.ref D)=true:=hm;have f:=tc_notTuple;unfold excMatches
 repeat (first|(with_reducible refine wpAny_loadPart_at he ?_;rw[a])|with_reducible refine wpAny_loadPart_at n ?_|with_reducible refine wpAny_loadPart_at k ?_|(with_reducible refine wpAny_isSubtype_exc n ?_;rw[B])|(with_reducible refine wpAny_isSubtype_exc k ?_;rw[i])|wp_step)
 exact v
end
section
variable {H0:Hp}{s0:Shared}{ea C:Addr}
def landed {h':Heap}{T:Addr}{a0:Value}(g:Inv X pins σ H0 s0)(I:Inv X pins σ H s)(x:wg H s.heap s0.heap ea (.ref C))(nT:s0.heap.get? T=none)(hT:H T=none)
  (th:∀b o,s0.heap.get? b=some o->∃o',s.heap.get? b=some o')
  (fl:Heap.FlyingW (hideAll s.heap (ea::T::qu X.stack)) X.stack ea (.ref C) a0 h')(us:s.heap.UpToSlots h'):
  Inv X pins σ H { s with heap:=h' }/\wg H h' s0.heap ea (.ref C)/\Tr h' ea/\∀b o,s0.heap.get? b=some o->∃o',h'.get? b=some o':=by
 obtain⟨st,_,ff,oe,vs,t,oT,P,he,⟨A,h0⟩,hd,h1,l,B,D,w,h3⟩:=fl;have ng:s0.heap.get? ea=none:=by cases x;assumption
 have nH:H ea=none:=by cases x;assumption
 have kept:∀b o,s.heap.get? b=some o->b∉qu X.stack->b≠ea->b≠T->h'.get? b=some o:=λb o q n1 j N=>st b o (bF _ q λhm=>by
  rcases cc.mp hm with z|hm
  ·exact j z
  rcases cc.mp hm with z|hm
  ·exact N z
  ·exact n1 hm)
 have slot:∀b o,s.heap.get? b=some o->b∈qu X.stack->∃S,h'.get? b=some { o with slots:=S }:=λb o q hm=>by
  obtain⟨_,o',h,f⟩:=I.stack.mem hm;rw[q]at h;cases h;exact us b o q f
 have off:∀b u,H b=some u->b∉qu X.stack/\b≠ea/\b≠T:=λb u q=>⟨λhm=>(by rw[I.stkFree b hm]at q;cases q),λz=>(by rw[z,nH]at q;cases q),λz=>(by rw[z,hT]at q;cases q)⟩
 have ne:∀b o,s0.heap.get? b=some o->b≠ea/\b≠T:=λb o q=>⟨λz=>(by rw[z,ng]at q;cases q),λz=>(by rw[z,nT]at q;cases q)⟩
 have any:∀b o o',s0.heap.get? b=some o'->s.heap.get? b=some o->∃S,h'.get? b=some { o with slots:=S }:=λb o o' Q q=>by
  by_cases hm:b∈qu X.stack
  ·exact slot b o q hm
  ·exact⟨o.slots,kept b o q hm (ne b o' Q).1 (ne b o' Q).2⟩
 have cell:∀y c,X.env.cells.lookup y=some c->∀v,s.heap.IsCell c v->h'.IsCell c v:=λy c e v ⟨o,L,hd⟩=>by
  obtain⟨_,o0,d,_⟩:=g.cell y c e;obtain⟨S,z⟩:=any c o o0 d L;exact⟨_,z,hd⟩
 have inv:Inv X pins σ H { s with heap:=h' }:=by
  refine⟨I.ok,I.os,I.bare,⟨λb o q n K nx=>?_,λb o q n hf nx=>?_,I.base.free,λb o q nx=>?_,I.base.tups,I.base.frzs,I.base.tbls⟩,?_,λy c e=>?_,I.free,I.freeC,λp hp=>?_,λb u q=>?_,I.len⟩
  ·have a:=I.base.keep b o q n K nx
   have Q:=g.base.keep b o q n K nx;refine kept b o a (λhm=>?_) (ne b o Q).1 (ne b o Q).2;rcases cc.mp (I.stkSub b hm) with z|z
   ·exact absurd (aC (aF q) I.ok.above) (by rw[z];exact aW _)
   ·exact K z
  ·obtain⟨S,a⟩:=I.base.slot b o q n hf nx
   obtain⟨sl0,Q⟩:=g.base.slot b o q n hf nx;obtain⟨E,z⟩:=any b _ _ Q a;exact⟨E,z⟩
  ·obtain⟨J,a⟩:=I.base.there b o q nx
   obtain⟨o0,Q⟩:=g.base.there b o q nx;obtain⟨S,z⟩:=any b J o0 Q a;exact⟨_,z⟩
  ·obtain⟨m,⟨o,es,ep,L,r⟩,k⟩:=I.loc
   obtain⟨_,⟨o0,_,_,d,_⟩,_⟩:=g.loc;obtain⟨S,z⟩:=any _ o o0 d L;refine⟨m,⟨_,es,ep,z,r⟩,λi y v e1 e2 e3=>?_⟩;obtain⟨u,ru,lk⟩:=k i y v e1 e2 e3;refine⟨u,ru,?_⟩;rcases lk with lk|⟨lk,c,ec,M⟩
   ·exact .inl lk
   ·exact .inr ⟨lk,c,ec,cell y c ec _ M⟩
  ·obtain⟨v,hv⟩:=I.cell y c e
   exact⟨v,cell y c e v hv⟩
  ·obtain⟨p1,p2,Y,U,p5⟩:=I.pin p hp
   have Z:=(g.pin p hp).1;refine⟨kept _ _ p1 (λhm=>?_) (ne _ _ Z).1 (ne _ _ Z).2,p2,Y,U,p5⟩;rcases cc.mp (I.stkSub _ hm) with z|z
   ·exact Y z
   ·exact U z
  ·refine(I.hok b u q).stay (λc v M z=>?_) (λ_ z=>z) λ_ _ z=>z
   rcases M with e|e
   ·obtain⟨n1,j,N⟩:=off b u q
    rw[e]at z ⊢;exact kept b v z n1 j N
   ·obtain⟨n1,j,N⟩:=off c _ e
    exact kept c v z n1 j N
 have both:s0.heap.get? t=none/\H t=none:=by
  cases q:s.heap.get? t with
  |some o=>
   by_cases hm:t∈ea::T::qu X.stack
   ·rcases cc.mp hm with z|hm
    ·exact absurd z B
    rcases cc.mp hm with z|hm
    ·rw[z];exact⟨nT,hT⟩
    ·obtain⟨S,z⟩:=slot t o q hm
     obtain⟨_,o',h,f⟩:=I.stack.mem hm;rw[q]at h;cases h;rw[D]at z;cases z;exact absurd w (f P)
   ·rw[bF _ q hm]at l;cases l
  |none=>
   constructor
   ·cases z:s0.heap.get? t with
    |none=>rfl|some o=>obtain⟨o',k⟩:=th t o z;rw[q]at k;cases k
   ·cases z:H t with
    |none=>rfl|some u=>obtain⟨o',k⟩:=(I.hok t u z).obj;rw[q]at k;cases k
 exact⟨inv,⟨ng,nH,oe,vs,a0,he,A,hd,h0,.inr ⟨t,oT,P,h1,B,both.1,both.2,D,w,h3⟩⟩,⟨oe,vs,t,he,hd,h1⟩,λb o q=>by
  obtain⟨J,a⟩:=th b o q;obtain⟨S,z⟩:=any b J o q a;exact⟨_,z⟩⟩
def flying (I:Inv X pins σ H s)(x:wg H s.heap s0.heap ea (.ref C))(r:Tr s.heap ea):
  ∃T A,s0.heap.get? T=none/\H T=none/\Heap.FlyingW (hideAll s.heap (ea::T::qu X.stack)) X.stack ea (.ref C) A s.heap:=by
 obtain⟨w,y,l,vs,A,he,p,hd,h0,d⟩:=x;obtain⟨k,v,z,h,a,c⟩:=r;rw[he]at h;cases h;rw[hd]at a;cases a;rcases d with d|⟨T,n,t,d,i,e,j,hT,f,u⟩
 ·rw[d]at c;cases c
 ·have hn:∀b∈ea::T::qu X.stack,(hideAll s.heap (ea::T::qu X.stack)).get? b=none:=λb g=>hideAll_none _ g
  exact⟨T,A,e,j,λb o q=>of_hideAll _ q,hn ea (az ..),frames_at I.stack λb g=>hn b (ao _ (ao _ g)),
   l,vs,T,n,t,he,⟨p,h0⟩,hd,d,hn T (ao _ (az ..)),i,hT,f,u⟩
end
noncomputable def Yn (o:Obj):HO:=.frz o (.own 0)
noncomputable def QF (K:Frag)(C D:Addr):Bool:=match K.lookup C with
 |some ⟨_,_,.cls cd,_⟩=>cd.mro.contains (.ref D)|_=>false
def D5 {K:Frag}{C:Addr}(X:K.In h)(e:QF K C D=true):S6 h C D:=by
 unfold QF at e
 split at e
 ·rename_i H
  exact⟨_,_,X _ _ H,rfl,e⟩
 ·cases e
section
variable {H0:Hp}{s0:Shared}{ea C L:Addr}
def Jh (i:Inv X pins σ H0 s0)(I:Inv X pins σ H s)(x:wg H s.heap s0.heap ea (.ref C)):∃a,a.cls=.ref C/\H ea=none/\Inv X pins σ (upd H ea (Yn a)) s:=by
 obtain⟨k,d,a,vs,A,he,l,_⟩:=x;refine⟨a,l,d,?_⟩;have ne:∀b o,s0.heap.get? b=some o->b≠ea:=λb o q z=>by rw[z,k]at q;cases q
 have at_:∀b,b≠ea->upd H ea (Yn a) b=H b:=λb n=>by unfold upd;exact ar n
 have N:∀b u,H b=some u->upd H ea (Yn a) b=some u:=λb u q=>by
  rw[at_ b λz=>by rw[z,d]at q;cases q];exact q
 refine⟨I.ok,I.os,I.bare,⟨I.base.keep,I.base.slot,λb o q n nx=>?_,I.base.there,λb xs q=>N _ _ (I.base.tups b xs q),λb o u q=>N _ _ (I.base.frzs b o u q),λb ps q=>?_⟩,I.loc,I.cell,?_,λy c e=>?_,λp f=>?_,λb u q=>?_,I.len⟩
 ·obtain⟨o0,Q⟩:=i.base.there b o q nx
  rw[at_ b (ne b o0 Q)];exact I.base.free b o q n nx
 ·obtain⟨more,z⟩:=I.base.tbls b ps q
  exact⟨more,N _ _ z⟩
 ·obtain⟨m,⟨o0,_,_,h,_⟩,_⟩:=i.loc
  rw[at_ _ (ne _ o0 h)];exact I.free
 ·obtain⟨v,o0,h,_⟩:=i.cell y c e
  rw[at_ _ (ne _ o0 h)];exact I.freeC y c e
 ·obtain⟨j,g,P⟩:=I.pin p f
  refine⟨j,?_,P⟩;rw[at_ _ (ne _ _ (i.pin p f).1)];exact g
 ·by_cases z:b=ea
  ·subst z
   have:u=Yn a:=by
    unfold upd at q;rw[ag rfl]at q;exact(aB q).symm
   subst this;exact⟨he,⟨a,he⟩⟩
  ·rw[at_ b z]at q
   exact(I.hok b u q).stay (λ_ _ _ z=>z) (λc z=>N c _ z) λc xs z=>N c _ z
def Dv (X:Cx)(pins:bP)(σ:St)(s0:Shared)(D:Addr)(k:Addr->Addr->Hp->Prop)(e:Value)(s:Shared):Prop:=
 ∃E C H B n,e=.ref E/\Inv X pins σ H s/\wg H s.heap s0.heap E (.ref C)/\Tr s.heap E/\(∀b o,s0.heap.get? b=some o->∃o',s.heap.get? b=some o')/\Mi.gw X.K C B n=true/\QF X.K C D=true/\∀a,a.cls=.ref C->H E=none->k E C (upd H E (Yn a))
def EI {l n:Str}{p:bN}{newD:String}{S:b8}{B:Stmt}{np hp:Pos}{Q:Flow->Shared->Prop}{k:Addr->Addr->Hp->Prop}
  (I0:Inv X pins σ H0 s0)(t:X.stack=X.env::X.outer)(hL:X.env.frame=some L)(hD:yI X.K l (.ref D))(exD:Mi.gw X.K D p newD=true)(hbD:p.contains (.type "BaseException")=true)
  (hN:X.N.Nodup)(hi:X.N[i]? =some n)(hx:Loc X.env.scope n)
  (y:wpAny (model X.prog X.w) X.A (execs body X.env) (λf s1=>f=.next/\Q .next s1) (Dv X pins σ s0 D k) s0)
  (b:∀E C H s2,Inv X pins (σ.set i (some (.ref E))) H s2->k E C H->∀E',wpAny (model X.prog X.w) (X.A.mark (some (.ref E))) (execs (B::S) X.env)
   (λf s4=>wpAny (model X.prog X.w) X.A (do bindName X.env n .none;unbindBehindTheSuite X.env n hp) (λ_ s5=>Q f s5) X.xe s4) E' s2)
  (hg:Gl X l)(Z:(l==("__debug__":Str))=false:=by decide)(hf:X.fn n=true∨X.env.scope.names.lookup n=some .local:=by first|exact .inl rfl|exact .inr rfl|assumption):
  wpAny (model X.prog X.w) X.A (exec (.Try body [.ExceptHandler (some (.Name l np)) (some n) (B::S) hp] [] [] pos) X.env) Q X.xe s0:=by
 refine wpAny_Try_except (wpAny_mono y (λf s1 ⟨ef,q⟩=>?_) λe s1 h=>?_)
 ·subst ef
  exact wpAny_execs_nil q
 obtain⟨E,C,H,bmC,newC,rfl,I,x,tr,th,exC,up,hk⟩:=h;have hm:X.mg l=some (.ref D):=bb I.mod.kin I.mod.glob hD;obtain⟨T,a0,nT,hT,fl⟩:=flying I x tr;have Y:X.A.frames=some (X.env::X.outer):=by rw[<- t];exact I.ok.frames
 refine wpAny_looks_onW Y hL (by rw[<- t];exact fl) λh₄ g d=>?_
 refine wpAny_landsW g λo a U=>?_;obtain⟨c,x5,r,z⟩:=landed I0 I x nT hT th (by rw[<- t]at a;exact a) (d.trans U)
 obtain⟨_,_,oe,_,_,he,hc,_⟩:=id x5;refine wpAny_handleBy_cons (codeAny_handlers_test (Calls.Name_function_global c.ok.kind hg (Calls.loadGlobal_global (by rw[c.ok.glob];exact c.mod.glob.keeps c.bk) hm ?_) Z)) (by intro q;cases q)
 refine Nu (s:={ s1 with heap:=o }) (Xu c.kIn exC) (Xu c.kIn exD) hbD he hc (D5 c.kIn up) ?_
 refine codeAny_handlers_suite_as ?_;obtain⟨T',a0',M,hT',fl'⟩:=flying c x5 r;refine lands_againW fl' λh₆ j u=>?_;obtain⟨I6,x6,_,_⟩:=landed I0 c x5 M hT' z j u;obtain⟨of,P,J,I7⟩:=Jh I0 I6 x6;exact Q0 (v:=.ref E) I7 hN hi hx rfl (λs7 I7=>b E C _ s7 I7 (hk of P J) _) hf
end
section
variable {A:Around}
def name_goes {n:Str}{Q:Unit->Shared->Prop}(I:Inv X pins σ H s)(hN:X.N.Nodup)(D:X.N[i]? =some n)(Z:X.env.scope.names.lookup n=some .local)
  (h:∀s',Inv X pins (σ.set i none) H s'->Q () s'):wpAny M A (do bindName X.env n .none;unbindBehindTheSuite X.env n pos) Q E s:=by
 obtain⟨m,hn,Y⟩:=id I.loc;have f:i < σ.length:=by rw[I.len];exact(cg.mp D).1
 refine wpAny_nameGoes_keeps Z hn (by rw[I.ok.kind];rfl) λh' v w t=>h _ ?_
 have old:∀b o,b≠X.env.locals->s.heap.get? b=some o->h'.get? b=some o:=λb o n q=>(t.2 b n).trans q;have nl:∀{b:Addr}{u:HO},H b=some u->b≠X.env.locals:=λq z=>by rw[z,I.free]at q;cases q
 have ab:∀{b:Addr}{k:Nat},b<k->k<=X.env.locals->b≠X.env.locals:=λl g=>aK (aC l g);refine⟨I.ok,I.os,I.bare,⟨λb o e z C x=>?_,λb o e z C x=>?_,I.base.free,λb o e x=>?_,I.base.tups,I.base.frzs,I.base.tbls⟩,⟨_,w,λj y K a r e3=>?_⟩,λy c e=>?_,I.free,I.freeC,λp T=>?_,λb u q=>?_,by simpa using I.len⟩
 ·exact old b o (ab (aF e) I.ok.above) (I.base.keep b o e z C x)
 ·obtain⟨S,a⟩:=I.base.slot b o e z C x
  exact⟨S,old b _ (ab (aF e) I.ok.above) a⟩
 ·obtain⟨o',a⟩:=I.base.there b o e x
  exact⟨o',old b _ (ab (aF e) I.ok.above) a⟩
 ·by_cases B:j=i
  ·subst B
   rw[aH f]at r;cases r
  ·rw[aJ (Ne.symm B)]at r
   obtain⟨U,L,q⟩:=Y j y K a r e3;refine⟨U,L,?_⟩;rcases q with ⟨k,e⟩|⟨k,c,e,z⟩
   ·have:y≠n:=λe=>B (Gp hN a (e ▸ D))
    exact .inl ⟨k,by simp[this,e]⟩
   ·exact .inr ⟨k,c,e,z.sameBut t (I.cne y c e)⟩
 ·obtain⟨J,z⟩:=I.cell y c e
  exact⟨J,z.sameBut t (I.cne y c e)⟩
 ·obtain⟨e,z,ne,P,d⟩:=I.pin p T
  exact⟨old _ _ ne e,z,ne,P,d⟩
 ·refine(I.hok b u q).stay (λc v hc z=>old c v ?_ z) (λ_ z=>z) λ_ _ z=>z
  rcases hc with e|e
  ·rw[e];exact nl q
  ·exact nl e
def Np {n y:Str}{E:Addr}{np Y ap p:Pos}{Q:Flow->Shared->Prop}{B:bS}(I:Inv X pins (σ.set i (some (.ref E))) H s)(d:X.N.Nodup)(b:X.N[i]? =some n)(x:X.N[j]? =some y)
  (h:X.env.scope.names.lookup n=some .local)(g:Loc X.env.scope y)(q:∀s',Inv X pins (((σ.set i (some (.ref E))).set j (some (.ref E))).set i none) H s'->Q .next s')
  (o:swapsWith (.Name n np) (some (.Name y Y)) ap.line X.env=pure false)(hf:X.fn y=true∨X.env.scope.names.lookup y=some .local)
  (c:(n==("__debug__":Str))=false:=by decide):
  wpAny (model X.prog X.w) A (execs [.Assign [.Name y Y] (.Name n np) ap] X.env) (λf s4=>wpAny (model X.prog X.w) X.A (do bindName X.env n .none;unbindBehindTheSuite X.env n p) (λ_ s5=>Q f s5) X.xe s4) B s:=by
 obtain⟨m,hn,t⟩:=I.loc;have a:i < σ.length:=by have:=I.len;rw[length_set]at this;rw[this];exact(cg.mp b).1
 obtain⟨u,r,l⟩:=t i n (.ref E) b (aH a) (.inl h);obtain rfl:u=Value.ref E:=r;have hm:m n=some (.ref E):=by
  rcases l with ⟨_,e⟩|⟨k|k,_⟩
  ·exact e
  ·rw[show X.env.kindOf n=some .local from h]at k;cases k
  ·rw[show X.env.kindOf n=some .local from h]at k;cases k
 refine wpAny_execs_cons (wpAny_Assign_Name (wpAny_Name (wpAny_loadName_local I.ok.kind h hn hm ?_) c) o);exact Q0 (v:=.ref E) I d x g rfl (λs5 z=>wpAny_execs_nil (name_goes z d b h q)) hf
end
open PySem PySem.W PySem.Spec PySem.Calls PyProof.Rows Builtin Builtin.ObjectAttr Builtin.Getset_descriptor
section
variable {prog:Program}{A:Around}{K:Frag}{x:Addr}{name:Str}
def Dd {a g:Value}(X:K.In h)(b:findIn K (.ref D) name=some (some a))(hn:specialIn K a "__get__"=some (some g))(H:takesIn K a=some true):Looks M h (find (.ref x) (.ref D) name) (.bind g a):=
 (looks_findIn (M:=M) X b).andThen ((show Looks M h (getOf (some a)) (some g) from looks_specialIn X hn).andThen
  ((show Looks M h (dataDescriptor? (some a) (some g)) (some (g,a)) from (looks_takesIn (M:=M) X H).andThen .now).andThen (Looks.tag .now)))
def He {tp:Value}{R:Result->Shared->Prop}(X:K.In s.heap)(l:Looks (model prog w) s.heap (typeOf (.ref x)) (.ref D))(hm:mroIn K D (.type "object")=some true)(h:R (.ok (.ret (.ref D))) s):
  codeAny (model prog w) A (.call (.builtin "getset_descriptor.__get__") ⟨[.builtin "object.__class__",.ref x,tp],[]⟩) R s:=by
 obtain⟨h0,g,d,t0,o0⟩:=s;have L:=looks_mroIn (M:=model prog w) X hm;have S:=KF.slot_gs;refine codeAny_call_builtin S.plain KF.entry_gs (S.check _ _ _ _ _ _ _ _ KF.type_class (KF.args_gs _ _ _) ?_);unfold «getset_descriptor.__get__» descrGet;rw[dga_obj];refine b9 (cb ?_);unfold descrGetter descrCheckInstance isInstance descrNameAndClass;simp only[KF.owner_class]
 repeat lk
 refine And.intro (Code.quiet_builtin _ (by decide +kernel)) (codeAny_builtin KF.entry_class ?_)
 unfold «object.__class__» shownTypeOf
 repeat lk
 exact h
def Nw {rest:bN}{kw:List (Str×Value)}{Q:Unit->Shared->Prop}(X:K.In s.heap)(l:Looks M s.heap (typeOf (.ref x)) (.ref D))(hm:mroIn K D (.type "BaseException")=some true)
  (ok:argsOk "BaseException.__getattribute__" ⟨.ref x::rest,kw⟩)(h:Q () s):wpAny M A (checkBuiltinCall "BaseException.__getattribute__" ⟨.ref x::rest,kw⟩) Q E s:=by
 have cut:splitId "BaseException.__getattribute__"=some ("BaseException","__getattribute__"):=by first|rfl|decide +kernel
 have kinds:builtinKind "BaseException.__getattribute__"=some .slot∨builtinKind "BaseException.__getattribute__"=some .method:=by
  simp only[builtinKind,cut]
  first|exact .inl (by decide +kernel)|exact .inr (by decide +kernel)
 have L:=looks_mroIn (M:=M) X hm;have r:wpAny M A (match Manifest.signature? "BaseException.__getattribute__" with|some sig=>Bind.checkArgs "BaseException.__getattribute__" sig ⟨.ref x::rest,kw⟩|none=>pure ()) Q E s:=wpAny_of_eq ok h
 rcases kinds with k|k
 all_goals
  unfold checkBuiltinCall;rw[k,cut];dsimp only;unfold isInstance;refine b9 (b9 (l.at (L.at ?_)));exact r
def Ov {Q:Option Value->Shared->Prop}(b:findIn K (.ref D) "__getattribute__"=some (some (.builtin "BaseException.__getattribute__")))(n:findIn K (.ref D) "__getattr__"=some none)
  (e:findIn K (.ref D) "__class__"=some (some (.builtin "object.__class__")))
  (hn:specialIn K (.builtin "object.__class__") "__get__"=some (some (.builtin "getset_descriptor.__get__")))(H:takesIn K (.builtin "object.__class__")=some true)(hm:mroIn K D (.type "object")=some true)(a:mroIn K D (.type "BaseException")=some true)
  (X:K.In s.heap)(L:Looks (model prog w) s.heap (typeOf (.ref x)) (.ref D))(h:Q (some (.ref D)) { s with toks:=s.toks+1 }):wpAny (model prog w) A (getAttr? (.ref x) "__class__") Q E s:=by
 obtain⟨c,g,d,t,os⟩:=s;have l:=looks_findIn (M:=model prog w) X b;have L2:=Dd (M:=model prog w) (x:=x) X e hn H;have f:=looks_findIn (M:=model prog w) X n;unfold getAttr?;unfold getAttrBy?;unfold getAttrBy;refine b9 (wpAny_mkText (b9 (wpAny_attempt (wpAny_holding (b9 (L.at (b9 (l.at ?_))))))));show wpAny _ _ (getAttrByItsOwn (.ref x) (.str "__class__" t) (.ref D) (.builtin "BaseException.__getattribute__") false false) _ _ _;unfold getAttrByItsOwn;refine b9 ?_;show wpAny _ _ (typeLookup (.ref D) "__getattr__") _ _ _;refine f.at (b9 (wpAny_attempt (wpAny_holding ?_)));show wpAny _ _ (bindSpecial (.builtin "BaseException.__getattribute__") (.ref x) >>= _) _ _ _;refine b9 (wpAny_of_eq (F.excAttr_ValueError.ga.bind _) ?_);refine wpAny_call (codeAny_call_builtin F.excAttr_ValueError.ga.plain F.entry_bexc_ga (Nw X L a (F.args_bexc_ga _ _) ?_));unfold «object.__getattribute__»;refine b9 (wpAny_of_eq (show slotArgs "__getattribute__" 1 ⟨[.ref x]++[.str "__class__" t],[]⟩=pure (.ref x,[.str "__class__" t]) from rfl) ?_)
 refine b9 (wpAny_of_eq (show attrName (.str "__class__" t)=pure ("__class__":Str) from rfl) (b9 (L.at (b9 (L2.at ?_)))))
 show wpAny _ _ (holding [Value.builtin "object.__class__"] (call (.builtin "getset_descriptor.__get__") [.builtin "object.__class__",.ref x,.ref D]) >>= ret) _ _ _;refine b9 (wpAny_holding (wpAny_call (He (s:=⟨c,g,d,t+1,os⟩) X L hm ?_)));refine cb ?_;exact handed_on rfl (cb h)
end
def Ks (x D:Addr)(h:Heap):Prop:=∃o,h.get? x=some o/\o.cls=.ref D
def Ks.ty {x:Addr}(p:Ks x D h):Looks M h (typeOf (.ref x)) (.ref D):=by
 obtain⟨o,H,c⟩:=p;rw[<- c];exact(Looks.ld H).andThen .now
def Io {K:Frag}{x:Addr}(d:(clsIn K D).isSome=true)(c:findIn K (.ref D) "__getattribute__"=some (some (.builtin "BaseException.__getattribute__")))(b:findIn K (.ref D) "__getattr__"=some none)(e:findIn K (.ref D) "__class__"=some (some (.builtin "object.__class__")))
  (hn:specialIn K (.builtin "object.__class__") "__get__"=some (some (.builtin "getset_descriptor.__get__")))(H:takesIn K (.builtin "object.__class__")=some true)(hm:mroIn K D (.type "object")=some true)(a:mroIn K D (.type "BaseException")=some true):
  KitX K (.ref x) (.ref D) (Ks x D) where
 ty:=λ_ _ _ p=>p.ty
 it:=λ_ _ X _=>by
  obtain⟨C,h⟩:=Option.isSome_iff_exists.mp d;unfold clsIn at h
  split at h
  ·rename_i g d' f s o
   intro A Q' E s' k q;unfold isType loadHead;exact b9 (wpAny_loadPart (k _ _ (X D _ o)) (cb q))
  ·cases h
 ne:=λ_ tp dd i n S X t=>by
  obtain⟨C,h⟩:=Option.isSome_iff_exists.mp d;rw[Bool.eq_false_iff];intro q;cases Value.ref.inj (aI.mp q);unfold clsIn at h
  split at h
  ·rename_i o
   cases (X _ _ o).symm.trans t
  ·cases h
 ca:=λX p k=>Ov c b e hn H hm a X p.ty k
noncomputable def J9 (K:Frag)(C:Addr):Bool:=(PySem.W.clsIn K C).isSome&&(PySem.W.findIn K (.ref C) "__getattribute__" == some (some (.builtin "BaseException.__getattribute__")))&&(PySem.W.findIn K (.ref C) "__getattr__" == some none)&&(PySem.W.findIn K (.ref C) "__class__" == some (some (.builtin "object.__class__")))&&
 (PySem.W.specialIn K (.builtin "object.__class__") "__get__" == some (some (.builtin "getset_descriptor.__get__")))&&(PySem.W.takesIn K (.builtin "object.__class__")==some true)&&(PySem.W.mroIn K C (.type "object")==some true)&&(PySem.W.mroIn K C (.type "BaseException")==some true)
section
variable {A:Around}{c:Value}{b:Bool}{ea C:Addr}
def Dg {o:Obj}{u:HO}(I:Inv X pins σ H s)(e:H ea=some (.frz o u))(d:o.cls=.ref C)(k:J9 X.K C=true)(q:kitOne X.K (.ref C) c=some b)(h:∀tk,Q (.bool b) { s with toks:=tk }):
  wpAny (model X.prog X.w) A (call (.builtin "isinstance") [.ref ea,c]) Q E s:=by
 have p:Ks ea C s.heap:=⟨o,(show jb X.prog X.w H s.heap ea (.frz o u) from I.hok ea _ e).1,d⟩
 unfold J9 at k;simp only[aj,aI]at k;obtain⟨⟨⟨⟨⟨⟨⟨k1,k2⟩,a⟩,k3⟩,i⟩,k5⟩,g⟩,f⟩:=k;exact bB (Io k1 k2 a k3 i k5 g f) I.kIn p q (λz=>nomatch z) h
def Et (I:Inv X pins σ H s)(q:kitOne X.K (.type "NoneType") c=some b)(h:∀tk,Q (.bool b) { s with toks:=tk }):wpAny (model X.prog X.w) A (call (.builtin "isinstance") [.none,c]) Q E s:=
 UA I (x:=.non) rfl .non q h
end
def gX (P:Program)(w:World)(K:Frag)(mg:bV)(base:Heap)(N:bR)(qual:Str)(scope:Scope)(f:Addr)(cd:Value)(cl:bX)(A:Around)(outer:bW)(s:Shared)(H:Hp)(E:XK):Cx where
 prog:=P
 w:=w
 K:=K
 mg:=mg
 base:=base
 A:=A.deeper (envX qual scope s.heap.objs.size f cd cl)
 N:=N
 s0:=s
 H0:=H
 env:=envX qual scope s.heap.objs.size f cd cl
 outer:=outer
 stack:=envX qual scope s.heap.objs.size f cd cl::outer
 ex:=[]
 calm:=true
 fn:=λ_=>false
 pn:=[]
 xe:=λe s'=>wpAny (model P w) (A.deeper (envX qual scope s.heap.objs.size f cd cl)) (leaving (envX qual scope s.heap.objs.size f cd cl) e) (λ_ S=>wW P w outer H s E e S) (λa S=>wW P w outer H s E a S) s'
section
variable {K:Frag}{cd:Value}{cl:bX}{A:Around}{outer:bW}{E:XK}
def NW {h:Hp}{a C:Addr}(I:Inv (gX P w K mg base N qual scope f cd cl A outer s H E) pins σ h s')(x:wg h s'.heap s.heap a (.ref C))(p:E (.ref C) none h):
  (gX P w K mg base N qual scope f cd cl A outer s H E).xe (.ref a) s':=by
 have bs:Un (qu outer) [] H h s.heap s'.heap:=I.base;have stk:∀b∈qu (envX qual scope s.heap.objs.size f cd cl::outer),h b=none:=I.stkFree;have k:s.heap.get? s.heap.objs.size=none:=Heap.get?_none_of_le (au _);have g:(envX qual scope s.heap.objs.size f cd cl).frame=some s.heap.objs.size:=rfl;have mem:∀b,b∈qu (envX qual scope s.heap.objs.size f cd cl::outer)↔b=s.heap.objs.size∨b∈qu outer:=λb=>by
  unfold qu;rw[bp,g];exact mem_cons
 show wpAny (model P w) (A.deeper (envX qual scope s.heap.objs.size f cd cl)) (leaving (envX qual scope s.heap.objs.size f cd cl) (.ref a)) _ _ s';refine Sr (base:=base) (L:=s.heap.objs.size) I.ok.frames rfl I.stack x (λb u e=>(I.hok b u e).obj) (λb o e=>bs.there b o e (by simp)) λh' k1 k2 X t=>?_
 have r:∀b u,h b=some u->b∉qu (envX qual scope s.heap.objs.size f cd cl::outer):=λb u e hm=>by rw[stk b hm]at e;cases e
 refine⟨a,C,h,rfl,I.os,I.bare,⟨λb o e n nb _=>?_,λb o e n mb _=>?_,λb o e n d=>bs.free b o e n d,λb o e d=>?_,bs.tups,bs.frzs,bs.tbls⟩,λb u e=>?_,X,t,p⟩
 ·have i:b≠s.heap.objs.size:=λz=>by rw[z,k]at e;cases e
  exact k1 b o (bs.keep b o e n nb (by simp)) (λhm=>(mem b).mp hm |>.elim i nb) (.inl ⟨o,e⟩)
 ·obtain⟨l,q⟩:=bs.slot b o e n mb (by simp)
  obtain⟨S,Q⟩:=k2 b _ q ((mem b).mpr (.inr mb));exact⟨S,Q⟩
 ·obtain⟨o',q⟩:=bs.there b o e d
  by_cases hm:b∈qu (envX qual scope s.heap.objs.size f cd cl::outer)
  ·obtain⟨l,z⟩:=k2 b o' q hm;exact⟨_,z⟩
  ·exact⟨o',k1 b o' q hm (.inl ⟨o,e⟩)⟩
 ·refine(I.hok b u e).stay (λc v j q=>?_) (λ_ q=>q) λ_ _ q=>q
  rcases j with z|z
  ·rw[z]at q ⊢;exact k1 b v q (r b u e) (.inr ⟨u,e⟩)
  ·exact k1 c v q (r c _ z) (.inr ⟨_,z⟩)
def Cp:gx (gX P w K mg base N qual scope f cd cl A outer s H E) s.heap (gC K E) where
 th:=λpins σ h s' I b o e=>(show Un (qu outer) [] H h s.heap s'.heap from I.base).there b o e (by simp)
 out:=λpins σ h s' d C x I l c a=>NW I l (a C c)
structure Gm (N:bR)(sc:Scope):Prop where
 kind:sc.kind=.function
 co:sc.isCoroutine=false
 gen:sc.isGenerator=false
 nocell:∀y∈sc.names,y.2≠.cell
structure Y6 (base:Heap)(N:bR)(scope:Scope)(cl:bX)(vs:List V):Prop where
 len:vs.length=N.length
 inj:∀x y c,cl.lookup x=some c->cl.lookup y=some c->x=y
 has:∀x,scope.names.lookup x=some .free->∃c,cl.lookup x=some c
 cell:∀x c,cl.lookup x=some c->∃v,base.IsCell c v
 val:∀(i:Nat)(x:Str)(v:V),N[i]? =some x->vs[i]? =some v->∃c u,scope.names.lookup x=some .free/\cl.lookup x=some c/\base.IsCell c (some u)/\RelV v u
def HE {l:Heap}{tk:Tok}(S:Gm N scope)(hd:A.handled=none)(g:Js P w K mg base A outer s H)(C:Y6 base N scope cl vs)(t:∃m,l.Ns s.heap.objs.size m)(x:∀b o,s.heap.get? b=some o->l.get? b=some o):
  Inv (gX P w K mg base N qual scope f cd cl A outer s H E) [] (L2.start N vs) H { s with heap:=l,toks:=tk }:=by
 have n:∀b:Addr,b∉(gX P w K mg base N qual scope f cd cl A outer s H E).ex:=λb z=>absurd (show b∈([]:bO) from z) (by simp)
 have bk:∀c v,base.IsCell c v->l.IsCell c v/\H c=none:=λc v ⟨o,B,hd⟩=>⟨⟨o,x _ _ (g.bs _ _ B).1,hd⟩,(g.bs _ _ B).2⟩;obtain⟨m,hm⟩:=t;refine⟨⟨g.mod,S.kind,rfl,rfl,au _,C.inj,λy j=>?_,λy c z _=>(nomatch z),λ_=>hd,Around.frames_deeper g.frames,.inr ⟨rfl,rfl⟩,λb z=>absurd z (n b),g.bs,g.bsz,λb _ _=>n b,λb z=>absurd z (n b),g.funs,g.frf⟩,
  rfl,g.bare,Un.kept x,⟨m,hm,λi y v l d J=>?_⟩,λy c h=>?_,g.hok.fresh (au _),λy c h=>?_,λp D=>absurd (show p∈([]:bP) from D) (by simp),g.hok.kept x,?_⟩
 ·have j:scope.names.lookup y=some .cell∨scope.names.lookup y=some .free:=j
  rcases j with j|j
  ·exact absurd rfl (S.nocell _ (PySem.mem_of_lookup j))
  ·exact C.has y j
 ·have q:i<vs.length:=by
   unfold L2.start at d
   by_cases q:i<vs.length
   ·exact q
   ·rw[av (by simpa using q)]at d
    rw[bw]at d
    split at d<;>cases d
  have I:vs[i]? =some v:=by
   unfold L2.start at d;rw[ai (by simpa using q),aw]at d
   cases e:vs[i]? with
   |none=>rw[e]at d;cases d|some a=>rw[e]at d;cases d;rfl
  obtain⟨c,u,k,e,z,r⟩:=C.val i y v l I;exact⟨u,r,.inr ⟨.inr k,c,e,(bk _ _ z).1⟩⟩
 ·obtain⟨v,z⟩:=C.cell y c h
  exact⟨v,(bk _ _ z).1⟩
 ·obtain⟨v,z⟩:=C.cell y c h
  exact(bk _ _ z).2
 ·unfold L2.start
  show _=N.length;rw[aD,ah,bC,C.len];omega
def Ra (o:Obj)(q:Str):Prop:=∃vs t,o.data=.fields vs/\vs[1]? =some (.str q t)
def FK {name:Str}{params:Arguments}{body:Expr}{pm ctv:Value}{i:Obj}{u uc:HO}{m:Ev}(S:Gm N scope)(C:Y6 base N scope cl vs)(p:Ra i qual)
  (g:∀(A:Around)(outer:bW)(s:Shared)(H:Hp)(E:XK),jD k (A.deeper (envX qual scope s.heap.objs.size a (.ref c) cl))->gx (gX P w K mg base N qual scope a (.ref c) cl A outer s H E) s.heap (gC K E)->
   SE (gX P w K mg base N qual scope a (.ref c) cl A outer s H E) (gC K E) body m):
  yv P w K mg base (wW P w) (k+1) a (kla_fn name qual params body scope cl pm (.ref c) ctv) [] (λus H Q E=>us=[]/\H a=some (.frz (kla_obj name qual params body scope cl pm c ctv) u)/\H c=some (.frz i uc)/\
   ∃φ A ws,zE K φ A H/\zw K φ H ws vs/\(m (ws.map some) A).post (PB K φ H Q) (EB K φ H (gC K E))):=by
 refine⟨λus H Q E h=>by rw[h.1];rfl,λA outer s H args us D Q E n l hb r h=>?_⟩
 obtain⟨rfl,h1,h2,φ,A1,ws,Sm,B,Y⟩:=h;cases r;have Z:s.heap.get? a=some (kla_obj name qual params body scope cl pm c ctv):=(show jb P w H s.heap a (.frz _ u) from l.hok a _ h1).1
 have hc:s.heap.get? c=some i:=(show jb P w H s.heap c (.frz i uc) from l.hok c _ h2).1
 have lim:s.heap.NoLimit:=l.mod.nolimit.keeps λb o e=>(l.bs b o e).1;obtain⟨L,T,z,hd2⟩:=p;refine PySem.W.kla_callFunE n.depth Z rfl S.co S.gen rfl ⟨c,i,L,T,rfl,hc,z,hd2⟩ (hb _ _ _ _ ?_);refine wpAny_newFunctionEnv S.nocell (λy U=>absurd (show y∈([]:List (Str×Value)) from U) (by simp)) (λd t j=>⟨lim.fresh _ j,?_⟩) S.kind
 show codeAny _ _ (.expr body (envX qual scope s.heap.objs.size a (.ref c) cl)) _ _;have f:∀b o,s.heap.get? b=some o->d.get? b=some o:=λb o e=>j.extBut b o (aK (aF e)) (af _ e);have I:∀tk,Inv (gX P w K mg base N qual scope a (.ref c) cl A outer s H E) [] (L2.start N vs) H { s with heap:=d,toks:=tk }:=λtk=>HE S n.hd l C ⟨_,t⟩ f
 refine PySem.W.kla_codeExpr (wpAny_mono (g A outer s H E (n.deeper _) Cp [] _ (L2.start N vs) H Q (I _) ⟨φ,A1,_,Sm,RE.start (N:=N) B,?_⟩) (λv s' X=>?_) λ_ _ y=>y)
 ·have:N.length-ws.length=0:=by rw[B.length,C.len];omega
  rw[this,List.replicate_zero,bg];exact Y
 ·obtain⟨x,H',J,M,q⟩:=X
  exact⟨x,H',J.os,J.bare,J.base,J.hok,M,q⟩
end
inductive DE (K:Frag)(a:Addr)(ob:Obj)(u:HO)(c:Addr)(oc:Obj)(uc:HO)(vs:List V)(g:Fn)(us:List V)(H:Hp)(Q:VK)(E:XK):Prop
 |mk (e:us=[]) (h1:H a=some (.frz ob u)) (h2:H c=some (.frz oc uc)) (φ:bO) (A:Hx) (ws:List W) (S:zE K φ A H) (r:zw K φ H ws vs) (q:(g ws A).post (PB K φ H Q) (EB K φ H (gC K E)))
def Qy (P:Program)(w:World)(K:Frag)(mg:bV)(base:Heap)(j:Nat)(p:Obj->Addr->Obj->List V->Prop)(g:Fn):Prop:=
 ∀a ob u c o uc vs,p ob c o vs->(∃fd,ob.data=.func fd)/\∃fd,yv P w K mg base (wW P w) j a fd [] (DE K a ob u c o uc vs g)/\∀s,BindsTo s fd ⟨[],[]⟩ []
open Classical in
noncomputable def K0 (i:Nat)(PG:Nat->Obj->Addr->Obj->List V->Prop)(lam:Nat->Fn):Ev:=λρ A=>match ρ[i]? with
 |some (some (.clo k ws P))=>if P=PG k then lam k ws A else .bad|_=>.bad
def Ym (i j l:Nat)(cs:bR)(PG:Nat->Obj->Addr->Obj->List V->Prop)(lam:Nat->Fn):Ex:=λρ A=>match K0 i PG lam ρ A with
 |.ok _ A1=>.ok (.nx ρ) A1|.exc x A1=>if cs.contains x then .ok (.nx (((ρ.set l (some (.xc x))).set j (some (.xc x))).set l none)) A1 else .bad|.bad=>.bad
section
variable {K:Frag}
def RE.unset (r:RE K φ H ρ σ):RE K φ H (ρ.set i none) (σ.set i none):=
 ⟨by simp[r.len],λj u e=>by
  by_cases h:i=j
  ·subst h
   have a:i < ρ.length:=by
    have:=(cg.mp e).1
    simpa using this
   rw[aH a]at e;cases e
  ·rw[aJ h]at e
   obtain⟨x,c,b⟩:=r.get j u e;exact⟨x,by rw[aJ h];exact c,b⟩⟩
end
def R3 (K:Frag)(φ:bO)(H:Hp)(ρ:En)(j l:Nat)(D:Ends)(x:Str)(A:Hx):Prop:=∀a h b,Le K φ H a h->zE K a A h->RE K a h (((ρ.set l (some (.xc x))).set j (some (.xc x))).set l none) b->D.nx b h
inductive Bv (K:Frag)(φ:bO)(H:Hp)(ρ:En)(j l:Nat)(D0:Ends)(ea C:Addr)(H':Hp):Prop
 |mk (xn:Str) (φ':bO) (A':Hx) (le:Le K φ H φ' H') (S:zE K φ' A' H') (rv:RV K φ' H' (.xc xn) (.ref ea)) (n:R3 K φ H ρ j l D0 xn A')
inductive C0 (K:Frag)(φ:bO)(H:Hp)(ρ:En)(j l:Nat)(D0:Ends)(cs:bR)(Cv:Value)(d:bZ)(H1:Hp):Prop
 |mk (xn:Str) (Ca:Addr) (e:Cv=.ref Ca) (hC:yI K xn (.ref Ca)) (hc:cs.contains xn=true) (φ1:bO) (A1:Hx) (le:Le K φ H φ1 H1) (S:zE K φ1 A1 H1) (n:R3 K φ H ρ j l D0 xn A1)
def R5 (K:Frag)(f:Str->Option Bool)(cv:V):List V->Hp->VK->Prop:=λxs H Q=>∃x,xs=[x,cv]/\((x=.non/\Q (.bl false) H)∨∃a o u C nm b,x=.ref a/\H a=some (.frz o u)/\o.cls=.ref C/\yI K nm (.ref C)/\f nm=some b/\Q (.bl b) H)
structure Yg (K:Frag)(f:Str->Option Bool)(c:Value):Prop where
 non:kitOne K (.type "NoneType") c=some false
 exc:∀nm C b,f nm=some b->yI K nm (.ref C)->J9 K C=true/\kitOne K (.ref C) c=some b
def qQ (f:Str->Option Bool)(m:Ev):Ev:=λρ A=>(m ρ A).bind λw A1=>match w with
 |.non=>.ok (.bl false) A1|.xc nm=>(match f nm with
  |some b=>.ok (.bl b) A1|none=>.bad)
 |_=>.bad
section
variable {m:Ev}{f:Str->Option Bool}
def Ta {cv:V}{c:Value}(g:Yg X.K f c)(rc:∀u,RelV cv u->u=c):jQ X (.builtin "isinstance") (R5 X.K f cv):=by
 intro pins s σ H xs us Q I r h;obtain⟨x,rfl,h⟩:=h;obtain⟨u,n,rfl,e,d⟩:=vals2 r;cases rc _ d;rcases h with ⟨rfl,q⟩|⟨a,o,U,C,nm,b,rfl,l,k,j,i,q⟩
 ·cases (show u=Value.none from e)
  exact Et I g.non λtk=>⟨.bl false,H,I.tok tk,rfl,q⟩
 ·cases (show u=Value.ref a from e)
  obtain⟨k1,k2⟩:=g.exc nm C b i j;exact Dg I l k k1 k2 λtk=>⟨.bl b,H,I.tok tk,rfl,q⟩
def qQ.read {cv:V}{t:TE}(i:∀σ H Q,Q cv H->t σ H Q):∀σ H Q,tM X.K xr (qQ f m) σ H Q->Wg (R5 X.K f cv) (Ku (tM X.K xr m) (Ku t XD)) σ H Q:=by
 rintro σ H Q ⟨φ,A,ρ,S,re,h⟩
 refine tM.go S re (zV.mp h) λw A1 d H1 v c l s q=>?_;refine i σ H1 _ ?_;cases w with
 |non=>
  obtain rfl:=q;exact⟨.non,rfl,.inl ⟨rfl,c d H1 _ l s rfl⟩⟩
 |xc nm=>
  dsimp only at c;cases e:f nm with
  |none=>rw[e]at c;exact c.elim|some b=>
   rw[e]at c;obtain⟨a,o,u,C,rfl,g,Z,z⟩:=q;exact⟨.ref a,rfl,.inr ⟨a,o,u,C,nm,b,rfl,g,Z,z,e,c d H1 _ l s rfl⟩⟩
 |bl _=>exact c.elim|int _=>exact c.elim|str _=>exact c.elim|tup _=>exact c.elim|ref _=>exact c.elim|clo _ _ _=>exact c.elim
end
def Om {a b:Int}{c cv:Value}(l:bN)(h:TriplesOk l)(e:codeAmong pos (l++[rawInt a,rawInt b,c])=some cv):codeAmong pos l=some cv∨cv=c:=by
 fun_induction TriplesOk l with
 |case1=>
  right
  simp only[nil_append,codeAmong,rawInt]at e
  split at e
  ·exact(aB e).symm
  ·cases e
 |case2 A t B u x rest i=>
  simp only[List.cons_append,codeAmong]at e ⊢
  split at e
  ·rename_i H;rw[ag H];exact .inl e
  ·rename_i H;rw[ar H];exact i h e
 |case3 l f d=>exact h.elim
def BMain (mg:bV)(base:Heap):Prop:=∃bm o,mg "__builtins__"=some (.ref bm)/\bm≠builtinsNs/\bm≠mainGlobals/\base.get? bm=some o/\o.cls=.type "module" /\ o.dict=some builtinsNs/\o.data=.plain
noncomputable def K8 (q:Str)(params:Arguments)(body:Expr)(scope:Scope)(C:bX):Obj->Addr->Obj->List V->Prop:=λob c o _=>(∃pm ctv,ob=kla_obj "<lambda>" q params body scope C pm c ctv)/\Ra o q
noncomputable def wm (n:Nat)(q:Str)(P:Addr)(k:Nat)(PF:Obj->Addr->Obj->List V->Prop):Ev:=λ_ A=>match A[n]? with
 |some (.tab Q P')=>if Q=q/\P'=P then .ok (.clo k [] PF) A else .bad|_=>.bad
section
variable {q:Str}{P:Addr}{params:Arguments}{body:Expr}{clos:bX}
def Df (hB:BMain X.mg X.base)(y:X.env.code=.ref c)(C:CodeHd X.base c P)(hcl:closureFor scope X.env=pure clos)(hq:X.env.qual ++ "<lambda>"=q)(hdef:defaultsOf params X.env=([],[]):=by rfl):
  SE X xr (.Lambda params body scope pos) (wm n q P k (K8 q params body scope clos)):=by
 intro pins s σ H Q I ⟨φ,A,ρ,S,re,h⟩;unfold wm at h;cases Z:A[n]? with
 |none=>rw[Z]at h;exact h.elim|some o=>
  rw[Z]at h;cases o with
  |tab L P'=>
   dsimp only at h
   by_cases hc:L=q/\P'=P
   ·rw[ag hc]at h
    obtain⟨rfl,rfl⟩:=hc;obtain⟨a,ha,eaP,ps,t,Y⟩:=S.ob n _ Z;subst eaP;have hP:s.heap.get? a=some (tabObj ps):=(show jb X.prog X.w H s.heap a (.tbl ps) from I.hok a _ t)
    have hg:s.heap.Ns mainGlobals X.mg:=I.mod.glob.keeps I.bk;have hgP:mainGlobals≠a:=λz=>by
     obtain⟨o,es,ep,e,hd,_⟩:=hg;rw[z,hP]at e;cases e;cases hd
    have r:s.heap.BuiltinsAt X.mg a:=by
     obtain⟨bm,o,b1,b2,b3,b4,b5⟩:=hB;refine⟨bm,o,b1,b2,b3,λz=>?_,I.bk _ _ b4,b5⟩
     have:=(I.bs _ _ b4).2
     rw[z,t]at this;cases this
    refine PySem.W.kla_eval hdef ?_;rw[hq];have M:∀b,s.heap.objs.size<=b->H b=none:=λb r=>I.hok.fresh r;cases hf:codeAmong pos ps.toList with
    |none=>
     refine PySem.W.kla_makeFunction (mg:=X.mg) hcl I.ok.glob hg y (C.keeps I.bk) hP Y.1 hf hgP r λf ctv h' tk hx x U hrec htb=>?_;obtain⟨c2,g,vc,tc,ec,hoc,D,hd2⟩:=hrec;cases ec;generalize j:kla_obj "<lambda>" L params body scope clos ((X.mg "__name__").getD .none) f ctv=ob;have hPc:a<s.heap.objs.size:=aF hP;have nPc:a≠f:=aK (aC hPc x);have nPf:a≠h'.objs.size:=aK (lt_trans (aC hPc x) U);have T:f≠h'.objs.size:=aK U;have hsf:s.heap.objs.size<=h'.objs.size:=aQ x (bt U);have E:H f=none:=M f x;have l:H h'.objs.size=none:=M _ hsf;have H1f:upd H f (.frz g (.own 0)) h'.objs.size=none:=by rw[qc (Ne.symm T)];exact l
     generalize B:ps++#[rawInt pos.line,rawInt pos.col,.ref f]=p at htb;have S1:=S.lay (u:=.frz g (.own 0)) E;have S2:=S1.lay (u:=.frz ob (.own 0)) H1f;have fz:∀b o u,upd (upd H f (.frz g (.own 0))) h'.objs.size (.frz ob (.own 0)) b=some (.frz o u)->upd (upd (upd H f (.frz g (.own 0))) h'.objs.size (.frz ob (.own 0))) a (.tbl p) b=some (.frz o u):=λb o u e=>by
      rw[qc];exact e;intro z;rw[z,qc nPf,qc nPc,t]at e;cases e
     have fz0:∀b o u,H b=some (.frz o u)->upd (upd H f (.frz g (.own 0))) h'.objs.size (.frz ob (.own 0)) b=some (.frz o u):=λb o u e=>by
      rw[qc (kv e l),qc (kv e E)];exact e
     have tg':Yt (upd (upd (upd H f (.frz g (.own 0))) h'.objs.size (.frz ob (.own 0))) a (.tbl p)) L p:=by
      rw[<- B];refine⟨by rw[toList_append];exact TriplesOk_snoc _ _ _ _ Y.1,λpos' cv e=>?_⟩
      rw[toList_append]at e;rcases Om _ Y.1 e with e|e
      ·obtain⟨c0,oc0,u0,vs0,t0,g1,g2,g3⟩:=Y.2 pos' cv e
       exact⟨c0,oc0,u0,vs0,t0,g1,by rw[B];exact fz _ _ _ (fz0 _ _ _ g2),g3⟩
      ·exact⟨f,g,.own 0,vc,tc,e,by rw[B];exact fz _ _ _ (by rw[qc T,jI]),D,hd2⟩
     obtain⟨l3,S3⟩:=S2.write (o:=.tab L a) (o':=.tab L a) Z rfl rfl ha (u:=.tbl p) ⟨rfl,p,jI,tg'⟩;have l03:Le X.K φ H φ _:=((Le.new E).trans (Le.new H1f)).trans l3;have set3:A.set n (.tab L a)=A:=by
      apply ext_getElem?
      intro i
      by_cases hi:n=i
      ·subst hi
       rw[aH (cg.mp Z).1,Z]
      ·rw[aJ hi]
     rw[set3]at S3;have eP:upd (upd (upd H f (.frz g (.own 0))) h'.objs.size (.frz ob (.own 0))) a (.tbl p) a=some (.tbl p):=jI;have ec:upd (upd (upd H f (.frz g (.own 0))) h'.objs.size (.frz ob (.own 0))) a (.tbl p) f=some (.frz g (.own 0)):=by rw[qc (Ne.symm nPc),qc T,jI]
     have ef:upd (upd (upd H f (.frz g (.own 0))) h'.objs.size (.frz ob (.own 0))) a (.tbl p) h'.objs.size=some (.frz ob (.own 0)):=by rw[qc (Ne.symm nPf),jI]
     have J:∀b,b≠a->b≠f->b≠h'.objs.size->upd (upd (upd H f (.frz g (.own 0))) h'.objs.size (.frz ob (.own 0))) a (.tbl p) b=H b:=λb n1 n2 n3=>by rw[qc n1,qc n3,qc n2]
     generalize upd (upd (upd H f (.frz g (.own 0))) h'.objs.size (.frz ob (.own 0))) a (.tbl p)=H3 at S3 l03 eP ec ef J;have kp:∀b o,b≠a->s.heap.get? b=some o->(h'.push ob).get? b=some o:=λb o n e=>af _ (hx b o n e);have old:∀b o,s.heap.get? b=some o->b≠f/\b≠h'.objs.size:=λb o e=>⟨aK (aC (aF e) x),aK (aC (aF e) hsf)⟩;have N:∀b u,H b=some u->b≠f/\b≠h'.objs.size:=λb u e=>⟨kv e E,kv e l⟩;have gP:(h'.push ob).get? a=some (tabObj p):=af _ htb;have I3:Inv X pins σ H3 { s with heap:=h'.push ob,toks:=tk }:=by
      refine I.un ⟨λb o e z r _=>?_,λb o e z r _=>?_,λb o e z _=>?_,λb o e _=>?_,λb xs e=>?_,λb o u e=>?_,λb qs e=>?_⟩ λb u e=>?_
      ·exact kp b o (λw=>by rw[w,t]at z;cases z) e
      ·exact⟨o.slots,kp b o (λw=>by rw[w,t]at z;cases z) e⟩
      ·rw[J b (λw=>by rw[w,t]at z;cases z) (old b o e).1 (old b o e).2];exact z
      ·by_cases r:b=a
       ·rw[r];exact⟨_,gP⟩
       ·exact⟨o,kp b o r e⟩
      ·rw[J b (Yj e t (by intro w;cases w)) (N b _ e).1 (N b _ e).2];exact e
      ·rw[J b (Yj e t (by intro w;cases w)) (N b _ e).1 (N b _ e).2];exact e
      ·by_cases r:b=a
       ·subst r
        rw[t]at e;cases e;exact⟨_,by rw[eP,<- B]⟩
       ·exact⟨#[],by rw[J b r (N b _ e).1 (N b _ e).2,e];simp⟩
      ·by_cases h1:b=a
       ·subst h1
        rw[eP]at e;cases e;exact gP
       ·by_cases h2:b=f
        ·subst h2
         rw[ec]at e;cases e;exact⟨af _ hoc,⟨_,af _ hoc⟩⟩
        ·by_cases h3:b=h'.objs.size
         ·subst h3
          rw[ef]at e;cases e;exact⟨aq _ (by rw[<- j];rfl),⟨_,aq _ (by rw[<- j];rfl)⟩⟩
         ·rw[J b h1 h2 h3]at e
          refine(I.hok b u e).stay (λd v hd z=>kp d v ?_ z) (λd z=>?_) λd xs z=>?_
          ·rcases hd with w|w
           ·rw[w];exact h1
           ·exact Yj w t (by intro w;cases w)
          ·rw[J d (Yj z t (by intro w;cases w)) (N d _ z).1 (N d _ z).2];exact z
          ·rw[J d (Yj z t (by intro w;cases w)) (N d _ z).1 (N d _ z).2];exact z
     exact⟨.ref h'.objs.size,H3,I3,rfl,h φ H3 _ l03 S3 ⟨h'.objs.size,ob,.own 0,f,g,.own 0,[],rfl,ef,ec,⟨⟨_,_,j.symm⟩,vc,tc,D,hd2⟩,rfl⟩⟩
    |some cv=>
     obtain⟨f,g,u0,vc,tc,rfl,hHc,D,hd2⟩:=Y.2 pos cv hf;refine PySem.W.kla_makeFunctionHit (mg:=X.mg) hcl I.ok.glob hg y (C.keeps I.bk) hP Y.1 hf r λctv h' tk hx hsz=>?_;generalize j:({ cls:=.type "function",data:=.func (kla_fn "<lambda>" L params body scope clos ((X.mg "__name__").getD .none) (.ref f) ctv) }:Obj)=ob;have l:H h'.objs.size=none:=M _ hsz;have I3:Inv X pins σ (upd H h'.objs.size (.frz ob (.own 0))) { s with heap:=h'.push ob,toks:=tk }:=
      I.laid (λb o e=>af _ (hx b o e)) hsz ⟨aq _ (by rw[<- j];rfl),⟨_,aq _ (by rw[<- j];rfl)⟩⟩
     refine⟨.ref h'.objs.size,_,I3,rfl,h φ _ _ (Le.new l) (S.lay l) ⟨h'.objs.size,ob,.own 0,f,g,u0,[],rfl,jI,?_,⟨⟨_,_,j.symm⟩,vc,tc,D,hd2⟩,rfl⟩⟩;rw[qc (kv hHc l)];exact hHc
   ·rw[ar hc]at h;exact h.elim
  |_=>exact h.elim
end
structure Lm where
 N:bR
 idx:bQ
 params:Arguments
 body:Expr
 scope:Scope
 m:Ev
noncomputable def gQ:List Nat->En->Option (List W)
 |[],_=>some []|j::J,ρ=>match ρ[j]?,gQ J ρ with
  |some (some w),some ws=>some (w::ws)|_,_=>none
noncomputable def Zn:List Nat->St->Option (List V)
 |[],_=>some []|j::J,σ=>match σ[j]?,Zn J σ with
  |some (some w),some ws=>some (w::ws)|_,_=>none
theorem UP {K:Frag}(r:RE K φ H ρ σ):∀{J:bQ}{ws:List W},gQ J ρ=some ws->∃vs,Zn J σ=some vs/\zw K φ H ws vs
 |[],ws,e=>by cases e;exact⟨[],rfl,.nil⟩|j::J,ws,e=>by
  unfold gQ at e;cases E:ρ[j]? with
  |none=>rw[E]at e;cases e|some o=>cases o with
   |none=>rw[E]at e;cases e|some w=>
    rw[E]at e;cases a:gQ J ρ with
    |none=>rw[a]at e;cases e|some b=>
     rw[a]at e;cases e;obtain⟨v,f,d⟩:=r.get j w E;obtain⟨vs,c,h⟩:=UP r a;exact⟨v::vs,by unfold Zn;rw[f,c],.cons d h⟩
theorem UY:∀{J:bQ}{vs:List V},Zn J σ=some vs->vs.length=J.length/\∀(i:Nat)(v:V),vs[i]? =some v->∃j,J[i]? =some j/\σ[j]? =some (some v)
 |[],vs,e=>by cases e;exact⟨rfl,λi v h=>by simp at h⟩|j::J,vs,e=>by
  unfold Zn at e;cases E:σ[j]? with
  |none=>rw[E]at e;cases e|some o=>cases o with
   |none=>rw[E]at e;cases e|some w=>
    rw[E]at e;cases r:Zn J σ with
    |none=>rw[r]at e;cases e|some c=>
     rw[r]at e;cases e;obtain⟨f,H⟩:=UY r;refine⟨by simp[f],λi v h=>?_⟩
     cases i with
     |zero=>simp at h;subst h;exact⟨j,by simp,E⟩|succ i=>simp at h;obtain⟨d,a,b⟩:=H i v h;exact⟨d,by simpa using a,b⟩
noncomputable def yL (ls:List Lm)(k:Nat):Fn:=λws A=>match ls[k]? with
 |some t=>t.m (ws.map some) A|none=>.bad
def wB (env:Env)(q:Str)(ls:List Lm)(k:Nat):Obj->Addr->Obj->List V->Prop:=λob c o vs=>∃t,ls[k]? =some t/\K8 q t.params t.body t.scope (yV env t.scope.names []) ob c o vs
def JB (env:Env)(q:Str)(ls:List Lm)(σ:St)(k:Nat):Obj->Addr->Obj->List V->Prop:=λob c o vs=>∃t,ls[k]? =some t/\K8 q t.params t.body t.scope (yV env t.scope.names []) ob c o vs/\Zn t.idx σ=some vs
structure QH (P:Program)(w:World)(K:Frag)(mg:bV)(j:Nat)(q:Str)(t:Lm):Prop where
 sc:Gm t.N t.scope
 bind:∀(cl:bX)(pm cdv ctv:Value),bindArgs (kla_fn "<lambda>" q t.params t.body t.scope cl pm cdv ctv) ⟨[],[]⟩=pure []
 body:∀(base:Heap)(cl:bX)(a c:Addr)(A:Around)(outer:bW)(s:Shared)(H:Hp)(E:XK),jD j (A.deeper (envX q t.scope s.heap.objs.size a (.ref c) cl))->gx (gX P w K mg base t.N q t.scope a (.ref c) cl A outer s H E) s.heap (gC K E)->
  SE (gX P w K mg base t.N q t.scope a (.ref c) cl A outer s H E) (gC K E) t.body t.m
section
variable {K:Frag}{q:Str}{ls:List Lm}
def Ep (l:∀t∈ls,QH P w K mg j q t)(f:∀t∈ls,∀vs,Zn t.idx σ=some vs->Y6 base t.N t.scope (yV env t.scope.names []) vs)(k:Nat):Qy P w K mg base (j+1) (JB env q ls σ k) (yL ls k):=by
 rintro a ob u c o uc vs ⟨t,d,⟨⟨pm,ctv,rfl⟩,b⟩,v⟩
 have mt:t∈ls:=bE d;have L:=l t mt;refine⟨⟨_,rfl⟩,_,((FK (name := "<lambda>") (params:=t.params) (body:=t.body) (pm:=pm) (ctv:=ctv) (a:=a) (c:=c) (u:=u) (uc:=uc) (m:=t.m) L.sc (f t mt vs v) b λA outer s H E e x=>L.body base _ a c A outer s H E e x)).imp λus H Q E h=>?_,λs=>.of_eq (L.bind _ _ _ _)⟩;obtain⟨n,i,g,φ,A,ws,S,r,h⟩:=h;refine⟨n,i,g,φ,A,ws,S,r,?_⟩;unfold yL at h;rw[d]at h;exact h
end
noncomputable abbrev jy:=Nat->Obj->Addr->Obj->List V->Prop
open Classical in
noncomputable def Z2 (PG:jy)(RF:Nat->List W->Hx->R W):Fn:=λus A=>match us with
 |[.clo k ws P]=>if P=PG k then RF k ws A else .bad|_=>.bad
open Classical in
structure Jo (X:Cx)(t:Lm):Prop where
 len:t.idx.length=t.N.length
 nm:∀(i:Nat)(x:Str)(j:Nat),t.N[i]? =some x->t.idx[i]? =some j->X.N[j]? =some x/\t.scope.names.lookup x=some .free
 free:∀y∈t.scope.names,y.2=.free->X.env.kindOf y.1=some .cell∨X.env.kindOf y.1=some .free
section
def Y5 (I:Inv X pins σ H s){t:Lm}(L:Jo X t)(h:(yV X.env t.scope.names []).lookup x=some c):X.env.cells.lookup x=some c:=by
 rcases Qe _ _ (PySem.mem_of_lookup h) with z|⟨z,e⟩
 ·cases z
 ·obtain⟨C,a⟩:=I.ok.has x (L.free _ z rfl)
  rw[a]at e ⊢;exact congrArg some e.symm
def Lr (I:Inv X pins σ H s)(g:∀x c v,X.env.cells.lookup x=some c->s.heap.IsCell c v->base.IsCell c v){t:Lm}(L:Jo X t)(n:Zn t.idx σ=some vs):Y6 base t.N t.scope (yV X.env t.scope.names []) vs:=by
 obtain⟨v1,v2⟩:=UY n;refine⟨v1.trans L.len,λx y c d b=>I.ok.inj x y c (Y5 I L d) (Y5 I L b),λx h=>?_,λx c h=>?_,λi x v d b=>?_⟩
 ·exact Option.isSome_iff_exists.mp (YU _ _ (.inl (PySem.mem_of_lookup h)))
 ·have e:=Y5 I L h
  obtain⟨v,z⟩:=I.cell x c e;exact⟨v,g x c v e z⟩
 ·obtain⟨j,w,q⟩:=v2 i v b
  obtain⟨p,E⟩:=L.nm i x j d w;have fr:=L.free _ (PySem.mem_of_lookup E) rfl;obtain⟨m,hn,o⟩:=I.loc;obtain⟨u,r,lk⟩:=o j x v p q (.inr fr);obtain⟨c,f⟩:=Option.isSome_iff_exists.mp (YU (env:=X.env) t.scope.names [] (.inl (PySem.mem_of_lookup E)));have l:=Y5 I L f;rcases lk with ⟨z,_⟩|⟨_,C,a,cell⟩
  ·exfalso
   rcases fr with k|k<;>(rw[k]at z;cases z)
  ·rw[l]at a
   cases a;exact⟨c,u,E,f,g x c _ l cell,r⟩
def IM (I:Inv X pins σ H s)(h:∀x,X.fn x=true)(e:X.env.cells.lookup x=some c):c∉qu X.stack:=λhm=>by
 rcases cc.mp (I.stkSub c hm) with z|z
 ·exact I.cne x c e z
 ·obtain⟨_,o,a,_⟩:=I.ok.funs.mem z
  exact absurd (aC (aF a) (I.ok.cab x c (h x) e)) (aW _)
noncomputable def gK (base h:Heap)(cells:bX):Heap:=hideAll h ((List.range h.objs.size).filter λb=>(base.get? b).isNone&&!(cells.any λp=>cells.lookup p.1==some b))
def Ti {o:Obj}(e:(gK base h cells).get? b=some o):h.get? b=some o/\((∃o',base.get? b=some o')∨∃x,cells.lookup x=some b):=by
 have E:=of_hideAll _ e;refine⟨E,?_⟩
 by_cases hm:b∈(List.range h.objs.size).filter λb=>(base.get? b).isNone&&!(cells.any λp=>cells.lookup p.1==some b)
 ·unfold gK at e
  rw[hideAll_none _ hm]at e;cases e
 ·rw[mem_filter]at hm
  have c:b∈List.range h.objs.size:=ck.mpr (aF E);cases g:base.get? b with
  |some o'=>exact .inl ⟨o',rfl⟩|none=>
   right
   by_cases H:(cells.any λp=>cells.lookup p.1==some b)=true
   ·obtain⟨p,_,a⟩:=List.any_eq_true.mp H
    exact⟨p.1,aI.mp a⟩
   ·exact absurd ⟨c,by rw[g];simpa using H⟩ hm
def NB (k:∀b o,base.get? b=some o->h.get? b=some o){o:Obj}(e:base.get? b=some o):(gK base h cells).get? b=some o:=
 bF _ (k b o e) λhm=>by
  rw[mem_filter,e]at hm;simp at hm
def Nk {o:Obj}(l:cells.lookup x=some c)(e:h.get? c=some o):(gK base h cells).get? c=some o:=
 bF _ e λhm=>by
  rw[mem_filter,aj,br]at hm
  have:=hm.2.2
  rw[List.any_eq_false]at this;exact this _ (PySem.mem_of_lookup l) (by simpa using l)
end
def NM {K:Frag}{mb:bV}{Y:Addr}{sp:Sp}{S:Shared}{vs:bN}
  (KX:K.In S.heap)(y:S.heap.Ns mainGlobals mg)(c:S.heap.Ns builtinsNs mb)(T:∀x:Str,x ≠ "__name__" -> mb x=bootBuiltins x)(A:S.heap.NoLimit)(hg:S.gens=#[])
  (p:S.heap.get? a=some { cls:=.type "list",data:=.seq vs.toArray })(hi:IntsAre vs ns)(hl:ns.length<=sizeLine)(hr:jD k callerA)
  (t:S.heap.get? Pt=some (tabObj #[]))(U:K.lookup Pt=none)(M:isCodeTable S.heap Pt)(Q:BMain mg S.heap)
  (F:∀base:Heap,K.In base->base.Ns mainGlobals mg->BMain mg base->yv P w K mg base w6 k Y fd [x] sp)(l:∀(s:Shared)(u:Value),BindsTo s fd ⟨[u],[]⟩ [(x,u)])
  (I:∀H:Hp,H Pt=some (.tbl #[])->JE K H a (ns.map V.int)->sp [.ref a] H (λv _=>v=.bl true) λ_ _ _=>False):
  codeAny (model P w) callerA (.call (.ref Y) ⟨[.ref a],[]⟩) (λr s'=>r=.ok (.ret (.bool true))/\OldK S.heap s'.heap/\s'.os=S.os/\AllBare s'.gens) S:=by
 have rv:=JP hi;have L:=hi.length;have j:a≠Pt:=λz=>by rw[z,t]at p;cases p
 have core:∀H:Hp,H Pt=some (.tbl #[])->JE K H a (ns.map V.int)->j0 P w H S.heap->(∀b,H b≠none->b=a∨b=Pt)->(∀u,H a=some u->K.lookup a=none/\∃o xs,u=.frz o (.lst xs))->
   codeAny (model P w) callerA (.call (.ref Y) ⟨[.ref a],[]⟩) (λr s'=>r=.ok (.ret (.bool true))/\OldK S.heap s'.heap/\s'.os=S.os/\AllBare s'.gens) S:=by
  intro H hO hS hok D hK;have base_of:∀{b:Addr}{o:Obj},S.heap.get? b=some o->H b=none->(gO S.heap H).get? b=some o:=λe n=>Lu e n;have E:∀{b:Addr}{o:Obj}{es:Array DictEntry}{ep:Nat},S.heap.get? b=some o->o.data=.dict es ep->H b=none:=λ {b o es ep} e d=>by
   cases q:H b with
   |none=>rfl|some u=>
    rcases D b (by rw[q];simp) with z|z
    ·subst z
     rw[p]at e;cases e;have d':Data.seq vs.toArray _=Data.dict es ep:=d;cases d'
    ·subst z
     rw[t]at e;cases e;cases d
  have N:∀{b:Addr}{m:bV},S.heap.Ns b m->(gO S.heap H).Ns b m:=λ {b m} ⟨o,es,ep,e,d,r⟩=>⟨o,es,ep,base_of e (E e d),d,r⟩;have B:K.In (gO S.heap H):=λb o e=>base_of (KX b o e) (by
   cases q:H b with
   |none=>rfl|some u=>
    rcases D b (by rw[q];simp) with z|z
    ·subst z
     rw[(hK u q).1]at e;cases e
    ·subst z
     rw[U]at e;cases e)
  have X:BMain mg (gO S.heap H):=by
   obtain⟨bm,o,b1,b2,b3,C,b5,b6,b7⟩:=Q;refine⟨bm,o,b1,b2,b3,base_of C ?_,b5,b6,b7⟩;cases q:H bm with
   |none=>rfl|some u=>
    rcases D bm (by rw[q];simp) with z|z
    ·subst z
     rw[p]at C;cases C;exact absurd b5 (by intro q;injection q with q;exact absurd q (by decide))
    ·subst z
     rw[t]at C;cases C;cases b5
  have hM:Mod K mg (gO S.heap H):=⟨B,N y,⟨mb,N c,T⟩,let ⟨mc,h1,h2⟩:=A;⟨mc,N h1,h2⟩⟩
  have e0:Js P w K mg (gO S.heap H) callerA [] S H:=⟨rfl,hM,λb o e=>Fp e,Nat.le_of_eq (Ma _ _),trivial,λb c=>absurd (show b∈([]:bO) from c) (by simp),hok,.of_eq hg⟩
  refine codeAny_mono ((F _ B (N y) X).run callerA [] S H ⟨[.ref a],[]⟩ [.ref a] [.ref a] _ _ hr e0 (l S (.ref a)) (.cons rfl .nil) (I H hO hS)) λr s' h=>?_;cases r with
  |error e=>exact False.elim h|ok fl=>
   cases fl with
   |next=>exact False.elim h|brk=>exact False.elim h|cont=>exact False.elim h|ret u=>
    obtain⟨v,H',os,bare,un,g,r',q⟩:=h;have q':v=.bl true:=q;subst q';obtain rfl:u=Value.bool true:=r';refine⟨rfl,⟨λb o e=>?_,λb o e=>un.there b o e (by simp)⟩,os,bare⟩
    cases q:H b with
    |none=>exact .inl (un.keep b o e q (by intro z;exact absurd (show b∈([]:bO) from z) (by simp)) (by simp))|some u=>
     rcases D b (by rw[q];simp) with z|z
     ·subst z
      obtain⟨ob,xs,rfl⟩:=(hK u q).2;have i:=un.frzs _ ob _ q;obtain⟨e1,_⟩:=hok _ _ q;obtain⟨e2,_⟩:=g _ _ i;rw[e]at e1;cases e1;exact .inl e2
     ·subst z
      rw[t]at e;cases e;obtain⟨more,i⟩:=un.tbls _ _ hO;exact .inr (.inl ⟨M,rfl,#[],more,rfl,g _ _ i⟩)
 cases J:K.lookup a with
 |some o=>
  have e:=KX a o J;rw[p]at e;cases e;refine core (λb=>if b=Pt then some (.tbl #[]) else none) (ag rfl) (.inr ⟨_,vs.toArray,_,J,rfl,rfl,rfl,by rw[aE,L];exact hl,by simpa using rv⟩) (λb u z=>?_) (λb z=>?_) λu z=>?_
  ·by_cases c:b=Pt
   ·have Z:=(ag c).symm.trans z
    cases Z;rw[c];exact t
   ·have Z:=(ar c).symm.trans z
    cases Z
  ·by_cases c:b=Pt
   ·exact .inr c
   ·exact absurd (ar c) z
  ·have Z:=(ar j).symm.trans z
   cases Z
 |none=>
  refine core (λb=>if b=Pt then some (.tbl #[]) else if b=a then some (.frz { cls:=.type "list",data:=.seq vs.toArray } (.lst (ns.map V.int))) else none) (ag rfl)
   (.inl ⟨{ cls:=.type "list",data:=.seq vs.toArray },(ar j).trans (ag rfl)⟩) (λb u z=>?_) (λb z=>?_) λu z=>?_
  ·by_cases c:b=Pt
   ·have Z:=(ag c).symm.trans z
    cases Z;rw[c];exact t
   ·have Z:=(ar c).symm.trans z
    by_cases f:b=a
    ·have i:=(ag f).symm.trans Z
     cases i;subst f;exact⟨p,by rw[ah];exact hl,vs,_,rv,p⟩
    ·have i:=(ar f).symm.trans Z
     cases i
  ·by_cases c:b=Pt
   ·exact .inr c
   ·by_cases f:b=a
    ·exact .inl f
    ·exact absurd ((ar c).trans (ar f)) z
  ·have Z:=((ar j).trans (ag rfl)).symm.trans z
   cases Z;exact⟨J,_,_,rfl⟩
inductive spT (K:Frag)(n:Nat)(fs:jy->Fn)(vs:List V)(H:Hp)(Q:VK)(E:XK):Prop
 |mk (len:vs.length=n) (φ:bO) (A:Hx) (ws:List W) (S:zE K φ A H) (r:zw K φ H ws vs) (q:∀PF,(fs PF ws A).post (PB K φ H Q) (EB K φ H (XE K E)))
def spT.len {K:Frag}{fs:jy->Fn}{Q:VK}{E:XK}(h:spT K n fs vs H Q E):vs.length=n:=by cases h;assumption
def SR (q:Str)(fs:Addr->jy->Fn):Prop:=∀ns:bM,ns.length<=63->∀P PF,∃A,fs P PF [.ref 0] [.ro (ns.map W.int),.tab q P]=.ok (.bl true) A
def Nz {K:Frag}{q:Str}(P:H Pt=some (.tbl #[]))(S:JE K H a (ns.map V.int)):zE K [a,Pt] [.ro (ns.map W.int),.tab q Pt] H:=by
 refine⟨rfl,λi j b o o' g f d c m1 m2=>?_,λn o h=>?_⟩
 ·match i,j,d,c with
  |0,_,d,_=>simp at d;subst d;cases m1|_,0,_,c=>simp at c;subst c;cases m2|1,1,_,_=>rfl|i+2,_,d,_=>simp at d|_,j+2,_,c=>simp at c
 ·match n,h with
  |0,h=>simp at h;subst h;exact⟨a,rfl,ns.map V.int,S,zw.ints.mpr rfl⟩|1,h=>simp at h;subst h;exact⟨Pt,rfl,rfl,#[],P,trivial,λpos cv e=>nomatch e⟩
  |n+2,h=>simp at h
section
variable {K:Frag}
def Ir {a:Value}{o:bZ}(hn:nsIn K mainGlobals x=some (some (.ref f)))(lk:K.lookup f=some ⟨a,o,.func fd,osl⟩)(h:tabIn K x=some (c,Pt)):fd.code=.ref c:=by
 unfold tabIn at h;rw[hn]at h;dsimp only at h;rw[lk]at h;dsimp only at h
 split at h
 ·rename_i C H
  split at h
  ·split at h
   ·cases h;exact H
   ·cases h
  ·cases h
 ·cases h
end
noncomputable def GZ (K:Frag)(x:Str)(p:Addr):Bool:=match tabIn K x with
 |some (c,P)=>P==p&&codeHdIn K c p|none=>false
def UL {K:Frag}(h:GZ K x Pt=true):∃c,tabIn K x=some (c,Pt)/\codeHdIn K c Pt=true:=by
 unfold GZ at h
 split at h
 ·rename_i c P e
  rw[aj,aI]at h;obtain⟨rfl,H⟩:=h;exact⟨c,e,H⟩
 ·cases h
def DX {l:PySem.W.OpenLaw}{q:Program}{loose:bR}{I:World->Heap->Prop}{d:DefRec}{Kp:Params->Frag}{Q:Str}{fs:Addr->jy->Fn}(ok:SR Q fs)
  (hn:l.most=some 63)(y:d.params.defaults=[])(X:jD k callerA)(hY:∀(w:World)(h:Heap),I w h->(Kp w.params).In h)(hT:∀(w:World)(h:Heap),I w h->h.get? Pt=some (tabObj #[]))(L:∀p,GZ (Kp p) d.name Pt=true)(P:∀p,(Kp p).lookup Pt=none)
  (F:∀(w:World)(mg:bV)(i:Addr)(h:Heap),(Kp w.params).In h->h.Ns mainGlobals mg->mg d.name=some (.ref i)->(∃c,tabIn (Kp w.params) d.name=some (c,Pt)/\codeHdIn (Kp w.params) c Pt=true)->
   ∃fd:FuncData,(∀(s:Shared)(u:Value),BindsTo s fd ⟨[u],[]⟩ [(x,u)])/\∀base:Heap,(Kp w.params).In base->base.Ns mainGlobals mg->BMain mg base->yv l.prog w (Kp w.params) mg base w6 k i fd [x] (spT (Kp w.params) 1 (fs Pt))):
  PySem.W.WalkO q loose XP I l.row.toRowW d [] (λf vs=>PySem.call f vs):=by
 refine Att.O0 (n:=63) hn y λw J S mg mb i o pm cd doc a vs ns G Y ho hd M t j hints hlen Z=>?_;have K:=hY w _ Y;obtain⟨fd,hb,hF⟩:=F w mg i _ K G.T.g t (UL (L w.params));obtain⟨c,_,B⟩:=UL (L w.params);have N:=hT w _ Y;have hc:isCodeTable S.heap Pt:=((codeHd_of_K K B).tab N).isCodeTable;have C:BMain mg S.heap:=by
  obtain⟨bm,ob,b1,b2,E,b4,b5,D⟩:=G.T.bmain;refine⟨bm,ob,b1,b2,λz=>?_,E,b4,b5,D⟩;obtain⟨o,es,ep,e,hd,_⟩:=G.T.g;rw[z,e]at E;cases E;rw[hd]at D;cases D
 refine NM K G.T.g G.T.b G.T.builtins G.T.nolimit Z j hints (aQ hlen (by decide)) X N (P w.params) hc C hF hb λH h1 h2=>?_
 refine⟨rfl,[a,Pt],[.ro (ns.map W.int),.tab Q Pt],[.ref 0],Nz h1 h2,.one ⟨a,rfl,rfl⟩,λPF=>?_⟩;obtain⟨A,e⟩:=ok ns hlen Pt PF;rw[e];exactλU H' v _ _ r=>r
def kX.m {K:Frag}{f:Fn}(F:kX P w K mg base k x n f):zX P w K mg base k x n λws A=>(f ws A).nox:=by
 obtain⟨i,fd,ps,F,hm,c,d⟩:=F;have up:∀vs H Q E,YB K n (λws A=>(f ws A).nox) vs H Q E->Wr K n f vs H Q (λ_ _ _=>False):=λvs H Q E ⟨l,φ,A,ws,S,r,h⟩=>⟨l,φ,A,ws,S,r,by
  cases a:f ws A with
  |ok u A1=>(try dsimp only at h);rw[a]at h;exact h|exc y A1=>(try dsimp only at h);rw[a]at h;exact h.elim|bad=>(try dsimp only at h);rw[a]at h;exact h.elim⟩
 refine⟨i,fd,ps,⟨λvs H Q E h=>F.len vs H Q _ (up vs H Q E h),λA outer s H args us vs Q E b he t v h=>?_⟩,hm,c,d⟩;refine codeAny_mono (F.run A outer s H args us vs Q _ b he t v (up vs H Q E h)) λr s' h'=>?_;cases r with
 |error e=>
  unfold CR at h';obtain⟨_,_,_,_,_,_,_,_,_,_,z⟩:=h';exact z.elim
 |ok g=>cases g<;>exact h'
theorem kX.mono {K:Frag}{f:Fn}(F:kX P w K mg base j x n f)(h:j<=k):kX P w K mg base k x n f:=by cases F with|mk d fd ps F a b c=>exact⟨d,fd,ps,F.mono h,a,b,c⟩
noncomputable abbrev Wo:bN:=[.type "ValueError",.type "Exception",.type "BaseException",.type "object"]
noncomputable abbrev K4:String := "ValueError.__new__"
section
variable {K:Frag}{cs:bR}{top nm:Str}
noncomputable def clsAt (K:Frag)(x:Str):Addr:=match nsIn K mainGlobals x with
 |some (some (.ref C))=>C|_=>0
def isAt (K:Frag)(x:Str):Bool:=nsIn K mainGlobals x==some (some (.ref (clsAt K x)))
def jc (cs:bR)(x:Str):Str->Option Bool:=λnm=>if cs.contains nm then some (nm==x) else none
def X4 (cs:bR):Str->Option Bool:=λnm=>if cs.contains nm then some true else none
def ZU (K:Frag)(cs:bR)(x:Str):Bool:=isAt K x&&kitOne K (.type "NoneType") (.ref (clsAt K x))==some false&&cs.all λnm=>kitOne K (.ref (clsAt K nm)) (.ref (clsAt K x))==some (nm==x)
def Kk (K:Frag)(top nm:Str):Bool:=isAt K nm&&J9 K (clsAt K nm)&&Mi.gw K (clsAt K nm) Wo K4&&QF K (clsAt K nm) (clsAt K top)&&kitOne K (.ref (clsAt K nm)) (.type "ValueError")==some true
def Xl (K:Frag)(top:Str):Bool:=isAt K top&&Mi.gw K (clsAt K top) Wo K4&&kitOne K (.type "NoneType") (.type "ValueError")==some false
def GS (h:isAt K x=true):yI K x (.ref (clsAt K x)):=aI.mp h
def Gn {C:Addr}(h:yI K x (.ref C)):C=clsAt K x:=by
 unfold clsAt;unfold yI at h;rw[h]
structure Gv (K:Frag)(top nm:Str):Prop where
 at_:yI K nm (.ref (clsAt K nm))
 kit:J9 K (clsAt K nm)=true
 exc:Mi.gw K (clsAt K nm) Wo K4=true
 up:QF K (clsAt K nm) (clsAt K top)=true
 val:kitOne K (.ref (clsAt K nm)) (.type "ValueError")=some true
def Dw (h:Kk K top nm=true):Gv K top nm:=by
 unfold Kk at h;simp only[aj,aI]at h;obtain⟨⟨⟨⟨d,c⟩,b⟩,a⟩,H⟩:=h;exact⟨GS d,c,b,a,H⟩
structure kW (K:Frag)(cs:bR)(top:Str):Prop where
 exc:∀nm,cs.contains nm=true->Gv K top nm
 top_at:yI K top (.ref (clsAt K top))
 top_exc:Mi.gw K (clsAt K top) Wo K4=true
 non:kitOne K (.type "NoneType") (.type "ValueError")=some false
def F3 (h:cs.all (Kk K top ·)=true)(t:Xl K top=true):kW K cs top:=by
 unfold Xl at t;simp only[aj,aI]at t;obtain⟨⟨t1,T⟩,t3⟩:=t;exact⟨λnm e=>Dw (cm.mp h nm (List.contains_iff_mem.mp e)),GS t1,T,t3⟩
def kW.isx (c:kW K cs top)(h:ZU K cs x=true):Yg K (jc cs x) (.ref (clsAt K x)):=by
 unfold ZU at h;simp only[aj,aI]at h;obtain⟨⟨f,d⟩,a⟩:=h;refine⟨d,λnm C b e H=>?_⟩;unfold jc at e
 by_cases hm:cs.contains nm=true
 ·rw[ag hm]at e
  cases e;cases Gn H;exact⟨(c.exc nm hm).kit,aI.mp (cm.mp a nm (List.contains_iff_mem.mp hm))⟩
 ·rw[ar hm]at e;cases e
def kC (h:ZU K cs x=true):yI K x (.ref (clsAt K x)):=by
 unfold ZU at h;simp only[aj,aI]at h;exact GS h.1.1
def kW.isv (c:kW K cs top):Yg K (X4 cs) (.type "ValueError"):=by
 refine⟨c.non,λnm C b e h=>?_⟩;unfold X4 at e
 by_cases hm:cs.contains nm=true
 ·rw[ag hm]at e
  cases e;cases Gn h;exact⟨(c.exc nm hm).kit,(c.exc nm hm).val⟩
 ·rw[ar hm]at e;cases e
def kW.under (c:kW K cs top):∀nm,cs.contains nm=true->∀C,yI K nm (.ref C)->∃b n,Mi.gw K C b n=true/\QF K C (clsAt K top)=true:=λnm hm C h=>by
 cases Gn h;exact⟨_,_,(c.exc nm hm).exc,(c.exc nm hm).up⟩
end
noncomputable def KA (M:bR)(sc:Scope)(t:Lm):Bool:=t.idx.length==t.N.length&&((List.range t.N.length).all λi=>match t.N[i]?,t.idx[i]? with
 |some x,some j=>M[j]?==some x&&t.scope.names.lookup x==some .free|_,_=>false)&&t.scope.names.all λy=>!(y.2==.free) || (sc.names.lookup y.1==some .cell || sc.names.lookup y.1==some .free)
def TQ {t:Lm}(h:KA X.N X.env.scope t=true):Jo X t:=by
 unfold KA at h;rw[aj,aj]at h;obtain⟨⟨d,c⟩,b⟩:=h;refine⟨aI.mp d,λi x j E f=>?_,λy H e=>?_⟩
 ·have a:i<t.N.length:=(cg.mp E).1
  have q:=cm.mp c i (ck.mpr a);rw[E,f]at q;dsimp only at q;rw[aj]at q;exact⟨aI.mp q.1,aI.mp q.2⟩
 ·have q:=cm.mp b y H
  rw[e]at q;rw[bH,bH]at q;rcases q with q|q|q
  ·cases q
  ·exact .inl (aI.mp q)
  ·exact .inr (aI.mp q)
def all_nil {p:α->Prop}:∀t∈([]:List α),p t:=λ_ h=>nomatch h
def all_cons {p:α->Prop}{a:α}{l:List α}(h:p a)(r:∀t∈l,p t):∀t∈a::l,p t:=λt H=>by
 rcases cc.mp H with e|e
 ·rw[e];exact h
 ·exact r t e
def FZ {q:Str}{ls:List Lm}{t:Lm}(H:ls[k]? =some t):wB env q ls k=K8 q t.params t.body t.scope (yV env t.scope.names []):=by
 funext ob c o vs
 refine propext ⟨λ⟨t',e,h⟩=>?_,λh=>⟨t,H,h⟩⟩;rw[H]at e;cases e;exact h
noncomputable def Ja:Stmt:=.Pass ⟨0,0,0,0⟩
noncomputable def Qz:Expr:=.Constant .none 0 ⟨0,0,0,0⟩
def Wc (s:Stmt)(i:Nat):Stmt:=match s with
 |.For _ _ b _ _=>b.getD i Ja|.If _ b _ _=>b.getD i Ja|.While _ b _ _=>b.getD i Ja|_=>Ja
def RZ (e:Expr)(i:Nat):Expr:=match e with
 |.Call _ a _ _=>a.getD i Qz|.List E _=>E.getD i Qz|.Tuple E _ _=>E.getD i Qz|.BinOp a _ b _=>if i=0 then a else b|_=>Qz
noncomputable def Be (e:Expr):Arguments:=match e with
 |.Lambda a _ _ _=>a|_=>{ posonlyargs:=[],args:=[],vararg:=none,kwonlyargs:=[],kw_defaults:=[],kwarg:=none,defaults:=[] }
def CS (e:Expr):Expr:=match e with
 |.Lambda _ b _ _=>b|_=>Qz
noncomputable def Bl (e:Expr):Scope:=match e with
 |.Lambda _ _ s _=>s|_=>{ kind:=.function,names:=[],isGenerator:=false,isCoroutine:=false }
def KS (e:Expr)(N:bR)(idx:bQ)(m:Ev):Lm:=⟨N,idx,Be e,CS e,Bl e,m⟩
def DQ {K:Frag}{st:Stmt}(F:kY K x x st f fd)(hm:mg x=some (.ref f))
  (b:∀(kV doc pm:Value)(an:bZ)(c ct:Value)(us:bN),us.length=ps.length->bindArgs (fnOf x x (ZN st) (kL st) (qC st) .none kV doc pm an c ct) ⟨us,[]⟩=pure (ps.zip us)):zX P w K mg base k x ps.length (λ_ _=>.bad):=
 ⟨f,fd,ps,⟨λvs H Q E h=>h.1,λA outer s H args us vs Q E _ _ _ _ h=>by obtain⟨_,_,_,_,_,_,z⟩:=h;exact z.elim⟩,hm,F.kp,F.binds b⟩
def IW {K:Frag}(t a b:Ty):kitAny K (.type t.nm) [.type a.nm,.type b.nm]=some (yx t a || yx t b):=by
 unfold kitAny;rw[Kd];cases yx t a with
 |true=>rfl|false=>
  dsimp only;unfold kitAny;rw[Kd];cases yx t b<;>rfl
section
variable {a b:Expr}{m ma mb:Ev}
def QN.kitx {x:V}{t:Ty}(I:Inv X pins σ H s)(r:RelV x u)(h:QN X.K H x t):∃d:Heap->Prop,PySem.W.KitX X.K u (.type t.nm) d/\d s.heap/\u≠.builtin "__main__.__loader__#opaque":=by
 rcases h with h|⟨a,xs,rfl,h,rfl⟩
 ·generalize hT:Value.type t.nm=T at h
  cases h with
  |non=>cases (show u=Value.none from r);exact⟨_,kitx_none,True.intro,λz=>nomatch z⟩
  |bl y=>cases (show u=Value.bool y from r);exact⟨_,kitx_bool,True.intro,λz=>nomatch z⟩
  |int i=>obtain⟨t,q⟩:=(show ∃t,u=Value.int i t from r);cases q;exact⟨_,kitx_int,True.intro,λz=>nomatch z⟩
  |str y=>obtain⟨t,q⟩:=(show ∃t,u=Value.str y t from r);cases q;exact⟨_,kitx_str,True.intro,λz=>nomatch z⟩
  |flt y=>obtain⟨t,q⟩:=(show ∃t,u=Value.float y t from r);cases q;exact⟨_,kitx_float,True.intro,λz=>nomatch z⟩
  |@lst a xs ea=>
   cases (show u=Value.ref a from r)
   obtain⟨_,_,n,_,b⟩:=(show jb X.prog X.w H s.heap a (.lst xs) from I.hok a _ ea)
   exact⟨_,kitx_list,⟨_,b,rfl⟩,λz=>nomatch z⟩
  |@frz a ob xs ea=>
   cases (show u=Value.ref a from r)
   obtain⟨_,_,_,n,_,b⟩:=(show jb X.prog X.w H s.heap a (.frz ob (.lst xs)) from I.hok a _ ea)
   exact⟨_,kitx_list,⟨_,b,rfl⟩,λz=>nomatch z⟩
  |@tup a xs ea=>
   cases (show u=Value.ref a from r)
   obtain⟨_,_,_,p⟩:=(show jb X.prog X.w H s.heap a (.tup xs) from I.hok a _ ea)
   obtain⟨o,b,c,_⟩:=p;exact⟨_,kitx_tuple,⟨o,b,c.1⟩,λz=>nomatch z⟩
  |@dK a k ea=>
   cases (show u=Value.ref a from r)
   obtain⟨_,_,_,_,o,_,_,b,c,_⟩:=(show jb X.prog X.w H s.heap a (.dK k) from I.hok a _ ea)
   exact⟨_,kitx_dict,⟨o,b,c.1⟩,λz=>nomatch z⟩
  |@dT a k ea=>
   cases (show u=Value.ref a from r)
   obtain⟨_,_,_,_,o,_,_,b,c,_⟩:=(show jb X.prog X.w H s.heap a (.dT k) from I.hok a _ ea)
   exact⟨_,kitx_dict,⟨o,b,c.1⟩,λz=>nomatch z⟩
  |ins=>cases hT
 ·cases (show u=Value.ref a from r)
  obtain⟨e,_,⟨o,b,c,_⟩,_⟩:=I.tuple h;exact⟨_,kitx_tuple,⟨o,b,c⟩,λz=>nomatch z⟩
def Br (K:Frag)(a b:Ty):List V->Hp->VK->Prop:=λxs H Q=>∃x t l,xs=[x,.ref l]/\qy K H l [.ty (Ty.nm a),.ty (Ty.nm b)]/\QN K H x t/\Q (.bl (yx t a || yx t b)) H
def Im {a b:Ty}:jQ X (.builtin "isinstance") (Br X.K a b):=by
 intro pins s σ H xs us Q I r h;obtain⟨x,t,l,rfl,y,w,q⟩:=h;obtain⟨u,e,rfl,f,c⟩:=vals2 r;cases (show e=Value.ref l from c)
 obtain⟨p,v,⟨o,C,B,k,A⟩,_⟩:=I.tuple y;obtain⟨d,U,rfl,i,g⟩:=vals2 v;cases (show d=Value.type a.nm from i)
 cases (show U=Value.type b.nm from g)
 obtain⟨J,Z,z,ne⟩:=w.kitx I f;obtain⟨n,E,j,D⟩:=o;cases (show n=_ from B)
 cases (show j=_ from A)
 exact PySem.W.kia_tup Z I.kIn z C (IW t a b) ne λtk=>⟨.bl (yx t a || yx t b),H,I.tok tk,rfl,q⟩
def Wa (t T:Ty)(m:Ev):Ev:=λρ A=>(m ρ A).bind λw A1=>match jE w A1 with
 |some t'=>.ok (.bl (yx t' t || yx t' T)) A1
 |none=>.bad
noncomputable def K9 (m:Ev)(tw:Tg):Ex:=λρ A=>(m ρ A).bind λw A1=>match tw w ρ with
 |some a=>.ok (.nx a) A1|none=>.bad
noncomputable def Yo (i j:Nat)(ma mb:Ev):Ex:=λρ A=>(ma ρ A).bind λx A1=>(mb ρ A1).bind λy A2=>.ok (.nx ((ρ.set i (some x)).set j (some y))) A2
end
noncomputable def Kw (PG:jy):W->W
 |.clo k ws _=>.clo k ws (PG k)|w=>w
open Classical in
def Jt (ls:List Lm)(PF:jy)(ρ:En):W->Option W
 |.clo k [] P=>if P=PF k then(match ls[k]? with
  |some t=>(gQ t.idx ρ).map λws=>.clo k ws P|none=>none) else none
 |.clo _ _ _=>none|w=>some w
def wM (ls:List Lm)(PF:jy)(ρ:En):List W->Option (List W)
 |[]=>some []|w::r=>match Jt ls PF ρ w,wM ls PF ρ r with
  |some u,some us=>some (u::us)|_,_=>none
def gm (ls:List Lm)(PF:jy)(f:Fn)(a:Ea):Ev:=λρ A=>(a ρ A).bind λws A1=>match wM ls PF ρ ws with
 |some us=>f us A1|none=>.bad
section
variable {ls:List Lm}{q:Str}
def Tt (I:Inv X pins σ H s)(n:∀x,X.fn x=true)(l:∀t∈ls,QH X.prog X.w X.K X.mg j q t)(c:∀t∈ls,Jo X t):
  Js X.prog X.w X.K X.mg (gK X.base s.heap X.env.cells) X.A X.stack s H/\∀k,Qy X.prog X.w X.K X.mg (gK X.base s.heap X.env.cells) (j+1) (JB X.env q ls σ k) (yL ls k):=by
 have a:∀b o,X.base.get? b=some o->(gK X.base s.heap X.env.cells).get? b=some o:=λb o e=>NB I.bk e;have M:Mod X.K X.mg (gK X.base s.heap X.env.cells):=by
  obtain⟨mb,p,B⟩:=I.mod.blt;exact⟨I.mod.kin.keeps a,I.mod.glob.keeps a,⟨mb,p.keeps a,B⟩,I.mod.nolimit.keeps a⟩
 have bs:∀b o,(gK X.base s.heap X.env.cells).get? b=some o->s.heap.get? b=some o/\H b=none:=λb o e=>by
  obtain⟨i,E⟩:=Ti e;refine⟨i,?_⟩;rcases E with ⟨o',E⟩|⟨y,E⟩
  ·exact(I.bs b o' E).2
  ·exact I.freeC y b E
 refine⟨⟨I.ok.frames,M,bs,Nat.le_of_eq (hideAll_size _ _),frames_at I.stack λb d=>?_,I.stkFree,I.hok,I.bare⟩,
  λk=>Ep l (λt f vs h=>Lr I (λy C v e ⟨o,g,hd⟩=>⟨o,Nk e g,hd⟩) (c t f) h) k⟩
 cases e:(gK X.base s.heap X.env.cells).get? b with
 |none=>rfl|some o=>
  exfalso;rcases(Ti e).2 with ⟨o',E⟩|⟨y,E⟩
  ·have:=(I.stack.mem d).1
   rw[E]at this;cases this
  ·exact IM I n E d
theorem Ul {K:Frag}(re:RE K φ H ρ σ):∀{ws us:List W}{vs:List V},wM ls (wB env q ls) ρ ws=some us->zw K φ H ws vs->zw K φ H (us.map (Kw (JB env q ls σ))) vs
 |[],us,vs,e,r=>by cases e;exact r|w::r,us,vs,e,⟨v,A,ev,j,y⟩=>by
  subst ev;unfold wM at e;cases E:Jt ls (wB env q ls) ρ w with
  |none=>rw[E]at e;cases e|some u=>
   cases i:wM ls (wB env q ls) ρ r with
   |none=>rw[E,i]at e;cases e|some U=>
    rw[E,i]at e;cases e;rw[aU];refine .cons ?_ (Ul re i y);cases w with
    |clo k xs P=>
     cases xs with
     |cons x xs=>unfold Jt at E;cases E|nil=>
      unfold Jt at E;dsimp only at E
      by_cases h:P=wB env q ls k
      ·rw[ag h]at E
       subst h;cases d:ls[k]? with
       |none=>rw[d]at E;cases E|some t=>
        rw[d]at E;dsimp only at E;cases g:gQ t.idx ρ with
        |none=>rw[g]at E;cases E|some l=>
         rw[g]at E;cases E;obtain⟨a,ob,o,c,s,uc,n,rfl,g1,g2,⟨t',b,z⟩,_⟩:=j;rw[d]at b;cases b;obtain⟨f,cv,p⟩:=UP re g;exact⟨a,ob,o,c,s,uc,f,rfl,g1,g2,⟨t,d,z,cv⟩,p⟩
      ·rw[ar h]at E;cases E
    |_=>cases E;exact j
end
section
noncomputable abbrev wq (led:Bool):Obj:={ cls:=.type "set",dict:=none,data:=.set #[] 0 (.fresh 0 0 led) }
end
def intsAre_of:∀{ns:bM}{i:bN},Vals (ns.map V.int) i->IntsAre i ns:=by
 intro ns
 induction ns with
 |nil=>intro i h;cases h;exact .nil|cons n ns I=>
  intro i h;cases h with
  |cons r t=>obtain⟨tk,rfl⟩:=r;exact .cons n tk (I t)
def RY (s:Stmt):Expr:=match s with
 |.If t _ _ _=>t|_=>Qz
section
open PySem.SeqAt
open PySem.AutoSeq1 (wpAny_loadPart')
open PySem.MeetsSeq PySem.MeetsSeq2 PySem.MeetsSeq3
end
section
variable {K:Frag}
def LK {w:W}{ds:List PyData}(h:qk A 8 w=some (.list ds)):PyData.canLayAll0 ds=true/\PyData.depthAll ds<=8:=by
 obtain⟨H,a⟩:=Gi 8 w _ h;simp only[PyData.canLay0,PyData.depth]at H a;exact⟨H,by omega⟩
def BN:W->W->Hx->R W:=λx y A=>match qk A 8 x,qk A 8 y with
 |some d,some (.list ds)=>.ok (.bl (ds.any λz=>PyData.eqv z d)) A|_,_=>.bad
noncomputable def gJ (p:PyData->Bool):List PyData->Option Nat
 |[]=>none|d::ds=>if p d then some 0 else(gJ p ds).map (· + 1)
theorem UU {p:PyData->Bool}:∀{ds:List PyData}{j:Nat},gJ p ds=some j->∃h:j<ds.length,p ds[j]=true/\∀m (hm:m<ds.length),m<j->p ds[m]=false
 |[],_,e=>by cases e|d::ds,j,e=>by
  unfold gJ at e
  by_cases hd:p d=true
  ·rw[ag hd]at e
   cases e;exact⟨Nat.zero_lt_succ _,hd,λm _ z=>absurd z (Nat.not_lt_zero _)⟩
  ·rw[ar hd]at e
   cases E:gJ p ds with
   |none=>rw[E]at e;cases e|some J=>
    rw[E]at e;cases e;obtain⟨b,a,H⟩:=UU E;refine⟨Nat.succ_lt_succ b,a,λm hm z=>?_⟩;cases m with
    |zero=>exact Bool.eq_false_iff.mpr hd|succ m=>exact H m (Nat.lt_of_succ_lt_succ hm) (Nat.lt_of_succ_lt_succ z)
def HN (K:Frag):V->List V->Hp->VK->Prop:=λx vs H Q=>∃φ A u v y d ds j,vs=[y]/\zE K φ A H/\RV K φ H u x/\RV K φ H v y/\qk A 8 u=some (.list ds)/\qk A 8 v=some d/\gJ (λz=>PyData.eqv z d) ds=some j/\j<1000000/\Q (.int j) H
def N4 (M:X.A.units+64<cLine):X5 X "list.index" (HN X.K):=by
 intro pins s σ H x vs v us Q I r i h;obtain⟨φ,A,f,w,y,d,ds,j,rfl,S,t,p,a,E,J,N,q⟩:=h;obtain⟨u,rfl,k⟩:=i.one;obtain⟨as,C⟩:=Q2 I S 8 f x v _ t r a;obtain⟨bs,B⟩:=Q2 I S 8 w y u d p k E;obtain⟨g1,g2⟩:=Gi 8 w d E;obtain⟨g3,P⟩:=LK a;obtain⟨f1,f2,D⟩:=UU J;cases C with
 |list a1 a2 c b=>
  rename_i l o items n L
  obtain⟨cls,dd,data,g⟩:=o;simp only at a2 c;subst a2 c;have hm:=SeqAt.readsAll_map _ _ _ g3 b;have hlen:items.size=ds.length:=by rw[<- hm];simp
  have at_:∀m (h:m<items.size) (h':m<ds.length),SeqAt.readOf s.heap items[m]=ds[m]:=λm h h'=>by
   have e:(items.toList.map (SeqAt.readOf s.heap))[m]? =ds[m]?:=by rw[hm]
   rw[aw,aa h',bh,Array.getElem?_eq_getElem h]at e;exact aB e
  refine call_meets F.slot_list_index ⟨_,a1,rfl⟩ F.entry_list_index (F.args_list_index_2 _ _)
   (SeqAt.list_indexAt l items n dd g u (λz=>PyData.eqv (SeqAt.readOf s.heap z) d) j (by omega) (by omega) (by rw[at_ j (by omega) f1];exact f2) (λm h z=>by rw[at_ m h (by omega)];exact D m (by omega) z)) ⟨a1,SeqAt.items_eqAt b B g3 g1 (by omega),?_⟩
  exact⟨.int j,H,I.tok _,⟨_,rfl⟩,q⟩
def gI:W->W->Hx->R W:=λx y A=>match qk A 8 x,qk A 8 y with
 |some (.list ds),some d=>(match gJ (λz=>PyData.eqv z d) ds with
  |some j=>if j<1000000 then .ok (.int j) A else .bad|none=>.bad)
 |_,_=>.bad
def Lh:∀x y A,qv (gI x y A):=λx y A=>by
 unfold gI
 split
 ·split
  ·exact yW jh qe
  ·exact qe
 ·exact qe
end
end Mi
variable {ls:List Mi.Lm}
namespace Mi
open PySem
noncomputable def zT (n:Nat):bQ:=(List.range 8).filter λi=>n.testBit i
def qS (led:Bool)(n:Nat):SetTable:=if (zT n).length<5 then⟨7,(zT n).toArray,#[],0,led,0,true⟩ else⟨31,(zT n).toArray,#[],0,led,1,true⟩
noncomputable def jf (n v:Nat):Nat:=n ||| (1 <<< v)
def gu (n v:Nat):Nat:=((zT n).filter λi=>decide (i<v)).length
def kj (led:Bool)(n v:Nat):SetTable:={ qS led n with place:=(zT (jf n v)).toArray }
def KH (led:Bool)(n v:Nat):Bool:=n.testBit v || (((qS led n).freeSlot (v:Int)==some (v,false))&&((qS led n).put v==(kj led n v,gu n v))&&(zT (jf n v)==(zT n).take (gu n v)++v::(zT n).drop (gu n v))&&
 (kj led n v).fits (zT (jf n v)).length&&((kj led n v).tooFull==((zT (jf n v)).length==5))&&
 (if (zT (jf n v)).length==5 then(kj led n v).relaid ((zT (jf n v)).map λ(i:Nat)=>(i:Int)).toArray 20==some (qS led (jf n v),#[0,1,2,3,4]) else qS led (jf n v)==kj led n v)&&
 (qS led (jf n v)).fits (zT (jf n v)).length&&decide (jf n v<256))
def IT:((List.range 256).all λn=>(List.range 8).all λv=>KH true n v&&KH false n v)=true:=by decide +kernel
open PySem PySem.Spec PyProof.Rows
inductive jd:List (Int×Value)->List Nat->Prop
 |nil:jd [] []
 |cons {es:List (Int×Value)} {vs:bQ} (v:Nat) (tk:Tok) (h:jd es vs):jd (((v:Int),.int (v:Int) tk)::es) (v::vs)
theorem jd.length {vs:bQ}(h:jd es vs):es.length=vs.length:=by
 induction h with
 |nil=>rfl|cons v tk h i=>simp[i]
def jd.map1 {vs:bQ}(h:jd es vs):es.map (·.1)=vs.map λ(i:Nat)=>(i:Int):=by
 induction h with
 |nil=>rfl|cons v tk h I=>simp[I]
theorem jd.take {vs:bQ}(h:jd es vs):∀k,jd (es.take k) (vs.take k):=by
 induction h with
 |nil=>intro k;simp;exact .nil|cons v tk h i=>
  intro k;cases k with
  |zero=>exact .nil|succ k=>exact .cons v tk (i k)
theorem jd.drop {vs:bQ}(h:jd es vs):∀k,jd (es.drop k) (vs.drop k):=by
 induction h with
 |nil=>intro k;simp;exact .nil|cons v tk h i=>
  intro k;cases k with
  |zero=>exact .cons v tk h|succ k=>exact i k
def jd.app {es':List (Int×Value)}{vs a:bQ}(h:jd es vs)(h':jd es' a):jd (es++es') (vs++a):=by
 induction h with
 |nil=>exact h'|cons v tk h i=>exact .cons v tk i
def Ue:∀v,v<8->hashInt ((v:Nat):Int)=(v:Int):=by decide
section
variable {prog:Program}
def jd.elems {vs:bQ}(h:jd es vs)(H:∀v∈vs,v<8):ElemsOf (intKind prog w) es:=by
 induction h with
 |nil=>intro e he;cases he|cons v tk h i=>
  intro e he;rcases cc.mp he with rfl|he
  ·exact⟨⟨(v:Int),intKind_is _ _ _ _,(Ue v (H v (az ..))).symm⟩,rfl⟩
  ·exact i (λu a=>H u (ao _ a)) e he
def jd.find {vs:bQ}(h:jd es vs)(v:Nat):(es.findIdx? λe=>(intKind prog w).is (v:Int) e.2)=vs.findIdx? λu=>decide (u=v):=by
 induction h with
 |nil=>rfl|cons u tk h i=>
  rw[List.findIdx?_cons,List.findIdx?_cons,i]
  have:(intKind prog w).is (v:Int) (Value.int (u:Int) tk)=decide (u=v):=by
   show Value.isInt (v:Int) (Value.int (u:Int) tk)=_;unfold Value.isInt;rw[Bool.eq_iff_iff];simp;omega
  rw[this]
end
def G1 {v:Nat}:v∈zT n↔v<8/\n.testBit v=true:=by
 unfold zT;rw[mem_filter,List.mem_range]
def ym (h:Heap)(a:Addr)(led:Bool)(n:Nat):Prop:=∃o e E,h.get? a=some o/\o.ExactSet/\o.data=.set e E (qS led n)/\jd e.toList (zT n)/\n<256
def ym.keep {h':Heap}(x:ym h a led n)(k:∀o,h.get? a=some o->h'.get? a=some o):ym h' a led n:=
 let ⟨o,es,ep,H,r⟩:=x;⟨o,es,ep,k o H,r⟩
def Lv {v:Nat}(hn:n<256)(H:v<8)(led:Bool):KH led n v=true:=by
 have h:=cm.mp (cm.mp IT n (ck.mpr hn)) v (ck.mpr H);rw[aj]at h;cases led
 ·exact h.2
 ·exact h.1
def La:((List.range 256).all λn=>(qS true n).fits (zT n).length&&(qS false n).fits (zT n).length)=true:=by decide +kernel
def Gk (led:Bool)(n:Nat):(qS led n).plain=true:=by unfold qS;split<;>rfl
def Ho (led:Bool)(n:Nat):(qS led n).led=led:=by unfold qS;split<;>rfl
def Ux (led:Bool)(n:Nat):(qS led n).place=(zT n).toArray:=by unfold qS;split<;>rfl
def fits_of (hn:n<256)(led:Bool):(qS led n).fits (zT n).length=true:=by
 have h:=cm.mp La n (ck.mpr hn);rw[aj]at h;cases led
 ·exact h.2
 ·exact h.1
def Je (n:Nat):(zT n).length<=8:=by
 unfold zT;exact aQ (length_filter_le _ _) (by simp)
structure KZ (led:Bool)(n v:Nat):Prop where
 free:(qS led n).freeSlot (v:Int)=some (v,false)
 put:(qS led n).put v=(kj led n v,gu n v)
 vs:zT (jf n v)=(zT n).take (gu n v)++v::(zT n).drop (gu n v)
 fits:(kj led n v).fits (zT (jf n v)).length=true
 full:(kj led n v).tooFull=((zT (jf n v)).length==5)
 XM:(zT (jf n v)).length=5->(kj led n v).relaid ((zT (jf n v)).map λ(i:Nat)=>(i:Int)).toArray 20=some (qS led (jf n v),#[0,1,2,3,4])
 less:(zT (jf n v)).length≠5->qS led (jf n v)=kj led n v
 lt:jf n v<256
def Mo {v:Nat}(hn:n<256)(a:v<8)(led:Bool)(b:n.testBit v=false):KZ led n v:=by
 have h:=Lv hn a led;unfold KH at h;rw[b,Bool.false_or]at h;simp only[aj,aI,ak]at h;obtain⟨⟨⟨⟨⟨⟨⟨j,i⟩,g⟩,f⟩,d⟩,H⟩,k⟩,c⟩:=h;refine⟨j,i,g,f,d,λe=>?_,λe=>?_,c⟩
 ·rw[ag e]at H;exact of_decide_eq_true (by simpa using H)
 ·rw[ar e]at H;simpa using H
def yn (n v:Nat):Nat:=if n.testBit v then n else jf n v
section
variable {prog:Program}{A:Around}
def M5 {e:Array (Int×Value)}{v:Nat}{x:Value}(f:KZ led n v)(he:jd e.toList (zT n)):layNew (qS led n) e (v:Int) x=(SetTable.insertAt e (gu n v) ((v:Int),x),kj led n v,false,false):=by
 have h:(SetTable.insertAt e (gu n v) ((v:Int),x)).size=(zT (jf n v)).length:=by
  rw[<- aG,SetTable.toList_insertAt,f.vs,aD,aD,bc,bc,bo,bo,length_drop,length_drop,he.length]
 unfold layNew;rw[f.free];dsimp only;rw[f.put];dsimp only;rw[h];unfold SetTable.orStandIn;rw[ag f.fits,f.fits]
 rfl
def IF {E:Array (Int×Value)}{v:Nat}(f:KZ led n v)(g:(zT (jf n v)).length=5)(he:jd E.toList (zT (jf n v))):relayAll (kj led n v) E 20=(E,qS led (jf n v),false):=by
 have hm:E.map (·.1)=((zT (jf n v)).map λ(i:Nat)=>(i:Int)).toArray:=by
  apply Array.toList_inj.mp
  rw[Array.toList_map,he.map1]
 have h:E.size=5:=by rw[<- aG,he.length,g]
 have H:(#[0,1,2,3,4]:Array Nat).filterMap (E[·]?)=E:=by
  apply Array.toList_inj.mp
  rw[Array.toList_filterMap];have h0:E.toList.length=5:=by rw[aG];exact h
  have j:∀i,E[i]? =E.toList[i]?:=λi=>by rw[bh]
  simp only[j];generalize E.toList=l at h0;obtain⟨a,b,c,d,e,rfl⟩:∃a b c d e,l=[a,b,c,d,e]:=by
   match l,h0 with
   |[a,b,c,d,e],_=>exact⟨a,b,c,d,e,rfl⟩
  rfl
 unfold relayAll;rw[hm,f.XM g];dsimp only;rw[H];have k:coversAll #[0,1,2,3,4] E.size=true:=by rw[h];decide +kernel
 have hf:(qS led (jf n v)).fits E.size=true:=by rw[h,<- g];exact fits_of f.lt led
 rw[k,hf]
 rfl
def jd.insert {e:Array (Int×Value)}{v:Nat}{tk:Tok}(f:KZ led n v)(he:jd e.toList (zT n)):jd (SetTable.insertAt e (gu n v) ((v:Int),.int (v:Int) tk)).toList (zT (jf n v)):=by
 rw[SetTable.toList_insertAt,f.vs];exact(he.take _).app (.cons v tk (he.drop _))
def Uo {o:Obj}{E es':Array (Int×Value)}{e:Nat}{t:SetTable}{t':SetTable}(H:h.get? a=some o)(hd:o.data=.set E e t):(h.update a (Obj.putSet es' t')).get? a=some { o with data:=.set es' (e+1) t' }:=by
 have:=aY (Obj.putSet es' t') H (by rw[putSet_of es' t' hd];rfl)
 rw[putSet_of es' t' hd]at this;exact this
def Nn {v:Nat}{tk:Tok}{Q:Bool->Shared->Prop}(T:ym s.heap a led n)(y:v<8)
  (h:∀h' b,Heap.SameBut a s.heap h'->ym h' a led (yn n v)->Q b { s with heap:=h' }):
  wpAny (model prog w) A (setAddHashed a (.int (v:Int) tk) ((intKind prog w).hash (v:Int))) Q E s:=by
 obtain⟨o,l,D,q,hex,hd,he,hn⟩:=T;have hlen:l.size=(zT n).length:=by rw[<- aG,he.length]
 have hf:(qS led n).fits l.size=true:=by rw[hlen];exact fits_of hn led
 have r:ElemsOf (intKind prog w) l.toList:=he.elems λu J=>(G1.mp J).1;have k:l.size<scanBound:=by rw[hlen];have:=Je n;unfold scanBound;omega
 unfold setAddHashed setAddHashedIn;refine wpAny_holding (b9 (wpAny_setState_of q hd hf ?_));dsimp only;rw[byScan_of (x:=.int (v:Int) tk) rfl k r];simp only[↓reduceIte];unfold setAddByScan;refine b9 ?_;refine b9 (wpAny_rule ?_);refine b9 (wpAny_setScan_of (knd:=intKind prog w) (intKind_is _ _ _ _) q hd hf r ?_);rw[he.find];cases I:(zT n).findIdx? λu=>decide (u=v) with
 |some j=>
  dsimp only;have k:n.testBit v=true:=by
   obtain⟨N,B,_⟩:=List.findIdx?_eq_some_iff_getElem.mp I
   have:=of_decide_eq_true B
   exact(G1.mp (this ▸ aN N)).2
  refine cb (cb ?_);have e:s={ s with heap:=s.heap }:=by cases s;rfl
  rw[e];refine h s.heap false (Heap.SameBut.refl a s.heap) ?_;unfold yn;rw[ag k];exact⟨o,l,D,q,hex,hd,he,hn⟩
 |none=>
  dsimp only;have k:n.testBit v=false:=by
   cases M:n.testBit v with
   |false=>rfl|true=>
    have:=List.findIdx?_eq_none_iff.mp I v (G1.mpr ⟨y,M⟩)
    simp at this
  have f:=Mo hn y led k;have P:(intKind prog w).hash (v:Int)=(v:Int):=Ue v y;rw[P];rw[M5 f he];have H:=he.insert (tk:=tk) f;have i:(SetTable.insertAt l (gu n v) ((v:Int),Value.int (v:Int) tk)).size=(zT (jf n v)).length:=by rw[<- aG,H.length]
  generalize SetTable.insertAt l (gu n v) ((v:Int),Value.int (v:Int) tk)=c at H i;dsimp only;refine b9 (cb ?_);have L:(kj led n v).plain=true:=by unfold kj;exact Gk led n
  rw[L];simp only[↓reduceIte];refine b9 ?_;rw[hashByValue_scannable 8 (x:=.int (v:Int) tk) rfl];refine cb ?_;have z:plainKind (.int (v:Int) tk)=true:=rfl;rw[z];simp only[↓reduceIte];have p:c.size<=sizeLine:=by rw[i,sizeLine_eq];have:=Je (jf n v);omega
  refine b9 (wpAny_storeSet_of q hd ?_ p);have g:=Uo (es':=c) (t':=kj led n v) q hd;have d:=Heap.SameBut.update s.heap a (Obj.putSet c (kj led n v));rw[f.full]
  by_cases t:(zT (jf n v)).length=5
  ·have S:SetTable.grown c.size=20:=by rw[i,t];rfl
   rw[S,IF f t H,t];simp only[Bool.not_false,Bool.true_and,bz,↓reduceIte];refine b9 (cb ?_);refine b9 (wpAny_storeSet_of g rfl ?_ p);refine cb ?_;dsimp only;refine cb ?_;have C:=Uo (es':=c) (t':=qS led (jf n v)) g rfl;refine h _ true (d.trans (Heap.SameBut.update _ a _)) ?_;unfold yn;rw[k];exact⟨_,c,D+1+1,C,hex,rfl,H,f.lt⟩
  ·have K:((zT (jf n v)).length==5)=false:=by simpa using t
   rw[K];simp only[Bool.not_false,Bool.and_false,a7,↓reduceIte];refine cb ?_;dsimp only;refine cb ?_;refine h _ true d ?_;unfold yn;rw[k,ar aA,];refine⟨_,c,D+1,g,hex,?_,H,f.lt⟩;rw[f.less t]
end
noncomputable abbrev jB (w:World):Bool:=!w.params.followText "set-order"
def Zk (val:Nat->Nat)(i:Nat):Nat:=((List.range i).map val).foldl yn 0
def Mr (val:Nat->Nat)(i:Nat):Zk val (i+1)=yn (Zk val i) (val i):=by
 unfold Zk;rw[range_succ,aX,List.foldl_append]
 rfl
section
variable {prog:Program}{A:Around}
def Oh (a:Value){Q1:bS}(h:Q1 (.ref s.heap.objs.size) { s with heap:=s.heap.push (wq (jB w)) }):
  codeAny (model prog w) A (.call (.builtin "set.__new__") ⟨[.type "set",a],[]⟩) (wants Q1 E) s:=by
 refine codeAny_of_tree ?_;show wpAny _ A.in1 (do checkBuiltinCall "set.__new__" ⟨[.type "set",a],[]⟩;again (.builtin "set.__new__" ⟨[.type "set",a],[]⟩)) _ _ s
 refine b9 (wpAny_of_eq (F.newCall_set_1 a) (cb ⟨plainId_quiet F.plain_set_new _,codeAny_builtin F.entry_set_new ?_⟩));rw[Around.under_plainId F.plain_set_new _];unfold Builtin.«set.__new__» Builtin.Frozenset.newClass;have H:=sub_set_self;obtain⟨p,g,d,tk,os⟩:=s;dsimp only
 wp_walk
 refine wpAny_askSetting (cb ?_);dsimp only;simp only[newObj];refine b9 (wpAny_alloc (cb ?_));exact cb h
end
section
variable {prog:Program}{A:Around}{R:Result->Shared->Prop}{I:Addr}{wr:bO}{G:Array GenState->Array GenState->Prop}{P:Nat->Value->Prop}{St:Nat->Shared->Prop}
def N5 (W:WalksS prog w A.in1 I fp wr G n P St)(S:Addr)(q:S∉fp)(led:Bool)(val:Nat->Nat)(l:∀i v,P i v->∃t,v=.int ((val i:Nat):Int) t)(N:∀i,i<n->val i<8):
  ∀(k i:Nat)(s:Shared),n-i=k->i<=n->St i s->ym s.heap S led (Zk val i)->
   (∀s',Moved (S::wr) G s s'->ym s'.heap S led (Zk val n)->R (.ok (.ret .none)) s')->
   codeAny (model prog w) A (.builtin "set.update.loop" ⟨[.ref S,.ref I],[]⟩) R s:=by
 have p:S∉wr:=λh=>q (W.sub _ h);have H:∀b∈wr,b∈S::wr:=λb j=>ao _ j;intro k
 induction k with
 |zero=>
  intro i s K L a D E;have y:i=n:=by omega
  subst y;refine codeAny_builtin F.entry_set_update_loop ?_;rw[Around.under_plainId F.plain_set_update_loop _];show wpAny _ A.in1 (pyNext (.ref I) >>= _) _ _ s;refine b9 (W.done s _ _ a λs' hm=>?_);show wpAny _ A.in1 (ret Value.none) _ _ s';exact cb (E s' (hm.mono H) (D.keep λo x=>hm.heap S _ p x))
 |succ k J=>
  intro i s K L a D E;have c:i<n:=by omega
  refine codeAny_builtin F.entry_set_update_loop ?_;rw[Around.under_plainId F.plain_set_update_loop _];show wpAny _ A.in1 (pyNext (.ref I) >>= _) _ _ s;refine b9 (W.item i s _ _ c a λv s' M d hm=>?_);obtain⟨t,rfl⟩:=l i v M;have C:ym s'.heap S led (Zk val i):=D.keep λo x=>hm.heap S _ p x;show wpAny _ A.in1 (holding [Value.int ((val i:Nat):Int) t] (setAdd S (.int ((val i:Nat):Int) t)) >>= _) _ _ s';refine b9 (wpAny_holding ?_);unfold setAdd;refine wpAny_holding ?_;refine b9 ((intKind prog w).pyHash (k:=((val i:Nat):Int)) (intKind_is _ _ _ _) ?_);refine Nn (s:={ s' with toks:=s'.toks+1 }) C (N i c) λh' b f B=>?_
  have z:ym h' S led (Zk val (i+1)):=by rw[Mr];exact B
  refine cb ⟨plainId_quiet F.plain_set_update_loop _,J (i+1) _ (by omega) c (W.frame _ s' _ _ d (le_succ _) λb j o e=>?_) z λu g r=>?_⟩
  ·rw[f.2 b (λh:b=S=>q (by rw[<- h];exact j))];exact e
  ·refine E u (Moved.trans W.gtrans ((hm.mono H).then_heap (le_succ _) λb o j e=>?_) g) r
   rw[f.2 b (λh:b=S=>j (by rw[h];exact az))];exact e
end
section
variable {prog:Program}{A:Around}
def EH (led:Bool)(g:h.get? a=some (wq led)):ym h a led 0:=
 ⟨_,#[],0,g,⟨rfl,rfl,rfl⟩,(by cases led<;>rfl),.nil,by decide⟩
def P7 {l:Addr}{vs:bQ}(C:A.handled=none)(y:s.heap.IsList l its.toArray)(k:IntsAre its (vs.map λ(v:Nat)=>(v:Int)))(D:∀v∈vs,v<8)
  (h:∀(h':Heap)(tk:Nat),ym h' s.heap.objs.size led (vs.foldl yn 0)->
   (∀b o,b<s.heap.objs.size->s.heap.get? b=some o->h'.get? b=some o)->Q .none { s with heap:=h',toks:=tk }):
  codeAny (model prog w) A (.call (.builtin "set.__init__") ⟨[.ref s.heap.objs.size,.ref l],[]⟩) (wants Q E) { s with heap:=s.heap.push (wq led) }:=by
 have hlen:its.length=vs.length:=by
  have:∀{its:bN}{ns:bM},IntsAre its ns->its.length=ns.length:=λh=>by
   induction h with
   |nil=>rfl|cons _ _ _ I=>simp[I]
  rw[this k,ah]
 have S:(s.heap.push (wq led)).get? s.heap.objs.size=some (wq led):=aq _ rfl;refine codeAny_call_builtin F.called_set.init.plain F.entry_set_init (check_set_init_1 ⟨_,S,rfl⟩ ?_);obtain⟨ob,f,a,n,p⟩:=y;obtain⟨P,N,x,u⟩:=ob;dsimp only at a p;cases a;cases p;have g1:=af (wq led) f;have n1:=F.sub_list_set;have X:=F.sub_list_frozenset;have U:(Value.type "list" == Value.type "dict")=false:=by decide
 have q:(s.heap.push (wq led)).IsList l its.toArray:=⟨_,g1,rfl,n,rfl⟩;unfold Builtin.«set.__init__» noKeywords Builtin.Frozenset.updateFrom;generalize B:pyIter=PI
 wp_walk
 subst B;refine wpAny_pyIter_list q (b9 (wpAny_runValue ?_));have lt:l<s.heap.objs.size:=aF f;have sz:(s.heap.push (wq led)).objs.size=s.heap.objs.size+1:=a9 ..;have ne:l≠(s.heap.push (wq led)).objs.size:=by rw[sz];exact aK (aZ lt)
 have W:=(Walks.list (prog:=prog) (w:=w) (A:=A.in1.in1) (by simp[C]) (s.heap.push (wq led)).objs.size l ne its.toArray).toS
 have g:its.toArray.size=vs.length:=by rw[aE];exact hlen
 rw[g]at W;have off:s.heap.objs.size∉[(s.heap.push (wq led)).objs.size,l]:=by
  rw[sz];intro hm;rcases cc.mp hm with z|hm
  ·exact aK (bq _) z
  ·exact bx lt (cn.mp hm)
 have c:Zk (λi=>vs.getD i 0) vs.length=vs.foldl yn 0:=by
  unfold Zk
  congr 1
  apply bJ
  ·simp
  ·intro i f a
   have H:i<vs.length:=by simpa using a
   simp[ae,aa H]
 refine N5 W s.heap.objs.size off led (λi=>vs.getD i 0) (λi v e=>?_) (λi H=>?_) vs.length 0 _ rfl (zero_le _) ⟨⟨_,aq _ rfl,rfl,rfl⟩,q.push _⟩ ?_ ?_
 ·obtain⟨t,j⟩:=IntsAre.int_at k i v (by simpa using e)
  refine⟨t,j.trans ?_⟩;have H:i<vs.length:=by
   have:=(cg.mp (show its[i]? =some v by simpa using e)).1
   omega
  congr 1
  simp[ae,aw,aa H]
 ·rw[ae,aa H]
  exact D _ (aN H)
 ·exact EH led (af _ S)
 ·intro s' M r
  rw[c]at r;obtain⟨h',g',d',T,d⟩:=s';have K:g'=s.gens:=M.gens;have j:d'=s.drawn:=M.drawn;have J:d=s.os:=M.os;subst K j J;refine cb ?_;show wpAny _ _ (ret Value.none) _ _ _;refine cb (h h' T r λb o L e=>M.heap b o (λhm=>?_) (af _ (af _ e)));rcases cc.mp hm with z|hm
  ·exact aK L z
  ·exact aK (aZ L) ((cn.mp hm).trans sz)
def P9 {l:Addr}{vs:bQ}(j:A.handled=none)(t:s.heap.IsList l its.toArray)(i:IntsAre its (vs.map λ(v:Nat)=>(v:Int)))(n:∀v∈vs,v<8)
  (h:∀(h':Heap)(tk:Nat),ym h' s.heap.objs.size (jB w) (vs.foldl yn 0)->
   (∀b o,b<s.heap.objs.size->s.heap.get? b=some o->h'.get? b=some o)->Q (.ref s.heap.objs.size) { s with heap:=h',toks:=tk }):
  wpAny (model prog w) A (call (.type "set") [.ref l]) Q E s:=by
 obtain⟨c,q,d⟩:=F.called_set.mro;have a1:=F.called_set.made;have a2:=F.called_set.sub;have C:=F.called_set.notType;have z:=F.called_set.canCreate;have y:=F.typeCall_set_1 (.ref l);refine wpAny_call (codeAny_of_tree ?_);show wpAny _ _ (callAny (.type "set") _) _ _ _;refine cb ⟨Code.quiet_builtin _ (by decide +kernel),codeAny_builtin F.entry_type_call ?_⟩
 rw[Around.under_plain (weight_type_call_type "set" [.ref l] []) rfl]
 repeat (any_goals (first|assumption|wp_step))
 refine codeAny_mono (Oh (.ref l) (E:=E) (Q1:=λu s1=>u=.ref s.heap.objs.size/\s1={ s with heap:=s.heap.push (wq (jB w)) }) ⟨rfl,rfl⟩) λr s1 a=>?_
 cases r with
 |error e=>exact a|ok p=>
  cases p with
  |ret u=>
   obtain⟨rfl,rfl⟩:=a;have T:Shared.TypeIs { s with heap:=s.heap.push (wq (jB w)) } (.ref s.heap.objs.size) "set":=⟨_,aq _ rfl,rfl⟩
   have x:=F.called_set.init.lookup;have B:=F.called_set.init.bind (.ref s.heap.objs.size)
   repeat (any_goals (first|assumption|wp_step))
   refine codeAny_mono (P7 (E:=E) (Q:=λv s2=>v=.none/\∃h' tk,s2={ s with heap:=h',toks:=tk }/\ym h' s.heap.objs.size (jB w) (vs.foldl yn 0)/\
    ∀b o,b<s.heap.objs.size->s.heap.get? b=some o->h'.get? b=some o) (by simp[j]) t i n λh' tk S k=>⟨rfl,h',tk,rfl,S,k⟩) λg s2 H=>?_
   cases g with
   |error e=>exact H|ok f=>
    cases f with
    |ret v=>
     obtain⟨rfl,h',tk,rfl,S,k⟩:=H
     repeat (any_goals (first|assumption|wp_step))
     exact h _ _ S k
    |_=>exact H.elim
  |_=>exact a.elim
end
theorem Ui:∀{l:List α}{k:Nat}{w:α},l[k]? =some w->l.Perm (w::l.eraseIdx k)
 |[],_,_,h=>by simp at h|x::l,0,w,h=>by
  simp at h;subst h;simp
 |x::l,k+1,w,h=>by
  rw[List.getElem?_cons_succ]at h;rw[List.eraseIdx_cons_succ];exact((Ui h).cons x).trans (List.Perm.swap w x _)
def Hs (next:Nat->Nat):∀(f k:Nat)(left:List α)(out:Array α),left.length=f->(pickOrder.go next f k left out).toList.Perm (out.toList++left):=by
 intro f
 induction f with
 |zero=>
  intro k left out h
  have:left=[]:=List.length_eq_zero_iff.mp h
  subst this;unfold pickOrder.go;simp
 |succ f i=>
  intro k left out h;have H:next k%left.length<left.length:=Nat.mod_lt _ (by omega)
  unfold pickOrder.go;rw[aa H];dsimp only;refine(i (k+1) _ _ (by rw[List.length_eraseIdx_of_lt H];omega)).trans ?_
  rw[Array.toList_push,aP];exact List.Perm.append_left _ (Ui (aa H)).symm
def MK (next:Nat->Nat)(xs:Array α):(pickOrder next xs).toList.Perm xs.toList:=by
 unfold pickOrder
 have:=Hs next xs.size 0 xs.toList #[] (by simp)
 simpa using this
namespace F
def Od:entryFor table "set.__iter__"=some Builtin.«frozenset.__iter__»:=entryFor_alias (id' := "frozenset.__iter__") (by kernel_rfl) rfl (by decide +kernel) (by kernel_rfl)
def Pz:entryFor table "set_iterator.__iter__"=some Builtin.«dict_keyiterator.__iter__»:=entryFor_alias (id' := "dict_keyiterator.__iter__") (by kernel_rfl) rfl (by decide +kernel) (by kernel_rfl)
def Vo:Manifest.owners.lookup (String.ofList ['r','o','t','a','r','e','t','i','_','t','e','s'].reverse)=some Manifest.sig_set_iterator:=by kernel_rfl
def QP:Slot "set_iterator" "__next__" "set_iterator.__next__":=
 .of (owner := "set_iterator") (n := "__next__") (by rw[typeLookup_type,builtinLookup_eq_fast];kernel_rfl) (by decide +kernel) (by decide +kernel) (by decide +kernel)
  (by first|exact .inl (by decide +kernel)|exact .inr (by decide +kernel)) (by rw[isSubtype_type];kernel_rfl)
def Vj:entryFor table "set_iterator.__next__"=some Builtin.«set_iterator.__next__»:=entryFor_of_tree (by kernel_rfl)
def Vi (a:Value):argsOk "set_iterator.__next__" ⟨[a],[]⟩:=by
 unfold argsOk;rw[signature?_of (id := "set_iterator.__next__") (n:=['_','_','t','x','e','n','_','_']) (o:=['r','o','t','a','r','e','t','i','_','t','e','s']) (by kernel_rfl) Vo];kernel_rfl
def Py (a:Value):argsOk "set_iterator.__iter__" ⟨[a],[]⟩:=by
 unfold argsOk;rw[signature?_of (id := "set_iterator.__iter__") (n:=['_','_','r','e','t','i','_','_']) (o:=['r','o','t','a','r','e','t','i','_','t','e','s']) (by kernel_rfl) Vo];kernel_rfl
def Vk:Slot "set_iterator" "__iter__" "set_iterator.__iter__":=
 .of (owner := "set_iterator") (n := "__iter__") (by rw[typeLookup_type,builtinLookup_eq_fast];kernel_rfl) (by decide +kernel) (by decide +kernel) (by decide +kernel)
  (by first|exact .inl (by decide +kernel)|exact .inr (by decide +kernel)) (by rw[isSubtype_type];kernel_rfl)
end F
def Yf (n i:Nat):Nat:=match i with
 |0=>0|i+1=>(zT n).getD i 0+1
def SN (n i:Nat):Bool:=decide ((zT n).length<i) || (SetTable.below (zT n).toArray (Yf n i)==i)
def M8:((List.range 256).all λn=>(List.range 9).all λi=>SN n i)=true:=by decide +kernel
def LH (hn:n<256)(H:i<=(zT n).length):SetTable.below (zT n).toArray (Yf n i)=i:=by
 have a:=Je n;have h:=cm.mp (cm.mp M8 n (ck.mpr hn)) i (ck.mpr (by omega))
 unfold SN at h;rw[ay (by omega),Bool.false_or,aI]at h
 exact h
def Qf (h:Heap)(I S:Addr)(slot i n e:Nat):Prop:=∃o,h.get? I=some o/\o.cls=.type "set_iterator" /\ o.data=.fields #[.int slot 0,.int i 0,.ref S,.int n 0,.int e 0]
noncomputable def yJ (w:World)(a:Addr)(E:Nat)(e:Array (Int×Value)):Array (Int×Value):=if w.params.followText "set-order" then pickOrder (w.params.setOrder a E) e else e
def JO (w:World)(a:Addr)(E:Nat)(e:Array (Int×Value)):(yJ w a E e).toList.Perm e.toList:=by
 unfold yJ
 split
 ·exact MK _ _
 ·exact List.Perm.refl _
def kR (w:World)(n i:Nat):Nat:=if w.params.followText "set-order" then 0 else Yf n i
section
variable {prog:Program}{A:Around}{o:Obj}{es:Array (Int×Value)}{ep:Nat}
def WU {Q:Bool->Shared->Prop}(h:Q (w.params.followText "set-order") s):wpAny (model prog w) A setsByText Q E s:=by
 unfold setsByText;exact b9 (wpAny_askSetting (cb h))
def PQ (H:s.heap.get? a=some o)(hex:o.ExactSet)(hd:o.data=.set es ep (qS (jB w) n))(he:jd es.toList (zT n))(hn:n<256)
  (c:Q (.ref s.heap.objs.size) { s with heap:=s.heap.push { cls:=.type "set_iterator",data:=.fields #[.int 0 0,.int 0 0,.ref a,.int es.size 0,.int ep 0] } }):
  wpAny (model prog w) A (pyIter (.ref a)) Q E s:=by
 have hT:s.TypeIs (.ref a) "set":=⟨o,H,hex.1⟩;have hlen:es.size=(zT n).length:=by rw[<- aG,he.length]
 have hf:(qS (jB w) n).fits es.size=true:=by rw[hlen];exact fits_of hn _
 refine wpAny_pyIter_slot hT slot_set_iter (wpAny_call_entry slot_set_iter hT F.Od ?_ (PySem.F.args_set_iter_1 _));unfold Builtin.«frozenset.__iter__»;show wpAny _ _ (Builtin.Frozenset.sizeOf a >>= _) _ _ s;unfold Builtin.Frozenset.sizeOf;refine b9 (b9 (wpAny_setEntries_of H hd hf (cb ?_)));unfold setDrawn;refine b9 (b9 (wpAny_setState_of H hd hf ?_));dsimp only;refine b9 (WU (cb ?_));rw[ar (λh=>by
  have b:(!w.params.followText "set-order" && (!(qS (jB w) n).plain&&decide (es.size > 1)))=true:=h;rw[Gk]at b;simp at b)]
 refine b9 (cb ?_);refine b9 (wpAny_setEpoch_of H hd hf ?_);exact b9 (wpAny_newObj_type (cb ⟨_,rfl,"set_iterator",_,⟨_,aq _ rfl,rfl⟩,F.QP.lookup,c⟩))
def Vz {Q:Option (Value×Nat)->Shared->Prop}(c:s.heap.get? a=some o)(hd:o.data=.set es ep (qS (jB w) n))(he:jd es.toList (zT n))(hn:n<256)(l:i<=es.size)
  (h:Q (((yJ w a ep es)[i]?).map λe=>(e.2,kR w n (i+1))) s):wpAny (model prog w) A (setNext a (kR w n i) i ep) Q E s:=by
 have hlen:es.size=(zT n).length:=by rw[<- aG,he.length]
 have hf:(qS (jB w) n).fits es.size=true:=by rw[hlen];exact fits_of hn _
 unfold setNext;refine b9 (wpAny_setState_of c hd hf ?_);dsimp only;refine b9 (WU ?_);unfold yJ kR at h;cases t:w.params.followText "set-order" with
 |true=>
  rw[t]at h;simp only[↓reduceIte]at h ⊢;have p:¬((ep != ep)=true):=by simp
  rw[ar p];unfold setWalk;refine b9 (b9 (wpAny_setState_of c hd hf ?_));dsimp only;refine b9 (WU ?_);rw[t];simp only[↓reduceIte];refine b9 (wpAny_askSetting (cb (cb ?_)));unfold kR;rw[t];exact h
 |false=>
  rw[t]at h;simp only[a7,↓reduceIte]at h ⊢;rw[ar (λh=>by
   have f:(!(qS (jB w) n).plain&&decide (es.size > 1))=true:=h;rw[Gk]at f;simp at f)]
  have d:(qS (jB w) n).led=true:=by rw[Ho];unfold jB;rw[t];rfl
  refine b9 ?_;show wpAny _ _ (if (!(qS (jB w) n).led&&!es.isEmpty)=true then unsupported "set:maker-not-led" else pure ()) _ _ _;rw[d];simp only[Bool.not_true,Bool.false_and,a7,↓reduceIte];refine cb ?_;have k:SetTable.below (qS (jB w) n).place (kR w n i)=i:=by
   rw[Ux];unfold kR;rw[t];exact LH hn (by omega)
  rw[k,Ux];refine cb ?_
  by_cases b:i<es.size
  ·have v:(zT n)[i]? =some ((zT n)[i]'(by omega)):=aa (by omega)
   have j:(zT n).toArray[i]? =some ((zT n)[i]'(by omega)):=by rw[List.getElem?_toArray];exact v
   have H:es[i]? =some es[i]:=Array.getElem?_eq_getElem b;rw[H]at h;rw[H,j];dsimp only;have g:Yf n (i+1)=(zT n)[i]'(by omega)+1:=by
    show(zT n).getD i 0+1=_;rw[ae,v]
    rfl
   rw[g]at h;exact h
  ·have H:es[i]? =none:=Array.getElem?_eq_none (by omega)
   rw[H]at h;rw[H];exact h
def PC {I:Addr}{e:Int×Value}{Q:Option Value->Shared->Prop}(hit:Qf s.heap I a (kR w n i) i es.size ep)(d:s.heap.get? a=some o)(hex:o.ExactSet)(hd:o.data=.set es ep (qS (jB w) n))(he:jd es.toList (zT n))(hn:n<256)(x:(yJ w a ep es)[i]? =some e)
  (j:∀h',Qf h' I a (kR w n (i+1)) (i+1) es.size ep->Heap.SameBut I s.heap h'->Q (some e.2) { s with heap:=h' }):
  wpAny (model prog w) A (pyNext (.ref I)) Q E s:=by
 obtain⟨c,H,f,h⟩:=id hit;have hT:s.TypeIs (.ref I) "set_iterator":=⟨c,H,f⟩;have hlen:es.size=(zT n).length:=by rw[<- aG,he.length]
 have hf:(qS (jB w) n).fits es.size=true:=by rw[hlen];exact fits_of hn _
 unfold pyNext;refine b9 (wpAny_attempt (wpAny_callSpecial?_slot (name:=Str.ofString "__next__") hT F.QP
  (wpAny_call_entry F.QP hT F.Vj ?_ (F.Vi _))))
 unfold Builtin.«set_iterator.__next__»;show wpAny _ _ (fieldsOf (.ref I) >>= _) _ _ s;refine b9 (wpAny_fieldsOf H h ?_);dsimp only;refine b9 (wpAny_setEntries_of d hd hf ?_);rw[ar (by simp)]
 have g:i<es.size:=by
  have b:=(Array.getElem?_eq_some_iff.mp x).1;have k:=(JO w a ep es).length_eq;simp at k;omega
 simp only[aM];refine b9 (Vz d hd he hn (bt g) ?_);rw[x];dsimp only[Option.map_some];refine b9 (wpAny_setField H h (by simp) ?_)
 have b:(s.heap.update I (Obj.mapFields (·.setIfInBounds 0 (rawInt (kR w n (i+1)))))).get? I=some (Obj.mapFields (·.setIfInBounds 0 (rawInt (kR w n (i+1)))) c):=aY _ H (Obj.isFreed_of_fields (Obj.data_mapFields h _));refine b9 (wpAny_setField b (Obj.data_mapFields h _) (by simp) ?_)
 refine cb ⟨e.2,rfl,cb (j _ ?_ ((Heap.SameBut.update ..).trans (Heap.SameBut.update ..)))⟩;refine⟨_,aY _ b (Obj.isFreed_of_fields (Obj.data_mapFields (Obj.data_mapFields h _) _)),(Obj.cls_mapFields ..).trans ((Obj.cls_mapFields ..).trans f),?_⟩;rw[Obj.data_mapFields (Obj.data_mapFields h _)];simp[rawInt]
def PD {I:Addr}{Q:Option Value->Shared->Prop}(d:A.handled=none)(hit:Qf s.heap I a (kR w n es.size) es.size es.size ep)(c:s.heap.get? a=some o)(hex:o.ExactSet)(hd:o.data=.set es ep (qS (jB w) n))(he:jd es.toList (zT n))(hn:n<256)
  (f:∀h',Heap.ExtBut I s.heap h'->Q none { s with heap:=h' }):wpAny (model prog w) A (pyNext (.ref I)) Q E s:=by
 obtain⟨i,h,e,H⟩:=id hit;have hT:s.TypeIs (.ref I) "set_iterator":=⟨i,h,e⟩;have hlen:es.size=(zT n).length:=by rw[<- aG,he.length]
 have hf:(qS (jB w) n).fits es.size=true:=by rw[hlen];exact fits_of hn _
 unfold pyNext;refine b9 (wpAny_attempt (wpAny_callSpecial?_slot (name:=Str.ofString "__next__") hT F.QP
  (wpAny_call_entry F.QP hT F.Vj ?_ (F.Vi _))))
 unfold Builtin.«set_iterator.__next__»;show wpAny _ _ (fieldsOf (.ref I) >>= _) _ _ s;refine b9 (wpAny_fieldsOf h H ?_);dsimp only;refine b9 (wpAny_setEntries_of c hd hf ?_);rw[ar (by simp)]
 simp only[aM];refine b9 (Vz c hd he hn (au _) ?_);have x:(yJ w a ep es)[es.size]? =none:=Array.getElem?_eq_none (by
  have g:=(JO w a ep es).length_eq;simp at g;omega)
 rw[x];dsimp only[Option.map_none];refine b9 (wpAny_setField h H (by simp) ?_)
 show wpAny _ _ (newExc (.type "StopIteration") [] >>= _) _ _ _;refine b9 ?_;simp only[newExc,newTuple];refine b9 (wpAny_newObj_type ?_ (by size_fits))
 refine b9 (m:=firstArgMember _ _) (wpAny_of_eq (a:=Value.none) (by first|rfl|(simp only[firstArgMember];rfl)) ?_)
 refine wpAny_newObj_type ?_ (by size_fits)
 simp only[raiseNew];refine b9 (wpAny_handled ?_)
 first|rw[show A.in1.handled=none from d]|rw[d]
 refine b9 (cb (wpAny_throw ?_));refine b9 (wpAny_isInstance (T := "StopIteration") (b:=true) ⟨_,aq _ rfl,rfl⟩ isSubtype_stop ?_);exact cb (f _ (((Heap.SameBut.update ..).extBut.push _).push _))
end
def Qf.typeIs {I S:Addr}{slot e:Nat}(h:Qf s.heap I S slot i n e):s.TypeIs (.ref I) "set_iterator":=let ⟨o,H,c,_⟩:=h;⟨o,H,c⟩
section
variable {prog:Program}{A:Around}{o:Obj}{es:Array (Int×Value)}{ep:Nat}
def PJ {I S:Addr}{slot m e:Nat}(hit:Qf s.heap I S slot i m e)(h:Q (.ref I) s):wpAny (model prog w) A (pyIter (.ref I)) Q E s:=by
 refine wpAny_pyIter_slot hit.typeIs F.Vk (wpAny_call_entry F.Vk hit.typeIs F.Pz ?_ (F.Py _));show wpAny _ _ (ret (.ref I)) _ _ s;exact cb ⟨_,rfl,"set_iterator",_,hit.typeIs,F.QP.lookup,h⟩
def Walks.setP (p:A.handled=none)(I a:Addr)(g:a≠I)(hex:o.ExactSet)(hd:o.data=.set es ep (qS (jB w) n))(he:jd es.toList (zT n))(hn:n<256):
  Walks prog w A I [I,a] [I] es.size (λi v=>∃e,(yJ w a ep es)[i]? =some e/\v=e.2) (λi h=>Qf h I a (kR w n i) i es.size ep/\h.get? a=some o) where
 sub:=λb H=>by simp at H;simp[H]
 frame:=λ_ _ _ st l=>⟨let ⟨x,h1,q⟩:=st.1;⟨x,l I (by simp) x h1,q⟩,l a (by simp) o st.2⟩
 item:=λi s Q E r st f=>by
  have z:(yJ w a ep es).size=es.size:=by have:=(JO w a ep es).length_eq;simpa using this
  have k:(yJ w a ep es)[i]? =some ((yJ w a ep es)[i]'(by omega)):=Array.getElem?_eq_getElem (by omega)
  refine PC st.1 st.2 hex hd he hn k λh' d c=>?_;refine f _ h' s.toks ⟨_,k,rfl⟩ ⟨d,?_⟩ λb o H e=>c.extBut b o (λh=>H (by simp[h])) e
  exact c.extBut a o g st.2
 done:=λs Q E st f=>PD p st.1 st.2 hex hd he hn λh' j=>f h' s.toks λb o H e=>j b o (λh=>H (by simp[h])) e
 self:=λ_ _ _ _ st f=>PJ st.1 f
def Ng:typeLookup (.type "set") "__len__"=pure (some (.builtin "set.__len__")):=by rw[typeLookup_type,builtinLookup_eq_fast];kernel_rfl
def PN {Q:List Value->Shared->Prop}(Z:A.handled=none)(D:s.heap.get? a=some o)(hex:o.ExactSet)(hd:o.data=.set es ep (qS (jB w) n))(he:jd es.toList (zT n))(hn:n<256)
  (hQ:∀(h':Heap)(tk:Nat),(∀b o,b<s.heap.objs.size->s.heap.get? b=some o->h'.get? b=some o)->s.heap.objs.size<=h'.objs.size->Q ((yJ w a ep es).toList.map (·.2)) { s with heap:=h',toks:=tk }):
  wpAny (model prog w) A (collect (.ref a)) Q E s:=by
 have hT0:s.TypeIs (.ref a) "set":=⟨o,D,hex.1⟩;have t:a<s.heap.objs.size:=aF D;unfold collect;refine b9 (wpAny_runValue (codeAny_builtin PySem.F.entry_proto_collect ?_));rw[Around.under_plainId PySem.F.plain_proto_collect _];show wpAny _ A.in1 (newList [] >>= λl=>again (.builtin "list.__iadd__" ⟨[l,.ref a],[]⟩)) _ _ s;refine b9 (wpAny_newObj_type ?_);refine cb ⟨plainId_quiet PySem.F.plain_list_iadd _,codeAny_builtin PySem.F.entry_list_iadd ?_⟩;rw[Around.under_plainId PySem.F.plain_list_iadd _];show wpAny _ A.in1 (Builtin.List.listExtendWith (.ref s.heap.objs.size) (.ref a) (.ref s.heap.objs.size)) _ _ _;have d:(s.heap.push { cls:=.type "list",data:=.seq ([]:bN).toArray }).get? a=some o:=af _ D;have hT:Shared.TypeIs { s with heap:=s.heap.push { cls:=.type "list",data:=.seq ([]:bN).toArray } } (.ref a) "set":=⟨o,d,hex.1⟩
 unfold Builtin.List.listExtendWith;refine b9 (wpAny_typeOf hT ?_);have y:Builtin.List.listSameRef (.ref s.heap.objs.size) (.ref a)=false:=by simp[Builtin.List.listSameRef];exact bx t
 have U:(Value.type "set" == Value.type "list")=false:=by decide
 have P:(Value.type "set" == Value.type "tuple")=false:=by decide
 simp only[y,U,P,Bool.or_false,a7,if_false];refine b9 (PQ d hex hd he hn ?_);refine b9 (wpAny_holding ?_);unfold Builtin.List.listLengthHint;generalize x:s.heap.push { cls:=.type "list",data:=.seq ([]:bN).toArray }=H;have i:H.objs.size=s.heap.objs.size+1:=by rw[<- x,a9]
 have p:H.get? a=some o:=by rw[<- x];exact d
 have N:H.get? s.heap.objs.size=some { cls:=.type "list",data:=.seq ([]:bN).toArray }:=by rw[<- x];exact aq _ rfl
 generalize g:({ cls:=.type "set_iterator",data:=.fields #[.int 0 0,.int 0 0,.ref a,.int es.size 0,.int ep 0] }:Obj)=io;have f:Shared.TypeIs { s with heap:=H.push io } (.ref a) "set":=⟨o,af _ p,hex.1⟩
 have K:(H.push io).get? H.objs.size=some io:=aq _ (by rw[<- g];rfl)
 refine b9 (wpAny_specialOf f Ng ?_)
 wp_delta
 refine b9 (wpAny_isInstance (b:=true) f (by rw[isSubtype_type];kernel_rfl) ?_)
 show wpAny _ A.in1 (typeOf (Value.ref a) >>= _) _ _ _;refine b9 (wpAny_typeOf f ?_);refine cb ?_;show wpAny _ A.in1 (rule "list.extend.makes-room" >>= λ_=>Builtin.List.listTouch (.ref s.heap.objs.size) >>= λ_=>
  again (.builtin "list.extend.loop" ⟨[.ref s.heap.objs.size,.ref H.objs.size,.ref s.heap.objs.size],[]⟩)) _ _ _
 refine b9 (wpAny_rule ?_);have r:(H.push io).get? s.heap.objs.size=some { cls:=.type "list",data:=.seq ([]:bN).toArray }:=af _ N;refine b9 ?_;show wpAny _ A.in1 (updateSeq s.heap.objs.size (·.push .none) >>= λ_=>updateSeq s.heap.objs.size (·.pop)) _ _ _;refine b9 (wpAny_updateSeq r rfl ?_);have q:=aY (Obj.mapSeq (·.push Value.none)) r rfl;refine wpAny_updateSeq q rfl ?_;have M:=aY (Obj.mapSeq (·.pop)) q rfl;have oth:∀b o,b≠s.heap.objs.size->(H.push io).get? b=some o->(((H.push io).update s.heap.objs.size (Obj.mapSeq (·.push Value.none))).update s.heap.objs.size (Obj.mapSeq (·.pop))).get? b=some o:=
  λb o k e=>(aV _ _ (Ne.symm k)).trans ((aV _ _ (Ne.symm k)).trans e)
 have I:a≠H.objs.size:=by rw[i];exact aK (aZ t)
 have v:H.objs.size≠s.heap.objs.size:=by rw[i];exact Nat.succ_ne_self _
 have S:a≠s.heap.objs.size:=aK t;have W:=(Walks.setP (prog:=prog) (w:=w) (A:=A.in1) (by simp[Z]) H.objs.size a I hex hd he hn).toS
 have L:s.heap.objs.size∉[H.objs.size,a]:=λhm=>by
  rcases cc.mp hm with z|hm
  ·exact v z.symm
  ·exact S (cn.mp hm).symm
 have hlen:es.size=(zT n).length:=by rw[<- aG,he.length]
 have h8:=Je n;refine cb ⟨plainId_quiet PySem.F.plain_extend_loop _,codeAny_extend_loopS W (by rw[sizeLine_eq];omega) _ L _ es.size 0 _ _ _ rfl (zero_le _) ⟨?_,oth a o S (af _ p)⟩ M (ItemsOf.nil _) λs' c c' hm u h=>?_⟩
 ·refine⟨io,oth _ _ v K,by rw[<- g],?_⟩
  rw[<- g]
  have:kR w n 0=0:=by unfold kR Yf;split<;>rfl
  rw[this]
  rfl
 show wpAny _ A (load s.heap.objs.size >>= _) _ _ s';refine b9 (wpAny_load u ?_);have Y:c.toList=(yJ w a ep es).toList.map (·.2):=by
  have C:(yJ w a ep es).size=es.size:=by have:=(JO w a ep es).length_eq;simpa using this
  apply ext_getElem?
  intro j
  by_cases X:j<es.size
  ·have y:c[j]? =some (c[j]'(by rw[h.1];exact X)):=Array.getElem?_eq_getElem (by rw[h.1];exact X)
   obtain⟨e,U,P⟩:=h.2 j _ y;rw[bh,y,aw,bh,U,P]
   rfl
  ·rw[aL (by rw[aG,h.1];omega),aL (by rw[ah,aG,C];omega)]
 show wpAny _ A (pure c.toList) _ _ s';rw[Y];obtain⟨h',g',d',T,B⟩:=s';have e1:g'=s.gens:=hm.gens;have e2:d'=s.drawn:=hm.drawn;have e3:B=s.os:=hm.os;subst e1 e2 e3;refine cb (hQ h' T (λb ob k e=>?_) ?_)
 ·refine hm.heap b ob (λJ=>?_) (oth b ob (aK k) (af _ (by rw[<- x];exact af _ e)))
  rcases cc.mp J with z|z
  ·exact aK k z
  ·exact aK (aZ k) ((cn.mp z).trans i)
 ·exact bt (aF (show h'.get? s.heap.objs.size=_ from u))
end
open PySem PySem.Spec PyProof.Rows L2
theorem Ut:∀{a b:bM},a.Perm b->a.Pairwise (·<=·)->b.Pairwise (·<=·)->a=b
 |[],b,p,_,_=>by rw[List.nil_perm.mp p]|x::a,[],p,_,_=>absurd p.length_eq (by simp)|x::a,y::b,p,H,h=>by
  have d:x∈y::b:=p.mem_iff.mp (az ..);have c:y∈x::a:=p.mem_iff.mpr (az ..);have e:x=y:=by
   rcases cc.mp d with e|e
   ·exact e
   ·rcases cc.mp c with E|E
    ·exact E.symm
    ·have g:=(List.pairwise_cons.mp h).1 x e
     have f:=(List.pairwise_cons.mp H).1 y E;omega
  subst e;rw[Ut (List.Perm.cons_inv p) (List.pairwise_cons.mp H).2 (List.pairwise_cons.mp h).2]
def HK (n v i:Nat):(yn n v).testBit i=(n.testBit i || decide (i=v)):=by
 unfold yn
 by_cases h:n.testBit v=true
 ·rw[ag h]
  by_cases e:i=v
  ·subst e;simp[h]
  ·simp[e]
 ·rw[ar h]
  unfold jf;rw[Nat.testBit_or,Nat.one_shiftLeft,Nat.testBit_two_pow]
  congr 1
  by_cases e:v=i
  ·subst e;simp
  ·simp[e,Ne.symm e]
theorem Tb (i:Nat):∀(vs:bQ)(n:Nat),(vs.foldl yn n).testBit i=(n.testBit i || decide (i∈vs))
 |[],n=>by simp|v::vs,n=>by
  rw[List.foldl_cons,Tb i vs,HK]
  by_cases e:i=v
  ·simp[e]
  ·simp[e]
def N3 (vs:bQ):zT (vs.foldl yn 0)=(List.range 8).filter λi=>decide (i∈vs):=by
 unfold zT
 congr 1
 funext i
 rw[Tb];simp
def N0 (n:Nat):((zT n).map λ(i:Nat)=>(i:Int)).Pairwise (·<=·):=by
 rw[List.pairwise_map];unfold zT;refine List.Pairwise.imp ?_ (List.Pairwise.filter _ List.pairwise_lt_range);intro a b h;omega
def jd.snd {vs:bQ}(h:jd es vs):∀e∈es,∃tk,e.2=.int e.1 tk:=by
 induction h with
 |nil=>intro e he;cases he|cons v tk h i=>
  intro e he;rcases cc.mp he with rfl|he
  ·exact⟨tk,rfl⟩
  ·exact i e he
theorem VH:∀{l:List (Int×Value)},(∀e∈l,∃tk,e.2=.int e.1 tk)->IntsAre (l.map (·.2)) (l.map (·.1))
 |[],_=>.nil|e::l,h=>by
  obtain⟨tk,he⟩:=h e (az ..);rw[aU,aU,he];exact .cons _ tk (VH λx H=>h x (ao _ H))
section
variable {prog:Program}{A:Around}{o:Obj}{es:Array (Int×Value)}{ep:Nat}
def O7 (t:A.handled=none)(S:ym s.heap a (jB w) n)
  (h:∀(h':Heap)(tk:Nat)(l:Addr)(I:bN)(c:Nat),s.heap.objs.size<=l->h'.get? l=some { cls:=.type "list",data:=.seq I.toArray c }->IntsAre I ((zT n).map λ(i:Nat)=>(i:Int))->
   (∀b o,s.heap.get? b=some o->h'.get? b=some o)->Q (.ref l) { s with heap:=h',toks:=tk }):
  wpAny (model prog w) A (call (.builtin "sorted") [.ref a]) Q E s:=by
 obtain⟨o,f,p,r,hex,hd,he,hn⟩:=S;refine Calls.call_function_entry kind_sorted plain_sorted entry_sorted (args_sorted1 _) ?_;unfold Builtin.«sorted»;refine b9 (m:=checkCount "sorted" 1 1 _) (cb ?_);refine b9 (PN (by simp[t]) r hex hd he hn λd tk kp hle=>?_)
 have g:=JO w a p f;have k:IntsAre ((yJ w a p f).toList.map (·.2)) ((yJ w a p f).toList.map (·.1)):=VH λe hm=>he.snd e (g.mem_iff.mp hm);have H:((yJ w a p f).toList.map (·.1)).Perm ((zT n).map λ(i:Nat)=>(i:Int)):=by
  rw[<- he.map1];exact g.map _
 have hlen:((yJ w a p f).toList.map (·.2)).length<=8:=by
  rw[ah,g.length_eq,he.length];exact Je n
 generalize (yJ w a p f).toList.map (·.2)=vs at k hlen;generalize (yJ w a p f).toList.map (·.1)=ns at k H;refine b9 (wpAny_newList ?_);have L:(d.push (seqObj "list" vs.toArray 0)).get? d.objs.size=some (seqObj "list" vs.toArray 0):=aq _ rfl;show wpAny _ _ _ _ _ { s with heap:=d.push (seqObj "list" vs.toArray 0),toks:=tk }
 refine b9 (wpAny_holding (wpAny_call_entry slot_list_sort ⟨_,L,rfl⟩ entry_list_sort (list_sort_tree L k (by omega) λout N a1 a2 y=>⟨_,rfl,?_⟩) (args_list_sort _)))
 have j:N=(zT n).map λ(i:Nat)=>(i:Int):=Ut (a2.trans H) y (N0 n);subst j;refine cb ⟨_,rfl,?_⟩;have x:=get?_update_seq L (λ_=>(#[]:Array Value));have v:=af (seqObj "list" #[] 0) (af (seqObj "tuple" vs.toArray 0) x);obtain⟨c,u⟩:∃c,(sortedHeap (d.push (seqObj "list" vs.toArray 0)) d.objs.size vs out).get? d.objs.size=some (seqObj "list" out c):=⟨_,get?_update_seq v (λ_=>out)⟩;refine h _ tk d.objs.size out.toList c hle ?_ a1 λb ob e=>?_
 ·rw[Array.toArray_toList]
  exact u
 ·have q:b<s.heap.objs.size:=aF e
  have k1:=kp b ob q e;have nb:d.objs.size≠b:=bx (aC q hle);unfold sortedHeap;refine(aV _ _ nb).trans ?_;refine af _ (af _ ?_);exact(aV _ _ nb).trans (af _ k1)
end
section
variable {m:Ev}
def DO (K:Frag)(w:World):List V->Hp->VK->Prop:=λxs H Q=>∃(p:Addr) (vs:bQ),xs=[.ref p]/\qN K H p (vs.map λ(v:Nat)=>V.int (v:Int))/\(∀v∈vs,v<8)/\∀l,H l=none->Q (.ref l) (upd H l (.ext λh=>ym h l (jB w) (vs.foldl yn 0)))
def Mn (l:X.calm=true):jQ X (.type "set") (DO X.K X.w):=by
 intro pins s σ H xs us Q I r h;obtain⟨p,vs,rfl,g,n,q⟩:=h;obtain⟨u,rfl,d⟩:=vals1 r;cases d;obtain⟨i,c,⟨o,k,x,t,C,E⟩,_⟩:=I.list g;have f:Vals ((vs.map λ(v:Nat)=>(v:Int)).map V.int) i:=by rw[aO];exact c
 refine P9 (I.ok.hd l) ⟨o,x,t,k,E⟩ (intsAre_of f) n λh' tk S kp=>?_;refine⟨.ref s.heap.objs.size,_,I.laid (t':=tk) (o:=.ext λh=>ym h s.heap.objs.size (jB X.w) (vs.foldl yn 0)) (λb o e=>kp b o (aF e) e) (au _) ⟨S,?_,λz y a b=>a.keep b⟩,rfl,q _ (I.hok.fresh (au _))⟩;obtain⟨o,A,B,j,_⟩:=S;exact⟨o,j⟩
theorem JP:∀{ns:bM}{i:bN},IntsAre i ns->Vals (ns.map V.int) i
 |_,_,.nil=>.nil|_,_,.cons n t h=>.cons ⟨t,rfl⟩ (JP h)
def Ow (j:X.calm=true):jQ X (.builtin "sorted") (λxs H Q=>∃(p:Addr) (n:Nat),xs=[.ref p]/\H p=some (.ext λh=>ym h p (jB X.w) n)/\∀l,H l=none->Q (.ref l) (upd H l (.lst ((zT n).map λ(v:Nat)=>V.int (v:Int))))):=by
 intro pins s σ H xs us Q I r h;obtain⟨p,n,rfl,e,q⟩:=h;obtain⟨u,rfl,d⟩:=vals1 r;cases d;have S:ym s.heap p (jB X.w) n:=(show jb X.prog X.w H s.heap p (.ext λh=>ym h p (jB X.w) n) from I.hok p _ e).1
 refine O7 (I.ok.hd j) S λh' tk l i c b g f kp=>?_;have a:=JP f;rw[aO]at a;refine⟨.ref l,_,I.laid (t':=tk) (o:=.lst ((zT n).map λ(v:Nat)=>V.int (v:Int))) kp b ⟨?_,i,c,a,g⟩,rfl,q _ (I.hok.fresh b)⟩;rw[ah,sizeLine_eq]
 have:=Je n
 omega
noncomputable def ZQ:List Int->Option (bQ)
 |[]=>some []|i::is=>if 0<=i/\i<8 then(ZQ is).map (i.toNat::·) else none
theorem UT:∀{is:bM}{vs:bQ},ZQ is=some vs->is=vs.map (λ(v:Nat)=>(v:Int))/\∀v∈vs,v<8
 |[],_,e=>by cases e;exact⟨rfl,λv H=>by cases H⟩|i::is,vs,e=>by
  unfold ZQ at e
  by_cases h:0<=i/\i<8
  ·rw[ag h]at e
   cases E:ZQ is with
   |none=>rw[E]at e;cases e|some us=>
    rw[E]at e;cases e;obtain⟨b,a⟩:=UT E;refine⟨?_,λv H=>?_⟩
    ·rw[aU,<- b,a6 h.1]
    ·rcases cc.mp H with rfl|H
     ·omega
     ·exact a v H
  ·rw[ar h]at e;cases e
def Y8:W->Hx->R W:=λw A=>match w with
 |.ref n=>match A[n]? with
  |some (.lst ws)=>match intsOf ws with
   |some is=>match ZQ is with
    |some vs=>.ok (.ref A.length) (A++[.lst (((List.range 8).filter λi=>decide (i∈vs)).map λ(i:Nat)=>W.int (i:Int))])|none=>.bad
   |none=>.bad
  |_=>.bad
 |_=>.bad
def Qg (m:Ev):Ev:=λρ A=>(m ρ A).bind λw A1=>Y8 w A1
end
def Mw (a b:Value):argsOk "sum" ⟨[a,b],[]⟩:=by unfold argsOk;kernel_rfl
def sub_list_str:isSubtype (.type "list") (.type "str")=pure false:=by rw[isSubtype_type];kernel_rfl
def sub_list_bytes:isSubtype (.type "list") (.type "bytes")=pure false:=by rw[isSubtype_type];kernel_rfl
def sub_list_bytearray:isSubtype (.type "list") (.type "bytearray")=pure false:=by rw[isSubtype_type];kernel_rfl
noncomputable abbrev wz (xs:Array Value)(c:Nat):Obj:={ cls:=.type "list",dict:=none,data:=.seq xs c,slots:=#[] }
section
variable {prog:Program}{A:Around}{R:Result->Shared->Prop}{I:Addr}{wr:bO}{G:Array GenState->Array GenState->Prop}{P:Nat->Value->Prop}{St:Nat->Shared->Prop}
def Mq (W:WalksS prog w A.in1 I fp wr G n P St)(S B:Addr)(z:S∉fp)(hBS:B<=S)(ad:Nat->Addr)(a:Nat->List Value)(q:∀i v,P i v->v=.ref (ad i))(g:∀i,i<n->ad i≠S/\ad i∉wr)(Y:∀b∈wr,b<S):
  ∀(k i:Nat)(s:Shared)(T:Addr)(c M:Nat)(acc:bN),n-i=k->i<=n->St i s->s.heap.get? S=some (wz #[.ref T] c)->T≠S->T∉wr->s.heap.get? T=some (wz acc.toArray M)->
   (∀j,i<=j->j<n->∃cj,s.heap.get? (ad j)=some (wz (a j).toArray cj))->(acc++(((List.range' i k).map a).flatten)).length<=sizeLine->
   (∀s' N c',Moved (S::wr) G s s'->s'.heap.get? N=some (wz (acc++(((List.range' i k).map a).flatten)).toArray c')->((k=0/\N=T)∨B<=N)->R (.ok (.ret (.ref N))) s')->
   codeAny (model prog w) A (.builtin "sum.loop" ⟨[.ref I,.ref S,rawInt 2,rawInt 0],[]⟩) R s:=by
 have hSw:S∉wr:=λh=>z (W.sub _ h);have d:∀b∈wr,b∈S::wr:=λb f=>ao _ f;intro k
 induction k with
 |zero=>
  intro i s T c M acc hk hi t K hTS p hT hl J L;have hin:i=n:=by omega
  subst hin;refine codeAny_builtin PySem.F.entry_sum_loop ?_;rw[Around.under_plainId plain_sum_loop _];show wpAny _ A.in1 (seqItems? (.ref S) >>= _) _ _ s;refine b9 (wpAny_seqItems K rfl ?_);show wpAny _ A.in1 (tryCatch (pyNext (.ref I)) _ >>= _) _ _ s;refine b9 (wpAny_tryCatch (W.done s _ _ t λs' hm=>?_));refine cb (L s' T M (hm.mono d) ?_ (.inl ⟨rfl,rfl⟩))
  have:=hm.heap T _ p hT
  simpa using this
 |succ k ih=>
  intro i s T c M acc hk hi t K hTS p hT hl J L;have H:i<n:=by omega
  refine codeAny_builtin PySem.F.entry_sum_loop ?_;rw[Around.under_plainId plain_sum_loop _];show wpAny _ A.in1 (seqItems? (.ref S) >>= _) _ _ s;refine b9 (wpAny_seqItems K rfl ?_);show wpAny _ A.in1 (tryCatch (pyNext (.ref I)) _ >>= _) _ _ s;refine b9 (wpAny_tryCatch (W.item i s _ _ H t λv s' hP r hm=>?_));have hv:=q i v hP;subst hv;have E:=hm.heap S _ hSw K;have hT':=hm.heap T _ p hT;obtain⟨ci,hli⟩:=hl i (au _) H;have x:=hm.heap (ad i) _ (g i H).2 hli;rw[range'_succ,aU,aS,<- aP]at J L;have X:(acc++a i).length<=sizeLine:=by rw[aD]at J;omega
  show wpAny _ A.in1 ((holding [Value.ref (ad i)] (binaryOp .Add (.ref T) (.ref (ad i)))).attempt >>= _) _ _ _;refine b9 (wpAny_attempt (wpAny_holding (PySem.P.add_list hT' x ?_ (by rw[aE,aE,<- aD];exact X))))
  have ea:acc.toArray++(a i).toArray=(acc++a i).toArray:=by simp
  rw[ea];have l:S<s'.heap.objs.size:=aF E;have D:=af (wz (acc++a i).toArray 0) E;have hN1:(s'.heap.push (wz (acc++a i).toArray 0)).get? s'.heap.objs.size=some (wz (acc++a i).toArray 0):=aq _ rfl;show wpAny _ A.in1 (updateSeq S (λ_=>#[.ref s'.heap.objs.size]) >>= _) _ _ _;refine b9 (wpAny_updateSeq D rfl ?_);have C:=aY (Obj.mapSeq λ_=>#[Value.ref s'.heap.objs.size]) D rfl;refine b9 (wpAny_letGo ?_);have YA:s'.heap.objs.size≠S:=bx l;have oth:∀b o,b≠S->s'.heap.get? b=some o->(((s'.heap.push (wz (acc++a i).toArray 0)).update S (Obj.mapSeq λ_=>#[Value.ref s'.heap.objs.size])).update S (Obj.mapSeq λ_=>#[Value.ref s'.heap.objs.size])).get? b=some o:=
   λb o f e=>(aV _ _ (Ne.symm f)).trans ((aV _ _ (Ne.symm f)).trans (af _ e))
  have U:s'.heap.objs.size∉wr:=λhm2=>aW _ (lt_trans (Y _ hm2) l);refine b9 (wpAny_updateSeq C rfl (cb ⟨plainId_quiet plain_sum_loop _,ih (i+1) _ s'.heap.objs.size _ 0 (acc++a i) (by omega) H (W.frame _ s' _ _ r (by first|exact au _|exact le_succ _|omega) λb f o e=>oth b o (λh=>z (h ▸ f)) e) (aY _ C rfl) YA U ?_ ?_ J λQ T'' c'' u y Z=>?_⟩))
  ·exact(aV _ _ (Ne.symm YA)).trans ((aV _ _ (Ne.symm YA)).trans hN1)
  ·intro j h1 h2
   obtain⟨cj,hj⟩:=hl j (by omega) h2
   exact⟨cj,oth _ _ (g j h2).1 (hm.heap _ _ (g j h2).2 hj)⟩
  ·refine L Q T'' c'' (Moved.trans W.gtrans ((hm.mono d).then_heap (by first|exact au _|exact le_succ _|omega) λb o f e=>oth b o (λh=>f (by rw[h];exact az)) e) u) y (.inr ?_)
   rcases Z with ⟨_,rfl⟩|h
   ·exact bt (Nat.lt_of_le_of_lt hBS l)
   ·exact h
def N9 {p q:Addr}{N:Nat}{a:bO}{itss:List (bN)}(hh:A.handled=none)(y:s.heap.IsList p (a.map Value.ref).toArray)(S:s.heap.get? q=some (wz #[] N))
  (hlen:a.length=itss.length)(U:∀i,i<a.length->∃c,s.heap.get? (a.getD i 0)=some (wz (itss.getD i []).toArray c))(C:a≠[])(Y:itss.flatten.length<=sizeLine)
  (h:∀(h':Heap)(tk:Nat)(l:Addr)(c:Nat),s.heap.objs.size<=l->h'.get? l=some (wz itss.flatten.toArray c)->(∀b o,s.heap.get? b=some o->h'.get? b=some o)->Q (.ref l) { s with heap:=h',toks:=tk }):
  wpAny (model prog w) A (call (.builtin "sum") [.ref p,.ref q]) Q E s:=by
 refine call_function_tree PySem.F.kind_sum PySem.F.plain_sum PySem.F.entry_sum (Mw _ _) ?_;unfold Builtin.«sum»;simp only[bc,length_nil];rw[ar (by decide)]
 refine b9 (wpAny_of_eq (show Builtin.Builtins.bindParams "sum" ["start"] 0 ⟨[.ref q],[]⟩=pure [some (.ref q)] from rfl) ?_)
 refine b9 (wpAny_pyIter_list y ?_);refine b9 (cb ?_);generalize d:({ cls:=.type "list_iterator",data:=.fields #[.ref p,.int 0 0] }:Obj)=io;have n:(s.heap.push io).get? q=some (wz #[] N):=af _ S;have hT:Shared.TypeIs { s with heap:=s.heap.push io } (.ref q) "list":=⟨_,n,rfl⟩
 simp only[forIn_cons,forIn_nil];refine b9 (b9 (b9 (wpAny_isInstance (b:=false) hT sub_list_str ?_)));simp only[a7,if_false];refine cb (b9 (b9 (wpAny_isInstance (b:=false) hT sub_list_bytes ?_)));simp only[a7,if_false];refine cb (b9 (b9 (wpAny_isInstance (b:=false) hT sub_list_bytearray ?_)));simp only[a7,if_false];refine cb (cb ?_);refine b9 (wpAny_newObj_type ?_);have sz:(s.heap.push io).objs.size=s.heap.objs.size+1:=a9 ..;have k:p<s.heap.objs.size:=by obtain⟨o,e,_⟩:=y;exact aF e
 have g:q<s.heap.objs.size:=aF S;have ltI:s.heap.objs.size<(s.heap.push io).objs.size:=by rw[sz];exact bq _
 have L:∀b,b<s.heap.objs.size->b<(s.heap.push io).objs.size:=λb I=>lt_trans I ltI;have W:=(Walks.list (prog:=prog) (w:=w) (A:=A.in1) (by simp[hh]) s.heap.objs.size p (aK k) (a.map Value.ref).toArray).toS
 have M:(a.map Value.ref).toArray.size=a.length:=by simp
 rw[M]at W;have J:(s.heap.push io).objs.size∉[s.heap.objs.size,p]:=λhm=>by
  rcases cc.mp hm with z|hm
  ·exact bx ltI z
  ·exact bx (L p k) (cn.mp hm)
 have t:∀i,i<a.length->a.getD i 0<s.heap.objs.size:=λi f=>by obtain⟨c,e⟩:=U i f;exact aF e
 have K:(s.heap.push io).get? s.heap.objs.size=some io:=aq _ (by rw[<- d];rfl)
 have H:((List.range' 0 a.length).map λj=>itss.getD j []).flatten=itss.flatten:=by
  congr 1
  rw[hlen]
  apply bJ
  ·simp
  ·intro i h1 h2
   simp[ae,aa h2]
 refine cb ⟨plainId_quiet plain_sum_loop _,Mq W (s.heap.push io).objs.size s.heap.objs.size J (bt ltI) (λi=>a.getD i 0) (λi=>itss.getD i []) (λi v e=>?_) (λi f=>⟨aK (L _ (t i f)),λhm=>?_⟩) (λb I=>?_)
  a.length 0 _ q 0 N [] (by omega) (zero_le _) ⟨⟨io,af _ K,by rw[<- d],by rw[<- d];rfl⟩,(y.push _).push _⟩ (aq _ rfl) (aK (L q g)) (λhm=>?_) (af _ n) (λj _ Z=>?_) ?_ λs' X c' hm r B=>?_⟩
 ·have f:i<a.length:=by
   have:=(Array.getElem?_eq_some_iff.mp e).1
   simpa using this
  have u:(a.map Value.ref)[i]? =some v:=by simpa using e
  rw[aw,aa f]at u;rw[ae,aa f];exact(aB u).symm
 ·exact aK (t i f) (cn.mp hm)
 ·rw[cn.mp I];exact ltI
 ·exact aK g (cn.mp hm)
 ·obtain⟨c,e⟩:=U j Z
  exact⟨c,af _ (af _ e)⟩
 ·rw[nil_append,H];exact Y
 ·rw[nil_append,H]at r
  have hB:s.heap.objs.size<=X:=by
   rcases B with ⟨h0,_⟩|h0
   ·exact absurd (List.length_eq_zero_iff.mp h0) C
   ·exact h0
  obtain⟨h',g',d',T,x⟩:=s';have e1:g'=s.gens:=hm.gens;have u:d'=s.drawn:=hm.drawn;have e3:x=s.os:=hm.os;subst e1 u e3;refine h h' T X c' hB r λb o e=>hm.heap b o (λD=>?_) (af _ (af _ e));have P:b<s.heap.objs.size:=aF e;rcases cc.mp D with z|z
  ·exact aK (L b P) z
  ·exact aK P (cn.mp z)
end
section
variable {K:Frag}
def RJ (K:Frag):List V->Hp->VK->Prop:=λxs H Q=>∃(p q:Addr) (ls:List (Addr×List V)),xs=[.ref p,.ref q]/\H p=some (.lst (ls.map λl=>V.ref l.1))/\H q=some (.lst [])/\(∀l∈ls,H l.1=some (.lst l.2))/\ls≠[]/\(ls.map (·.2)).flatten.length<=qa/\
 ∀l,H l=none->Q (.ref l) (upd H l (.lst (ls.map (·.2)).flatten))
theorem Uv:∀{ls:List (Addr×List V)}{us:bN},Vals (ls.map λl=>V.ref l.1) us->us=(ls.map (·.1)).map Value.ref
 |[],_,h=>by cases h;rfl|l::ls,_,h=>by
  cases h with
  |cons r t=>cases r;rw[Uv t];rfl
def Mv (Z:X.calm=true):jQ X (.builtin "sum") (RJ X.K):=by
 intro pins s σ H xs us Q I r h;obtain⟨p,q,ls,rfl,T,S,U,t,A,k⟩:=h;obtain⟨u,v,rfl,C,B⟩:=Vals.two r;cases C;cases B;obtain⟨_,M,np,E,_,ep⟩:=I.lstM T;obtain⟨_,j,nq,D,lq,eq⟩:=I.lstM S;have b:j=[]:=by cases D;rfl
 subst b;have d:=Uv E;subst d;have hex:∀L:List (Addr×List V),(∀l∈L,H l.1=some (.lst l.2))->∃itss:List (bN),itss.length=L.length/\(∀i,i<L.length->∃c,s.heap.get? ((L.map (·.1)).getD i 0)=some (wz (itss.getD i []).toArray c))/\Vals (L.map (·.2)).flatten itss.flatten:=by
  intro L
  induction L with
  |nil=>intro _;exact⟨[],rfl,λi f=>absurd f (Nat.not_lt_zero _),.nil⟩|cons l L N=>
   intro hm;obtain⟨itss,z,y,g⟩:=N λx P=>hm x (ao _ P);obtain⟨_,it,n,J,_,e1⟩:=I.lstM (hm l (az ..));refine⟨it::itss,by simp[z],λi f=>?_,?_⟩
   ·cases i with
    |zero=>exact⟨n,e1⟩|succ i=>exact y i (by simpa using f)
   ·rw[aU,aS,aS]
    exact J.append g
 obtain⟨itss,z,y,g⟩:=hex ls U;have w:itss.flatten.length=(ls.map (·.2)).flatten.length:=g.length.symm;refine N9 (I.ok.hd Z) (itss:=itss) ⟨_,ep,rfl,np,rfl⟩ eq (by simp[z]) (λi f=>y i (by simpa using f)) (λe=>t (List.map_eq_nil_iff.mp e)) (by rw[w];exact g8 A) λh' tk l c a Y kp=>?_
 exact⟨.ref l,_,I.laid (t':=tk) (o:=.lst (ls.map (·.2)).flatten) kp a ⟨g8 A,itss.flatten,c,g,Y⟩,rfl,k _ (I.hok.fresh a)⟩
noncomputable def wJ (A:Hx):List W->Option (List (List W))
 |[]=>some []|.ref k::us=>match A[k]? with
  |some (.lst ws)=>(wJ A us).map (ws::·)|_=>none
 |_::_=>none
def we:W->W->Hx->R W:=λx y A=>match x,y with
 |.ref n,.ref k=>match A[n]?,A[k]? with
  |some (.lst us),some (.lst [])=>match wJ A us with
   |some w=>if us≠[]/\w.flatten.length<=qa then .ok (.ref A.length) (A++[.lst w.flatten]) else .bad|none=>.bad
  |_,_=>.bad
 |_,_=>.bad
def HH:∀x y A,qv (we x y A):=λx y A=>by
 unfold we
 split
 ·split
  ·split
   ·exact yW jh qe
   ·exact qe
  ·exact qe
 ·exact qe
theorem zw.app:∀{ws us:List W}{xs ys:List V},zw K φ H ws xs->zw K φ H us ys->zw K φ H (ws++us) (xs++ys)
 |[],_,_,_,h,a=>by cases h;exact a|w::ws,_,_,_,⟨v,r,e,h,t⟩,a=>by subst e;exact⟨v,_,rfl,h,zw.app t a⟩
theorem V1 (S:zE K φ A H):∀{us:List W}{w:List (List W)}{vs:List V},wJ A us=some w->zw K φ H us vs->∃ls:List (Addr×List V),vs=ls.map (λl=>V.ref l.1)/\(∀l∈ls,H l.1=some (.lst l.2))/\zw K φ H w.flatten (ls.map (·.2)).flatten/\ls.length=us.length
 |[],_,_,e,h=>by cases e;cases h;exact⟨[],rfl,λl a=>(by cases a),rfl,rfl⟩|u::us,w,_,e,⟨v,r,n,h,t⟩=>by
  subst n;cases u with
  |ref k=>
   unfold wJ at e;cases E:A[k]? with
   |none=>rw[E]at e;cases e|some o=>cases o with
    |lst ws=>
     rw[E]at e;dsimp only at e;cases b:wJ A us with
     |none=>rw[b]at e;cases e|some c=>
      rw[b]at e;cases e;obtain⟨p,xs,rfl,_,f,d⟩:=S.lst h E;obtain⟨ls,rfl,j,i,g⟩:=V1 S b t;refine⟨(p,xs)::ls,rfl,λl a=>?_,zw.app d i,by simp[g]⟩
      rcases cc.mp a with rfl|a
      ·exact f
      ·exact j l a
    |_=>rw[E]at e;cases e
  |_=>cases e
def Ig:j6 K (λx y=>RJ K [x,y]) we:=λφ A H x y u v Q S g q p=>by
 unfold we at p;cases u with
 |ref n=>cases v with
  |ref k=>
   dsimp only at p;cases E:A[n]? with
   |none=>rw[E]at p;exact p.elim|some o=>cases o with
    |lst us=>
     cases a:A[k]? with
     |none=>rw[E,a]at p;exact p.elim|some j=>cases j with
      |lst zs=>cases zs with
       |nil=>
        rw[E,a]at p;dsimp only at p;cases b:wJ A us with
        |none=>rw[b]at p;exact p.elim|some w=>
         rw[b]at p;dsimp only at p
         by_cases h:us≠[]/\w.flatten.length<=qa
         ·rw[ag h]at p
          obtain⟨i,xs,rfl,_,t,f⟩:=S.lst g E;obtain⟨P,ys,rfl,_,s,r⟩:=S.lst q a;cases r;obtain⟨ls,rfl,B,d,c⟩:=V1 S b f;refine⟨i,P,ls,rfl,t,s,B,λe=>?_,by rw[<- d.length];exact h.2,λl z=>?_⟩
          ·rw[e]at c
           exact h.1 (List.length_eq_zero_iff.mp c.symm)
          ·obtain⟨a1,a2,C⟩:=Zg S z d
           exact p _ _ _ a1 a2 C
         ·rw[ar h]at p;exact p.elim
       |cons _ _=>rw[E,a]at p;exact p.elim
      |_=>rw[E,a]at p;exact p.elim
    |_=>rw[E]at p;exact p.elim
  |_=>exact p.elim
 |_=>cases v<;>exact p.elim
variable {a b:Expr}{ma mb:Ev}
def Dr (t:TA):TE:=λσ H Q=>t σ H λvs H1=>∃i j:Int,vs=[.int i,.int j]/\∀p,H1 p=none->Q (.ref p) (upd H1 p (.rng i j))
def Iq {T:TA}(g:Gl X "range")(hm:X.mg "range"=none)(k:PA X [a,b] T)(f:starEach [a,b] X.env=[(false,eval a X.env),(false,eval b X.env)])(c:starEach [b] X.env=[(false,eval b X.env)]):PE X (.Call (.Name "range" p) [a,b] [] pos) (Dr T):=by
 intro pins s σ H Q I h;refine Call_ (ZT I g hm boot_range (PyProof.Rows.callWith_type1 (zP (k pos pins s σ H _ I h) λus s1 ⟨vs,H1,d,r,e⟩=>?_) (by rw[f,c]) (by rw[c];rfl)))
 obtain⟨i,j,rfl,q⟩:=e;obtain⟨u,v,rfl,⟨t,rfl⟩,⟨l,rfl⟩⟩:=Vals.two r;refine call_range_2 ⟨.ref _,_,d.laid (o:=.rng i j) (λb o E=>af _ E) (au _) ?_,rfl,q _ (d.hok.fresh (au _))⟩;exact⟨_,_,_,aq _ rfl⟩
noncomputable def Qw (lo:Int)(n:Nat):List V:=(List.range n).map λ(i:Nat)=>V.int (lo+i)
def Na (A:X.calm=true):jQ X (.type "list") (λxs H Q=>∃(r:Addr) (i j:Int),xs=[.ref r]/\H r=some (.rng i j)/\(-(2 ^ 62)<=i/\i<2 ^ 62)/\(-(2 ^ 62)<=j/\j<2 ^ 62)/\(j-i).toNat<=sizeLine/\∀l,H l=none->Q (.ref l) (upd H l (.lst (Qw i (j-i).toNat)))):=by
 intro pins s σ H xs us Q I r h;obtain⟨p,i,j,rfl,x,⟨a1,a2⟩,⟨D,B⟩,z,q⟩:=h;obtain⟨u,rfl,g⟩:=vals1 r;cases g;obtain⟨t1,T,t3,y⟩:=I.hok p _ x;have E:sizeLine=16777216:=sizeLine_eq;refine PySem.call_list_range (n:=(j-i).toNat) (I.ok.hd A) (show IsRange s.heap p i j 1 t1 T t3 from y) (small_one (by omega) (by omega) D B) (by rw[rangeSize_one];split<;>omega) (by omega) λh' tk acc C kk S ⟨hn,d⟩=>?_
 refine⟨.ref s.heap.objs.size,_,I.laid (t':=tk) (o:=.lst (Qw i (j-i).toNat)) kk (au _) ?_,rfl,q _ (I.hok.fresh (au _))⟩;refine⟨by unfold Qw;simpa using z,acc.toList,C,?_,by simpa using S⟩
 have a:∀(l:bN)(k:Nat),(∀(m:Nat) v,l[m]? =some v->∃t,v=.int (i+((k+m:Nat):Int)) t)->Vals ((List.range' k l.length).map λ(m:Nat)=>V.int (i+(m:Int))) l:=by
  intro l
  induction l with
  |nil=>intro k _;exact .nil|cons v l w=>
   intro k e;rw[bc,range'_succ,aU];refine .cons ?_ (w (k+1) λm f a=>?_)
   ·obtain⟨t,rfl⟩:=e 0 v rfl
    exact⟨t,rfl⟩
   ·obtain⟨t,rfl⟩:=e (m+1) f (by simpa using a)
    exact⟨t,by first|rfl|(congr 1<;>omega)|(simp;omega)⟩
 have b:acc.toList.length=(j-i).toNat:=by simpa using hn
 have:=a acc.toList 0 λm v c=>by
  obtain⟨t,rfl⟩:=d m v (by simpa using c)
  exact⟨t,by first|rfl|(congr 1<;>omega)|(simp;omega)⟩
 rw[b]at this;unfold Qw;rw[range_eq_range'];exact this
def JX (ma mb:Ev):Ev:=λρ A=>(ma ρ A).bind λx A1=>(mb ρ A1).bind λy A2=>match x,y with
 |.int i,.int j=>if jN i&&(jN j&&decide ((j-i).toNat<=qa)) then .ok (.ref A2.length) (A2++[.lst ((List.range (j-i).toNat).map λ(k:Nat)=>W.int (i+k))]) else .bad|_,_=>.bad
variable {m:Ev}{lo hi:Option Expr}
abbrev Po:=En->Hx->R (bU)
noncomputable def yh:Po:=λ_ A=>.ok none A
noncomputable def jC (m:Ev):Po:=λρ A=>(m ρ A).bind λw A1=>match w with
 |.int i=>.ok (some i) A1|_=>.bad
noncomputable def KW (ws:List W)(lo h:bU):List W:=(ws.drop (HT.j9 ws.length 0 lo)).take (HT.j9 ws.length ws.length h-HT.j9 ws.length 0 lo)
inductive MP (K:Frag)(xr:XR)(p:Po)(σ:St)(H:Hp)(Q:Option Int->Hp->Prop):Prop
 |mk (φ:bO) (A:Hx) (ρ:En) (S:zE K φ A H) (re:RE K φ H ρ σ) (h:(p ρ A).post (λo A1=>∀φ1 H1,Le K φ H φ1 H1->zE K φ1 A1 H1->Q o H1) (EB K φ H xr))
noncomputable def tP (K:Frag)(x:XR)(p:Po):TO:=λσ H Q=>MP K x p σ H Q
def SP (X:Cx)(x:XR)(e:Option Expr)(p:Po):Prop:=PO X e (tP X.K x p)
def PO.imp {e:Option Expr}{t t':TO}(h:PO X e t)(i:∀σ H Q,t' σ H Q->t σ H Q):PO X e t':=λpins s σ H Q I hw=>h pins s σ H Q I (i σ H Q hw)
end
noncomputable def Kz (_ j:Int):Bool:=decide (0<j)&&decide (j<1152921504606846976)
def RL (i j:Int):Prop:=0<j/\j<1152921504606846976
def M0 (i j:Int)(h:Kz i j=true):RL i j:=by
 unfold Kz at h;rw[aj]at h;exact⟨of_decide_eq_true h.1,of_decide_eq_true h.2⟩
def LG:qH X (binaryOp .FloorDiv) (rI RL λi j=>.int (i/j)):=Wh λi j _ _ _ _ _ h q=>by
 have a:(0:Int)<j:=h.1;have H:j<1152921504606846976:=h.2;refine floordiv_int (by omega) (by rw[Int.fdiv_eq_ediv_of_nonneg i (by omega)];exact q) (.inl (PyProof.noPylong_of_log2 ?_))
 have h0:j.natAbs≠0:=by omega
 have:j.natAbs.log2<60:=(Nat.log2_lt h0).mpr (by omega)
 omega
def gM:=Zq Kz λi j=>.int (i/j)
noncomputable def gN (RF:Nat->List W->Hx->R W):Fn:=λus A=>match us with
 |[.clo k ws _]=>RF k ws A|_=>.bad
def To {RF:Nat->List W->Hx->R W}(PG:jy)(us:List W)(A:Hx):gN RF us A=.bad∨Z2 PG RF (us.map (Kw PG)) A=gN RF us A:=by
 cases us with
 |nil=>exact .inl rfl|cons u us=>
  cases us with
  |cons v us=>cases u<;>exact .inl rfl|nil=>
   cases u with
   |clo k ws P=>
    refine .inr ?_;show Z2 PG RF [.clo k ws (PG k)] A=RF k ws A;unfold Z2;dsimp only;rw[ag rfl]
   |_=>exact .inl rfl
def RQ (e:Expr):Expr:=match e with
 |.Compare l _ _ _=>l|_=>Qz
end Mi
namespace PySem.SeqAt
open PySem
end PySem.SeqAt
namespace Mi
open PySem PySem.Spec PyProof.Rows L2
section
variable {m:Ev}
def yY (m:Ev)(p pu:Po):Ev:=λρ A=>(m ρ A).bind λw A1=>(p ρ A1).bind λl A2=>(pu ρ A2).bind λu a=>match w with
 |.ref n=>match a[n]? with
  |some (.lst ws)=>.ok (.ref a.length) (a++[.lst (KW ws l u)])|_=>.bad
 |_=>.bad
end
open PySem.W (KasT kas_rev kas_asc kas_desc kas_tail3 kas_descPart kas_count kas_place kas_bin kas_sort)
open PySem.W (KasT kas_sort kas_ask kat_run kat_snds kat_kind kat_lt kat_cons kat_nil kat_yes kat_no kat_one KatLex KatGo KatTups)
noncomputable def Pg (x:Str):It:=⟨λi _=>i<x.cps.size,λi H v h=>h=H/\∃c,x.cps[i]? =some c/\v=.str ⟨#[c]⟩,λi _=>x.cps.size<=i⟩
def L4 {K:Frag}(it:Addr)(x:Str)(t:Tok):Turn P w K tg (Pg x) [it] it (λi h=>h.IsStrIter it "str_ascii_iterator" x t i) where
 mem:=by simp
 obj:=λi h st b a=>by
  have e:b=it:=by simpa using a
  subst e;obtain⟨o,e,c,d⟩:=st;exact⟨o,e,λv z=>by rw[d]at z;cases z⟩
 keep:=λi h h' ⟨o,e,r⟩ k=>⟨o,k it (by simp) o e,r⟩
 item:=by
  intro X f hw j q i pins s σ H E I hf st g;subst f hw j;have p:x.cps[i]? =some x.cps[i]:=Array.getElem?_eq_getElem g;obtain⟨f0,f1,f2,n,f4,l⟩:=hf it (by simp)
  refine wpAny_pyNext_ascii_item st p λh' S u=>?_;have A:Inv X pins σ H { s with heap:=h',toks:=s.toks+1 }:=I.turned (λb o a e=>(u.2 b a).trans e) f0 f1 n f4 l
  obtain⟨o,e,c,d⟩:=id S;exact⟨_,rfl,Kx (s:={ s with heap:=h',toks:=s.toks+1 }) e c d (by decide) ⟨.str ⟨#[x.cps[i]]⟩,H,A,⟨_,rfl⟩,⟨rfl,_,p,rfl⟩,S,λb a=>(hf b a).1⟩⟩
 done:=by
  intro X f hw j q i pins s σ H E I hf st g;subst f hw j;obtain⟨f0,f1,f2,n,f4,l⟩:=hf it (by simp)
  exact wpAny_pyNext_ascii_end (I.ok.hd q) st (Array.getElem?_eq_none g) λh' y=>⟨rfl,I.turned (t':=s.toks) (λb o a e=>y b o a e) f0 f1 n f4 l⟩
 self:=λ_ _ _ _ _ st h=>wpAny_pyIter_striter_ascii st h
noncomputable def Yq (x:Str):Bool:=x.cps.all (· < 128)
noncomputable def XI (x:Str):jv:=⟨λ_ i=>some ((x.cps[i]?).map λc=>W.str ⟨#[c]⟩),x.cps.size⟩
section
variable {a b:Expr}{m ma mb:Ev}{K:Frag}
def CU (t:TE):TI:=λσ H R=>t σ H λv H1=>∃x,v=.str x/\Yq x=true/\R (Pg x) H1
def Dp {l:Expr}{T:TE}(c:PE X l T):PI X tg l (CU T):=by
 intro pins s σ H R I h;refine zP (c pins s σ H _ I h) λv s1 ⟨y,H1,i,r,Q⟩=>?_;obtain⟨x,e,a,q⟩:=Q;subst e;obtain⟨t,rfl⟩:=r;refine wpAny_pyIter_ascii a ?_;refine⟨s1.heap.objs.size,[s1.heap.objs.size],_,_,H1,rfl,i.kept (t':=s1.toks) λb o e=>af _ e,L4 _ x t,⟨_,aq _ rfl,rfl,rfl⟩,λb d=>?_,q⟩;have e:b=s1.heap.objs.size:=by simpa using d
 subst e;exact i.fpOk (au _) (i.hok.fresh (au _))
def Zi (m:Ev):Ei:=λρ A=>(m ρ A).bind λw A1=>match w with
 |.str x=>if Yq x then .ok (XI x) A1 else .bad|_=>.bad
noncomputable def wU (i:Int):Str:=Str.ofString (toString i)
def MD:jQ X (.type "str") (λxs H Q=>∃i:Int,xs=[.int i]/\0<=i/\i<1000/\Q (.str (wU i)) H):=by
 intro pins s σ H xs us Q I r h;obtain⟨i,rfl,h0,a,q⟩:=h;obtain⟨u,rfl,t,rfl⟩:=vals1 r;exact str_of_int_fit (N:=1000) (by rw[ar (by omega)];exact a) (by decide) λ_=>⟨.str (wU i),H,I.tok _,⟨_,rfl⟩,q⟩
def QD:W->Hx->R W
 |.int i,A=>if 0<=i/\i<1000 then .ok (.str (wU i)) A else .bad|_,_=>.bad
def Mt:jQ X (.builtin "len") (λxs H Q=>∃x:Str,xs=[.str x]/\x.length<1000000/\Q (.int x.length) H):=by
 intro pins s σ H xs us Q I r h;obtain⟨x,rfl,a,q⟩:=h;obtain⟨u,rfl,t,rfl⟩:=vals1 r;exact PySem.P.len_str (by omega) ⟨.int x.length,H,I.tok _,⟨_,rfl⟩,q⟩
noncomputable def gr:W->Hx->R W
 |.str x,A=>if x.length<1000000 then .ok (.int x.length) A else .bad|_,_=>.bad
noncomputable def Pw (r:V->List V->Hp->VK->Prop)(to:TE)(t:TA):TE:=λσ H Q=>to σ H λv H1=>∃x,v=.str x/\t σ H1 λxs h=>r v xs h Q
def KD {o:Expr}{E:bT}{to:TE}{t:TA}{name:Str}{id:String}{r:V->List V->Hp->VK->Prop}(slot:Slot "str" name id)(d:typeOf (.builtin id)=pure (.type "method_descriptor"))(hm:QK X id r)(k:PE X o to)(l:PA X (e::E) t)
  (c:attributeBase o name X.env (eval o X.env)=eval o X.env)
  (w:((backTo cpos (starEach (e::E) X.env)).all (λx=>!x.1)&&(backToKw cpos (keywordEach [] X.env)).all (λx=>x.1.isSome)
   && decide ((e::E).length+([]:bY).length+(if ([]:bY).isEmpty then 0 else 1)<30))=true)
  (b:(apos.endLine==cpos.line)=true)(j:starEach (e::E) X.env=(false,eval e X.env)::starEach E X.env)(n:(backTo cpos (starEach E X.env)).any (·.1)=false):
  PE X (.Call (.Attribute o name apos) (e::E) [] cpos) (Pw r to t):=by
 intro pins s σ H Q I h;refine wpAny_Call_method_late c w b rfl (zP (k pins s σ H _ I h) λv s1 ⟨y,H1,B,g,x,p,i⟩=>?_);subst p;obtain⟨tk,rfl⟩:=g;refine⟨"str",id,PySem.F.plainAttrs_str,slot,d,typeIs_str _ _ _,λa u=>(by cases u),?_⟩
 have A:=l cpos pins s1 σ H1 _ B i;rw[j]at A ⊢;refine Calls.callWith_builtin (by show(false || (backTo cpos (starEach E X.env)).any (·.1))=false;rw[n];rfl) (Calls.evalArgs_plain ?_)
 exact zP A λus s2 ⟨vs,C,z,f,q⟩=>hm pins s2 σ C (.str x) vs (.str x tk) us Q z ⟨tk,rfl⟩ f q
noncomputable def jm (g:W->W->Hx->R W)(a b:Ev):Ev:=λρ A=>(a ρ A).bind λx A1=>match x with
 |.str s=>(b ρ A1).bind λy A2=>g (.str s) y A2|_=>.bad
def jm.read {r:V->List V->Hp->VK->Prop}(hn:∀x y A,qv (g x y A))(j:j6 X.K (λv f=>r v [f]) g)(t:starEach [b] X.env=(false,eval b X.env)::starEach [] X.env):∀σ H Q,tM X.K xr (jm g ma mb) σ H Q->Pw r (tM X.K xr ma) (λσ H Q=>tM X.K xr mb σ H λv p=>Q [v] p) σ H Q:=by
 rintro σ H Q ⟨φ,A,ρ,S,re,h⟩
 refine tM.go S re (zV.mp h) λw A1 d H1 v c l n i=>?_;cases w with
 |str x=>
  obtain rfl:=i;refine⟨x,rfl,?_⟩;refine tM.go n (re.mono l) (qp (zV.mp c) (λ_ _ z=>z) λ_ _ z=>z.mono l) λe A2 a o v2 k L s q=>?_;exact j a A2 o _ v2 (.str x) e Q s rfl q (qp (Qi (hn _ _ _) k) (λ_ _ z=>z.mono (l.trans L)) λ_ _ z=>z)
 |_=>exact c.elim
noncomputable def strsOf:List W->Option (bR)
 |[]=>some []|.str x::ws=>(strsOf ws).map (x::·)|_::_=>none
theorem UB:∀{ws:List W}{xs:bR},strsOf ws=some xs->ws=xs.map W.str
 |[],_,h=>by cases h;rfl|w::ws,xs,h=>by
  cases w with
  |str x=>
   unfold strsOf at h;cases e:strsOf ws with
   |none=>rw[e]at h;cases h|some ys=>rw[e]at h;cases h;rw[UB e];rfl
  |_=>cases h
theorem zw.strs:∀{xs:bR}{vs:List V},zw K φ H (xs.map W.str) vs↔vs=xs.map V.str
 |[],_=>Iff.rfl|x::xs,vs=>by
  constructor
  ·rintro⟨v,r,e,h,t⟩
   have h':v=.str x:=h;subst e h';rw[zw.strs.mp t]
   rfl
  ·rintro rfl
   exact⟨.str x,xs.map V.str,rfl,rfl,zw.strs.mpr rfl⟩
theorem UH:∀{xs:bR}{us:bN},Vals (xs.map V.str) us->∃l:List (Str×Tok),us=strValues l/\l.map (·.1)=xs
 |[],_,h=>⟨[],Vals.zero h,rfl⟩|x::xs,_,.cons r t=>by
  obtain⟨tk,rfl⟩:=r;obtain⟨l,rfl,e⟩:=UH t;exact⟨(x,tk)::l,rfl,by rw[aU,e]⟩
theorem Uw:∀(l:List (Str×Tok)),Vals ((l.map (·.1)).map V.str) (strValues l)
 |[]=>.nil|p::l=>.cons ⟨p.2,rfl⟩ (Uw l)
noncomputable def rJoin (K:Frag):V->List V->Hp->VK->Prop:=λv vs H Q=>∃sep p xs,v=.str sep/\vs=[.ref p]/\qN K H p (xs.map V.str)/\JoinOk sep xs=true/\Q (.str (Txt.join sep xs)) H
def Hf:QK X "str.join" (rJoin X.K):=by
 intro pins s σ H x vs v us Q I r a h;obtain⟨sep,p,xs,rfl,rfl,e,hok,q⟩:=h;obtain⟨t,rfl⟩:=r;obtain⟨u,rfl,b⟩:=a.one;cases b;obtain⟨i,d,⟨o,k,j,g,n,E⟩,z⟩:=I.list e;obtain⟨l,rfl,f⟩:=UH d;exact SC.join ⟨o,j,g,k,E⟩ f hok λt' c=>⟨.str _,H,I.tok c,⟨t',rfl⟩,q⟩
def kP:W->W->Hx->R W:=λx y A=>match x,y with
 |.str sep,.ref n=>match A[n]? with
  |some (.lst ws)=>match strsOf ws with
   |some xs=>if JoinOk sep xs then .ok (.str (Txt.join sep xs)) A else .bad|none=>.bad
  |_=>.bad
 |_,_=>.bad
def IS:∀x y A,qv (kP x y A):=λx y A=>by
 unfold kP
 split
 ·split
  ·split
   ·exact yW jh qe
   ·exact qe
  ·exact qe
 ·exact qe
noncomputable def Ry:V->List V->Hp->VK->Prop:=λv vs H Q=>∃x y,v=.str x/\vs=[.str y]/\Q (.int (Txt.find x y)) H
def Hg:QK X "str.find" Ry:=by
 intro pins s σ H x vs v us Q I r a h;obtain⟨x,y,rfl,rfl,q⟩:=h;obtain⟨t,rfl⟩:=r;obtain⟨u,rfl,t',rfl⟩:=a.one;exact SC.find ⟨.int _,H,I.tok _,⟨_,rfl⟩,q⟩
noncomputable def Kt:W->W->Hx->R W:=λx y A=>match x,y with
 |.str x,.str y=>.ok (.int (Txt.find x y)) A|_,_=>.bad
def Iw:∀x y A,qv (Kt x y A):=λx y A=>by
 unfold Kt
 split
 ·exact jh
 ·exact qe
def Hn {prog:Program}{A:Around}{y:Str}{t u:Tok}(H:(y.length==0)=false)(a:x.length<=100000)
  (h:∀(l:List (Str×Tok))(k:Nat),l.map (·.1)=Txt.split x y->Q (.ref s.heap.objs.size) { s with heap:=s.heap.push { cls:=.type "list",data:=.seq (strValues l).toArray },toks:=k }):
  wpAny (model prog w) A (call (.builtin "str.split") [.str x t,.str y u]) Q E s:=by
 have z:x.length<=sizeLine:=by rw[sizeLine_eq];omega
 cases h1:(decide (x.length<y.length) || decide (Builtin.Str.strKind x<Builtin.Str.strKind y))
 ·cases hf:(Builtin.Str.occurrences x y 0 x.length (x.length+1)).isEmpty
  ·have e:Txt.split x y=Builtin.Str.partsBetween x (Builtin.Str.occurrences x y 0 x.length (x.length+1)) y.length:=(ar (ne_true_of_eq_false h1)).trans (ar (ne_true_of_eq_false hf))
   have hn:(Builtin.Str.partsBetween x (Builtin.Str.occurrences x y 0 x.length (x.length+1)) y.length).length<=sizeLine:=by
    rw[<- e,sizeLine_eq]
    have:=split_le x y
    omega
   refine call_meets F.slot_str_split (typeIs_str _ _ _) F.entry_str_split (F.args_str_split_2 _ _) (meets_str_split_sep x y t u h1 H hf z hn) ?_;show wants Q E _ { s with toks:=_,heap:=s.heap.push { cls:=.type "list",data:=.seq (strsFrom s.toks (Builtin.Str.partsBetween x (Builtin.Str.occurrences x y 0 x.length (x.length+1)) y.length)).toArray } }
   rw[strsFrom_eq];exact h (numbered s.toks _) _ ((numbered_texts _ _).trans e.symm)
  ·exact call_meets F.slot_str_split (typeIs_str _ _ _) F.entry_str_split (F.args_str_split_2 _ _) (meets_str_split_not_found x y t u h1 H hf)
    (h [(x,t)] s.toks ((ar (ne_true_of_eq_false h1)).trans (ag hf)).symm)
 ·exact call_meets F.slot_str_split (typeIs_str _ _ _) F.entry_str_split (F.args_str_split_2 _ _) (meets_str_split_cannot_occur x y t u h1)
   (h [(x,t)] s.toks (ag h1).symm)
def Rf:V->List V->Hp->VK->Prop:=λv vs H Q=>∃x y,v=.str x/\vs=[.str y]/\(y.length==0)=false/\x.length<=100000/\∀l,H l=none->Q (.ref l) (upd H l (.lst ((Txt.split x y).map V.str)))
def LQ:QK X "str.split" Rf:=by
 intro pins s σ H x vs v us Q I r a h;obtain⟨x,y,rfl,rfl,c,d,q⟩:=h;obtain⟨t,rfl⟩:=r;obtain⟨u,rfl,t',rfl⟩:=a.one;refine Hn c d λl k e=>?_;refine⟨.ref s.heap.objs.size,_,I.laid (t':=k) (o:=.lst ((Txt.split x y).map V.str)) (λb o e=>af _ e) (au _) ⟨?_,strValues l,_,by rw[<- e];exact Uw l,aq _ rfl⟩,rfl,q _ (I.hok.fresh (au _))⟩
 rw[ah,sizeLine_eq]
 have:=split_le x y
 omega
noncomputable def wI:W->W->Hx->R W:=λx y A=>match x,y with
 |.str x,.str y=>if (y.length==0)=false/\x.length<=100000 then .ok (.ref A.length) (A++[.lst ((Txt.split x y).map W.str)]) else .bad|_,_=>.bad
def Lz:∀x y A,qv (wI x y A):=λx y A=>by
 unfold wI
 split
 ·exact yW jh qe
 ·exact qe
end
def Pf (K:Frag)(x y:Str):Prop:=∃t,nsIn K mainGlobals x=some (some (.str y t))
def Dq {K:Frag}{y:Str}{t:Tok}(a:nsIn K mainGlobals x=some (some (.str y t))):Pf K x y:=⟨t,a⟩
section
variable {m:Ev}{lo hi:Option Expr}
noncomputable def yX:W->W->Hx->R W:=λx y A=>match x,y with
 |.str x,.str y=>if x.length+y.length<=100000 then .ok (.str (x++y)) A else .bad|_,_=>.bad
def HF:∀x y A,qv (yX x y A):=λx y A=>by
 unfold yX
 split
 ·exact yW jh qe
 ·exact qe
noncomputable def gR:W->W->Hx->R W:=λx y A=>match x,y with
 |.str x,.int i=>if 0<=i/\i<100000 then(match x.cps[i.toNat]? with
  |some c=>.ok (.str ⟨#[c]⟩) A|none=>.bad) else .bad
 |_,_=>.bad
def EV:∀x y A,qv (gR x y A):=λx y A=>by
 unfold gR
 split
 ·refine yW ?_ qe
  split
  ·exact jh
  ·exact qe
 ·exact qe
noncomputable def CZ:V->Option Int->Option Int->Hp->VK->Prop:=λv lo h H Q=>∃x,v=.str x/\x.length<=100000/\Q (.str (Txt.slice x lo h)) H
def UX {v:Value}{i:bU}(h:IsPart v i):∃l:Option (Int×Tok),v=partValue l/\l.map (·.1)=i:=by
 cases h with
 |none=>exact⟨none,rfl,rfl⟩|int j t=>exact⟨some (j,t),rfl,rfl⟩
def EF:X7 X CZ:=by
 intro pins s σ H x v c b lo i S Q I r a p pu h;obtain⟨y,rfl,z,q⟩:=h;obtain⟨t,rfl⟩:=r;obtain⟨l,rfl,rfl⟩:=UX p;obtain⟨u,rfl,rfl⟩:=UX pu;refine⟨"str",_,F.slot_str_getitem.lookup,typeIs_str _ _ _,wpAny_getItem_str_slice (l:=l) (u:=u) (st:=none) a rfl ?_⟩;exact post_val_or_str ⟨aQ (Txt.slice_le y _ _) (by rw[sizeLine_eq];omega),λt' k=>⟨.str (Txt.slice y (l.map (·.1)) (u.map (·.1))),H,I.tok k,⟨t',rfl⟩,q⟩⟩
noncomputable def wO (m:Ev)(p pu:Po):Ev:=λρ A=>(m ρ A).bind λw A1=>(p ρ A1).bind λl A2=>(pu ρ A2).bind λu a=>match w with
 |.str x=>if x.length<=100000 then .ok (.str (Txt.slice x l u)) a else .bad|_=>.bad
noncomputable def Rc:V->List V->Hp->VK->Prop:=λv vs H Q=>∃x y,v=.str x/\vs=[.str y]/\x.length<=100000/\Q (.str (Txt.stripChars x y)) H
def Ie:QK X "str.strip" Rc:=by
 intro pins s σ H x vs v us Q I r a h;obtain⟨x,y,rfl,rfl,z,q⟩:=h;obtain⟨t,rfl⟩:=r;obtain⟨u,rfl,t',rfl⟩:=a.one;exact SC.stripChars (λt' k=>⟨.str _,H,I.tok k,⟨t',rfl⟩,q⟩) (by rw[sizeLine_eq];omega)
noncomputable def gF:W->W->Hx->R W:=λx y A=>match x,y with
 |.str x,.str y=>if x.length<=100000 then .ok (.str (Txt.stripChars x y)) A else .bad|_,_=>.bad
def LU:∀x y A,qv (gF x y A):=λx y A=>by
 unfold gF
 split
 ·exact yW jh qe
 ·exact qe
def NK:jQ X (.type "int") (λxs H Q=>∃(x:Str) (i:Int),xs=[.str x]/\PySem.intText? x=some i/\x.length<=640/\Q (.int i) H):=by
 intro pins s σ H xs us Q I r h;obtain⟨x,i,rfl,a,l,q⟩:=h;obtain⟨u,rfl,t,rfl⟩:=vals1 r;exact W.KIN.call_text a l ⟨.int i,H,I.tok _,⟨_,rfl⟩,q⟩
noncomputable def Jl:W->Hx->R W
 |.str x,A=>if x.length<=640 then(match PySem.intText? x with
  |some i=>.ok (.int i) A|none=>.bad) else .bad
 |_,_=>.bad
end
@[irreducible] noncomputable def Wk (X:Cx)(x:XR)(e:bT)(ms:List Ev):Prop:=Mi.SJ X x e ms
def Ri:@Wk=@Mi.SJ:=by
 funext X xr es ms
 unfold Wk
 rfl
section
def jw:@zp=@Mi.SE/\@kZ=@Mi.SA/\@yi=@Mi.ST/\@w8=@Mi.SW/\@yU=@Mi.SS/\@yZ=@Mi.YC/\@kH=@Mi.SI/\@wA=@Mi.SG/\@Zv=@Mi.SF/\@w9=@Mi.SQ/\@gv=@Mi.Yy/\@wY=@Mi.SM/\@Wk=@Mi.SJ:=⟨Ko,G8,G9,Xb,G4,GN,G5,Xg,Xj,Xi,GV,Xd,Ri⟩
def UI {g:Heap}{E:bT}{f:Fn}(o:gx X g xr)(F:kX X.prog X.w X.K X.mg X.base k x n f)(i:jD k X.A)(B:kZ X xr (e::E) mr)(j:gW mr n:=by repeat' (first|exact ql|refine zx ?_))(t:Gl X x:=by rfl)
  (c:(x==("__debug__":Str))=false:=by decide)(he:starEach (e::E) X.env=(false,eval e X.env)::starEach E X.env:=by rfl)(l:(backTo pos (starEach E X.env)).any (·.1)=false:=by rfl):
  zp X xr (.Call (.Name x p) (e::E) [] pos) (zQ f mr):=by
 try simp only[jw]at*
 obtain⟨N,fd,ps,F,hm,s,u⟩:=F;refine PE.imp (Tv F i t hm s u .nil o.passes B c he l) λσ H Q ⟨φ,A,ρ,S,re,h⟩=>?_;have h':=zV.mp h;refine⟨φ,A,ρ,S,re,?_⟩;cases r:mr ρ A with
 |ok ws A1=>
  rw[r]at h';intro b H1 vs L I q;have v:vs.length=n:=by rw[<- q.length];exact j ρ A ws A1 r
  rw[bg];refine⟨v,b,A1,ws,I,q,qp h' (λ_ _ z=>z.mono L) λy A2 z a J d D M C=>?_⟩;exact⟨y,M,rfl,C,z a J (L.trans d) D⟩
 |exc y A1=>rw[r]at h';exact h'|bad=>rw[r]at h';exact h'
def TV {m:Ev}(h:yi X.nox yB e m):yi X xr e λρ A=>(m ρ A).nox:=by
 try simp only[jw]at*
 refine PT.imp (PT.nox h) λσ H Q ⟨φ,A,ρ,S,re,q⟩=>⟨φ,A,ρ,S,re,?_⟩;cases E:m ρ A with
 |ok w A1=>(try dsimp only at q);rw[E]at q;exact q|exc y A1=>(try dsimp only at q);rw[E]at q;exact q.elim|bad=>(try dsimp only at q);rw[E]at q;exact q.elim
def M4 {m1:Ex}{s:b8}(h:yZ X.nox yB s m1):yZ X xr s λρ A=>(m1 ρ A).nox:=by
 try simp only[jw]at*
 refine yr.imp (yr.nox h) λD σ H ⟨φ,A,ρ,S,re,q⟩=>⟨φ,A,ρ,S,re,?_⟩;cases e:m1 ρ A with
 |ok w A1=>(try dsimp only at q);rw[e]at q;exact q|exc y A1=>(try dsimp only at q);rw[e]at q;exact q.elim|bad=>(try dsimp only at q);rw[e]at q;exact q.elim
def Uh {g:Heap}{E:bT}{top:Str}{np:Pos}(o:gx X g xr)(c:Gv X.K top x)(d:kZ X xr (e::E) mr)(l:gW mr n:=by repeat' (first|exact ql|refine zx ?_))(hn:n<=sizeLine:=by decide)(a:Gl X x:=by rfl)(h:X.calm=true:=by rfl)
  (b:(x==("__debug__":Str))=false:=by decide)(he:starEach (e::E) X.env=(false,eval e X.env)::starEach E X.env:=by rfl)(H:(backTo cpos (starEach E X.env)).any (·.1)=false:=by rfl):
  yU X xr (.Raise (some (.Call (.Name x np) (e::E) [] cpos)) none pos) (Kj x mr):=by
 try simp only[jw]at*
 exact M7 o c.at_ c.exc PySem.F.excBase_ValueError d l hn a h b he H
def Bw {K:Frag}{st:Stmt}{m:Ex}(F:kY K x x st f fd)(hm:mg x=some (.ref f))(S:jJ N ps (qC st))
  (j:∀(kV doc pm:Value)(an:bZ)(c ct:Value)(us:bN),us.length=ps.length->bindArgs (fnOf x x (ZN st) (kL st) (qC st) .none kV doc pm an c ct) ⟨us,[]⟩=pure (ps.zip us))
  (a:∀(c:Value)(A:Around)(outer:bW)(s:Shared)(H:Hp)(E:XK),jD k (A.deeper (envOfC x (qC st) s.heap.objs.size f c))->
   gx (wk (wW P w) P w K mg base N x (qC st) f c A outer s H E) s.heap (gC K E)->yZ (wk (wW P w) P w K mg base N x (qC st) f c A outer s H E) (gC K E) (kL st) m):
  kX P w K mg base (k+1) x ps.length (Jq N.length m):=by
 try simp only[jw]at*
 refine⟨f,fd,ps,?_,hm,F.kp,F.binds j⟩;obtain⟨v,u,kV,doc,pm,an,c,ct,o,rfl,lk,d⟩:=F.ex;refine Xm lk d S (λvs H Q E h=>h.len) λA outer s H vs Q E i ⟨z,φ,A1,ws,p,r,h⟩=>⟨_,a c A outer s H E i CT,?_⟩;refine⟨φ,A1,ws.map some++List.replicate (N.length-ws.length) none,p,RE.start r,?_⟩;have h':=zV.mp h;show R.post _ (FB K φ H _) _;cases e:m (ws.map some++List.replicate (N.length-ws.length) none) A1 with
 |ok n A2=>
  rw[e]at h';cases n with
  |rt w=>exact h'|nx ρ=>exactλb t g l q _=>h' b t .non l q rfl|bk ρ=>exact h'.elim|ct ρ=>exact h'.elim
 |exc y A2=>rw[e]at h';exact h'|bad=>rw[e]at h';exact h'.elim
def Hc {L:Addr}{l:Nat}{n:Str}{y:Str}{Z:Str}{cs:bR}{PG:Nat->Obj->Addr->Obj->List V->Prop}{lam:Nat->Fn}{U:bN}{newD:String}{np:Pos}{cp:Pos}{ep:Pos}{dp:Pos}{yp:Pos}{J:Pos}{ap:Pos}{hp:Pos}(hL:∀k,Qy X.prog X.w X.K X.mg X.base kk (PG k) (lam k))(hr:jD kk X.A)(hst:X.stack=X.env::X.outer)(hFr:X.env.frame=some L)(hD:yI X.K Z (.ref D))(exD:Mi.gw X.K D U newD=true)(hbD:U.contains (.type "BaseException")=true)
  (hcs:∀c,cs.contains c=true->∀C,yI X.K c (.ref C)->∃B f,Mi.gw X.K C B f=true/\QF X.K C D=true)
  (hN:X.N.Nodup)(hi:X.N[i]? =some x)(hx:X.env.scope.names.lookup x=some .local)(hl:X.N[l]? =some n)(hn:X.env.scope.names.lookup n=some .local)(hj:X.N[j]? =some y)(hy:X.env.scope.names.lookup y=some .local)
  (hg:Gl X Z)(hs1:swapsWith (.Call (.Name x np) [] [] cp) none ep.line X.env=pure false:=by rfl)(hs2:swapsWith (.Name n J) (some (.Name y yp)) ap.line X.env=pure false:=by rfl)
  (hdx:(x==("__debug__":Str))=false:=by decide)(hdn:(n==("__debug__":Str))=false:=by decide)(hdD:(Z==("__debug__":Str))=false:=by decide):
  yU X xr (.Try [.Expr (.Call (.Name x np) [] [] cp) ep] [.ExceptHandler (some (.Name Z dp)) (some n) [.Assign [.Name y yp] (.Name n J) ap] hp] [] [] pos) (Ym i j l cs PG lam):=by
 try simp only[jw]at*
 intro pins s σ H D0 I ⟨φ,A,ρ,S,re,h⟩;unfold Ym K0 at h;cases ei:ρ[i]? with
 |none=>rw[ei]at h;exact h.elim|some ow=>
  cases ow with
  |none=>rw[ei]at h;exact h.elim|some w=>
   rw[ei]at h;cases w with
   |clo k ws P=>
    dsimp only at h
    by_cases hP:P=PG k
    ·rw[ag hP]at h
     subst hP;obtain⟨v,hv,a,ob,u,c,oc,uc,vs,rfl,h1,h2,hp',rvs⟩:=re.get i _ ei;obtain⟨⟨fd0,hfd⟩,fd,F,hb⟩:=hL k a ob u c oc uc vs hp';have ho:s.heap.get? a=some ob:=(show jb X.prog X.w H s.heap a (.frz ob u) from I.hok a _ h1).1
     refine EI (i:=l) (L:=L) (k:=Bv X.K φ H ρ j l D0)
      I hst hFr hD exD hbD hN hl (.inl hn) ?body ?t hg hdD (.inr hn)
     case body=>
      refine wpAny_execs_cons (wpAny_Expr_any ?_ I.quiet hs1);obtain⟨m,hns,Q⟩:=I.loc;obtain⟨u',r',lk⟩:=Q i x (.ref a) hi hv (.inl hx);obtain rfl:u'=Value.ref a:=r';have hm:m x=some (.ref a):=by
       rcases lk with ⟨_,e⟩|⟨q|q,_⟩
       ·exact e
       ·rw[show X.env.kindOf x=some .local from hx]at q;cases q
       ·rw[show X.env.kindOf x=some .local from hx]at q;cases q
      refine wpAny_Call_Name_kw (wpAny_Name (wpAny_loadName_local I.ok.kind hx hns hm ?_) hdx);have hK:Frag.In [(a,ob)] s.heap:=λb o e=>by
       rw[lookup_cons]at e
       by_cases hb:b=a
       ·subst hb;simp at e;subst e;exact ho
       ·have:(b==a)=false:=by simpa using hb
        rw[this]at e;cases e
      have hkp:keepIn [(a,ob)] (.ref a)=true:=by
       unfold keepIn;obtain⟨o1,o2,o3,o4⟩:=ob;cases (show o3=_ from hfd)
       simp[lookup_cons]
      refine PySem.W.callWith_K0 (K:=[(a,ob)]) (first:=[]) hK hkp ?_;refine wpAny_call (codeAny_mono (F.run X.A X.stack s H ⟨[],[]⟩ [] [] (λ_ H1=>D0.nx σ H1)
       (C0 X.K φ H ρ j l D0 cs)
       hr I.env0 (hb s) .nil ⟨rfl,h1,h2,φ,A,ws,S,rvs,?_⟩) λr s' p=>?_)
      ·cases er:lam k ws A with
       |ok w1 A1=>
        rw[er]at h;exactλd H' v' z Y _=>h d H' σ z Y (re.mono z)
       |exc E A1=>
        rw[er]at h;dsimp only at h
        by_cases T:cs.contains E=true
        ·rw[ag T]at h
         exactλd H' z Y Ca g=>⟨E,Ca,rfl,g,T,d,A1,z,Y,h⟩
        ·rw[ar T]at h;exact h.elim
       |bad=>rw[er]at h;exact h.elim
      ·cases r with
       |error e=>
        unfold CR at p;dsimp only at p;have un:∀b o,s.heap.get? b=some o->∃o',s'.heap.get? b=some o':=by
         obtain⟨_,_,_,_,_,_,un,_⟩:=p;exactλb o e=>un.there b o e (by simp)
        obtain⟨ea,C,H',rfl,I',ly,tr,E,Ca,ec,g,T,φ1,A1,l1,S1,hn1⟩:=Uq I p s.heap λb o e=>⟨o,e⟩;cases ec;obtain⟨B,f,exC,up⟩:=hcs E T C g;exact⟨ea,C,H',B,f,rfl,I',ly,tr,un,exC,up,λoe hoe M=>⟨E,φ1,A1,l1.trans (Le.new M),S1.lay M,⟨ea,oe,.own 0,C,rfl,jI,hoe,g⟩,hn1⟩⟩
       |ok fl=>
        cases fl with
        |ret u1=>
         obtain⟨v1,H1,I1,_,q1⟩:=I.after p;exact wpAny_execs_nil ⟨rfl,σ,H1,I1,q1⟩
        |next=>exact False.elim p|brk=>exact False.elim p|cont=>exact False.elim p
     case t=>
      rintro ea C H2 s2 I2 ⟨E,d,A',z,Y,rx,hn'⟩ E'
      refine Np (i:=l) (j:=j) I2 hN hl hj hn (.inl hy) (λs' I'=>?_) hs2 (.inr hy) hdn;exact⟨_,H2,I',hn' d H2 _ z Y ((((re.mono z).set rx).set rx).unset)⟩
    ·rw[ar hP]at h;exact h.elim
   |_=>exact h.elim
def kB {m:Ev}{P:Pos}{f:Str->Option Bool}{C:Addr}(c:Yg X.K f (.ref C))(i:yI X.K x (.ref C))(hm:X.mg "isinstance"=none)(j:zp X xr e m)(g:Gl X "isinstance":=by rfl)(a:Gl X x:=by rfl)(hd:(x==("__debug__":Str))=false:=by decide)
  (b:starEach [e,.Name x P] X.env=(false,eval e X.env)::starEach [.Name x P] X.env:=by rfl)(k:(backTo pos (starEach [.Name x P] X.env)).any (·.1)=false:=by rfl):
  zp X xr (.Call (.Name "isinstance" p) [e,.Name x P] [] pos) (qQ f m):=by
 try simp only[jw]at*
 have d:PE X (.Name x P) (tC (.ref C)):=λpins s σ H Q I h=>J2 I a (bb I.mod.kin I.mod.glob i) ⟨.ref C,H,I,rfl,h⟩ hd;exact PE.imp (ZF (Ta (cv:=.ref C) c λu r=>r) g hm (by rfl) (qZ j (qZ d jP) b) (by decide) (by decide) b k) (qQ.read λσ H Q h=>h)
def Ik {m:Ev}{P:Pos}{f:Str->Option Bool}{T:String}(d:Yg X.K f (.type T))(hm:X.mg "isinstance"=none)(a:X.mg x=none)(i:bootBuiltins x=some (.type T))(j:zp X xr e m)(g:Gl X "isinstance":=by rfl)(b:Gl X x:=by rfl)(hn:x ≠ "__name__":=by decide)(hd:(x==("__debug__":Str))=false:=by decide)
  (c:starEach [e,.Name x P] X.env=(false,eval e X.env)::starEach [.Name x P] X.env:=by rfl)(k:(backTo pos (starEach [.Name x P] X.env)).any (·.1)=false:=by rfl):
  zp X xr (.Call (.Name "isinstance" p) [e,.Name x P] [] pos) (qQ f m):=by
 try simp only[jw]at*
 exact PE.imp (ZF (Ta (cv:=.ty T) d λu r=>r) g hm (by rfl) (qZ j (qZ (Kf b a i (v:=.ty T) rfl hn hd) jP) c) (by decide) (by decide) c k) (qQ.read λσ H Q h=>h)
def U2 {q:Str}{t:Lm}(d:ls[k]? =some t)(L:KA X.N X.env.scope t=true)(B:BMain X.mg X.base)(a:X.env.code=.ref c)(C:CodeHd X.base c Pt)(g:X.env.qual ++ "<lambda>"=q)(f:defaultsOf t.params X.env=([],[])):
  zp X xr (.Lambda t.params t.body t.scope pos) (wm n q Pt k (wB X.env q ls k)):=by
 try simp only[jw]at*
 intro pins s σ H Q I h;rw[FZ d]at h;exact Df B a C (V8 λy b e=>I.ok.has _ ((TQ L).free y b e)) g f pins s σ H Q I h
def CY {K:Frag}{q:Str}{st:Stmt}{m:jy->Ex}(F:kY K x x st f fd)(hn:nsIn K mainGlobals x=some (some (.ref f)))(t:tabIn K x=some (c,Pt))(S:jJ N ps (qC st))
  (a:∀(A:Around)(outer:bW)(s:Shared)(H:Hp)(E:XK),jD k (A.deeper (envOfC x (qC st) s.heap.objs.size f (.ref c)))->
   yZ (wk w6 P w K mg base N x (qC st) f (.ref c) A outer s H E).nox yB (kL st) (m (wB (envOfC x (qC st) s.heap.objs.size f (.ref c)) q ls))):
  yv P w K mg base w6 (k+1) f fd ps (spT K ps.length λPF=>jk N.length (m PF)):=by
 try simp only[jw]at*
 obtain⟨B,z,kV,doc,pm,an,C,ct,o,rfl,lk,d⟩:=F.ex;have v:C=.ref c:=Ir hn lk t;subst v;refine Xm lk d S (λvs H Q E h=>h.len) λA outer s H vs Q E i ⟨D,φ,A1,ws,n,r,h⟩=>⟨_,yr.nox (a A outer s H E i),?_⟩;refine⟨φ,A1,ws.map some++List.replicate (N.length-ws.length) none,n,RE.start r,?_⟩;have h':=zV.mp (h (wB (envOfC x (qC st) s.heap.objs.size f (.ref c)) q ls));show R.post _ (FB K φ H _) _;cases e:m (wB (envOfC x (qC st) s.heap.objs.size f (.ref c)) q ls) (ws.map some++List.replicate (N.length-ws.length) none) A1 with
 |ok j A2=>
  rw[e]at h';cases j with
  |rt w=>exact h'|nx ρ=>exactλb u g l p _=>h' b u .non l p rfl|bk ρ=>exact h'.elim|ct ρ=>exact h'.elim
 |exc y A2=>rw[e]at h';exact h'.elim|bad=>rw[e]at h';exact h'.elim
def HQ {m:Ev}{b:Pos}{P:Pos}{pt:Pos}{x1:Str}{x2:Str}{kt:Nat}(t T:Ty)(hm:X.mg "isinstance"=none)(n:X.mg x1=none)(k:X.mg x2=none)(g:bootBuiltins x1=some (.type t.nm))(f:bootBuiltins x2=some (.type T.nm))(z:zp X xr e m)(y:Gl X "isinstance":=by rfl)(q:Gl X x1:=by rfl)(o:Gl X x2:=by rfl)
  (j:x1 ≠ "__name__":=by decide)(r:(x1==("__debug__":Str))=false:=by decide)(i:x2 ≠ "__name__":=by decide)(hd2:(x2==("__debug__":Str))=false:=by decide)
  (h0:starEach [.Name x1 b,.Name x2 P] X.env=(false,eval (.Name x1 b) X.env)::starEach [.Name x2 P] X.env:=by rfl)(s:starEach [.Name x2 P] X.env=(false,eval (.Name x2 P) X.env)::starEach [] X.env:=by rfl)
  (a:starEach [e,.Tuple [.Name x1 b,.Name x2 P] kt pt] X.env=(false,eval e X.env)::starEach [.Tuple [.Name x1 b,.Name x2 P] kt pt] X.env:=by rfl)(B:(backTo pos (starEach [.Tuple [.Name x1 b,.Name x2 P] kt pt] X.env)).any (·.1)=false:=by rfl):
  zp X xr (.Call (.Name "isinstance" p) [e,.Tuple [.Name x1 b,.Name x2 P] kt pt] [] pos) (Wa t T m):=by
 try simp only[jw]at*
 exact PE.imp (ZF Im y hm (by rfl) (qZ z (qZ (S9 (qZ (Kf q n g (v:=.ty t.nm) rfl j r) (qZ (Kf o k f (v:=.ty T.nm) rfl i hd2) jP s) h0)) jP) a) (by decide) (by decide) a B) λσ H Q ⟨φ,A,ρ,S,re,h⟩=>by
   refine tM.go S re (zV.mp h) λw A1 d H1 v a L u x=>?_;cases E:jE w A1 with
   |none=>rw[E]at a;exact a.elim|some t'=>
    rw[E]at a;refine⟨by show 2<=sizeLine;decide,λl c=>⟨v,t',l,rfl,qy.of jI,?_,a d _ _ (L.trans (Le.new c)) (u.lay c) rfl⟩⟩
    exact U7 (u.lay c) (x.mono (Le.new c)) E
def Hh {m:Ev}(he:zp X xr e m)(g:wA X tg tw)(f:swapsWithSole [tg] e pos.line X.env=pure false:=by rfl)(hw:swappedStores [tg] e X.env=pure none:=by rfl)(a:(assignEach [tg] X.env).map (·.2)=[assign tg X.env]:=by rfl):yU X xr (.Assign [tg] e pos) (K9 m tw):=by
 try simp only[jw]at*
 exact PS.imp (SU he g f hw a) λD σ H ⟨φ,A,ρ,S,re,h⟩=>by
   refine tM.go S re (zV.mp h) λw A1 b H1 v a l s q=>?_;cases E:tw w ρ with
   |none=>rw[E]at a;exact a.elim|some d=>
    rw[E]at a;exact⟨b,A1,ρ,w,d,s,re.mono l,q,E,λc r=>a b H1 c l s r⟩
def TM {a:Expr}{b:Expr}{ma:Ev}{mb:Ev}{pt:Pos}{kt:Nat}(i j:Nat){y:Str}{P py p:Pos}{k2:Nat}(t:X.calm=true)(C:X.N.Nodup)(B:zp X xr a ma)(u:zp X xr b mb)(r:X.N[i]? =some x:=by rfl)(o:X.N[j]? =some y:=by rfl)(d:i≠j:=by decide)
  (n:X.env.scope.names.lookup x=some .local:=by rfl)(k:X.env.scope.names.lookup y=some .local:=by rfl)
  (hw:swappedStores [.Tuple [.Name x P,.Name y py] kt pt] (.Tuple [a,b] k2 p) X.env=pure (some [x,y]):=by rfl)
  (s:swapsWithSole [.Tuple [.Name x P,.Name y py] kt pt] (.Tuple [a,b] k2 p) pos.line X.env=pure false:=by rfl)
  (f:starEach [a,b] X.env=(false,eval a X.env)::starEach [b] X.env:=by rfl)(e:starEach [b] X.env=(false,eval b X.env)::starEach [] X.env:=by rfl):
  yU X xr (.Assign [.Tuple [.Name x P,.Name y py] kt pt] (.Tuple [a,b] k2 p) pos) (Yo i j ma mb):=by
 try simp only[jw]at*
 exact PS.imp (Dk t C r o d n k (qZ B (qZ u jP e) f) hw s) λD σ H ⟨φ,A,ρ,S,re,h⟩=>by
   refine tM.go S re (zV.mp h) λw A1 g H1 v f l I Q=>?_;refine tM.go I (re.mono l) (qp (zV.mp f) (λ_ _ z=>z) λ_ _ z=>z.mono l) λK A2 c J v2 e L E q=>?_;exact⟨v,v2,rfl,e c J _ (l.trans L) E (((re.mono (l.trans L)).set (Q.mono L)).set q)⟩
end
section
def UG {q:Str}{E:bT}{f0:Fn}{N:jy->Fn}(g:∀x,X.fn x=true)(hl:∀t∈ls,QH X.prog X.w X.K X.mg j q t)(f:∀t∈ls,Jo X t)
  (hR:∀base PG,(∀k,Qy X.prog X.w X.K X.mg base (j+1) (PG k) (yL ls k))->zX X.prog X.w X.K X.mg base kk x n (N PG))(hF:∀PG us A,f0 us A=.bad∨N PG (us.map (Kw PG)) A=f0 us A)(hr:jD kk X.A)
  (ha:kZ X yB (e::E) mr)(hn:gW mr n:=by repeat' (first|exact ql|refine zx ?_))(hg:Gl X x:=by rfl)(L:(x==("__debug__":Str))=false:=by decide)
  (he:starEach (e::E) X.env=(false,eval e X.env)::starEach E X.env:=by rfl)(C:(backTo pos (starEach E X.env)).any (·.1)=false:=by rfl):
  zp X yB (.Call (.Name x p) (e::E) [] pos) (gm ls (wB X.env q ls) f0 mr):=by
 try simp only[jw]at*
 intro pins s σ H Q I ⟨φ,A,ρ,S,re,h⟩;obtain⟨fa,fd,ps,F,hm,hk,hb⟩:=hR _ _ (Tt I g hl f).2;refine wpAny_Call_Name_kw (J2 I hg hm ?_ L);have h':=zV.mp h;refine callWith_K (h₀:=X.base) I.ok.mod.kin hk (zP (ha pos pins s σ H (λvs H1=>∃a A1 ws us,Le X.K φ H a H1/\zE X.K a A1 H1/\zw X.K a H1 ws vs/\ws.length=n/\wM ls (wB X.env q ls) ρ ws=some us/\(f0 us A1).post (PB X.K a H1 Q) (EB X.K a H1 yB)) I ⟨φ,A,ρ,S,re,?_⟩) λus s1 ⟨vs,H1,o,Z,a,A1,ws,u,l,U,Y,B,hc,D⟩=>⟨o.kIn,?_⟩) he C
 ·cases i:mr ρ A with
  |ok ws A1=>
   rw[i]at h';intro a H1 vs l U q1;have h':(match wM ls (wB X.env q ls) ρ ws with|some us=>f0 us A1|none=>.bad).post (PB X.K φ H Q) (EB X.K φ H yB):=h'
   cases T:wM ls (wB X.env q ls) ρ ws with
   |none=>rw[T]at h';exact h'.elim|some us=>
    rw[T]at h';refine⟨a,A1,ws,us,l,U,q1,hn ρ A ws A1 i,T,qp h' (λ_ _ z=>z.mono l) λy A2 z=>z.mono l⟩
  |exc y A1=>rw[i]at h';exact h'|bad=>rw[i]at h';exact h'
 ·obtain⟨e0,hL⟩:=Tt (q:=q) o g hl f
  obtain⟨fa',fd',P,F',d,hk',M⟩:=hR _ _ hL;rw[hm]at d;cases d;have b:YB X.K n (N (JB X.env q ls σ)) vs H1 Q E0:=by
   refine⟨by rw[<- Y.length];exact B,a,A1,u.map (Kw (JB X.env q ls σ)),U,Ul (re.mono l) hc Y,?_⟩
   rcases hF (JB X.env q ls σ) u A1 with z|z
   ·rw[z]at D;exact D.elim
   ·rw[z]
    exact qp D (λ_ _ z=>z) λy A2 z v H2 l2 S2=>(z v H2 l2 S2).elim
  have J:=F'.len _ _ _ _ b;have hu:us.length=P.length:=by rw[<- Z.length];exact J
  refine wpAny_call (codeAny_mono (F'.run X.A X.stack s1 H1 ⟨[]++us,[]⟩ us vs Q E0 hr e0 ?_ Z b) λr s2 c=>?_)
  ·have:=M s1 us o.kIn (by rw[bg];exact hu)
   rw[bg]at this;exact this
  ·cases r with
   |error e=>exact False.elim c|ok fl=>
    cases fl with
    |ret u1=>exact o.after c|next=>exact False.elim c|brk=>exact False.elim c|cont=>exact False.elim c
end
def NZ {a:Expr}{b:Expr}{ma:Ev}{mb:Ev}(r:jD k X.A)(o:zp X xr a ma)(he:zp X xr b mb)(s:starEach [b] X.env=(false,eval b X.env)::starEach [] X.env:=by rfl)
  (e:attributeBase a "index" X.env (eval a X.env)=eval a X.env:=by rfl)
  (w:((backTo cpos (starEach [b] X.env)).all (λx=>!x.1)&&(backToKw cpos (keywordEach [] X.env)).all (λx=>x.1.isSome)
   && decide ([b].length+([]:bY).length+(if ([]:bY).isEmpty then 0 else 1)<30))=true:=by rfl)(h:(apos.endLine==cpos.line)=true:=by rfl):
  zp X xr (.Call (.Attribute a "index" apos) [b] [] cpos) (kE gI ma mb):=by
 try simp only[jw]at*
 exact Xn PySem.F.slot_list_index PySem.F.type_list_index (N4 r.units) Lh (λφ A H x y u v Q S i q p=>by
   unfold gI at p;cases E:qk A 8 u with
   |none=>rw[E]at p;exact p.elim|some D=>
    cases g:qk A 8 v with
    |none=>
     rw[E,g]at p;cases D<;>exact p.elim
    |some d=>
     rw[E,g]at p;cases D with
     |list ds=>
      dsimp only at p;cases f:gJ (λz=>PyData.eqv z d) ds with
      |none=>rw[f]at p;exact p.elim|some j=>
       rw[f]at p;dsimp only at p
       by_cases c:j<1000000
       ·rw[ag c]at p
        exact⟨φ,A,u,v,y,d,ds,j,rfl,S,i,q,E,g,f,c,p φ H _ .refl S rfl⟩
       ·rw[ar c]at p;exact p.elim
     |_=>exact p.elim) o he s e w h
def V4 {m:Ev}{P pos':Pos}(z:X.calm=true)(hm:X.mg "sorted"=none)(d:X.mg "set"=none)(N:zp X xr e m)(M:Gl X "sorted":=by rfl)(g:Gl X "set":=by rfl)(x:starEach [e] X.env=(false,eval e X.env)::starEach [] X.env:=by rfl)
  (c:starEach [.Call (.Name "set" P) [e] [] pos'] X.env=(false,eval (.Call (.Name "set" P) [e] [] pos') X.env)::starEach [] X.env:=by rfl):
  zp X xr (.Call (.Name "sorted" p) [.Call (.Name "set" P) [e] [] pos'] [] pos) (Qg m):=by
 try simp only[jw]at*
 exact PE.imp (ZF (Ow z) M hm (by rfl) (qZ (QZ (Mn z) g d (by rfl) (qZ N jP x) (by decide) (by decide) x (by rfl)) jP c) (by decide) (by decide) c (by rfl)) λσ H Q ⟨φ,A,ρ,S,re,h⟩=>by
   refine tM.go S re (zV.mp h) λw A1 b H1 v a I s C=>?_;cases w with
   |ref n=>
    unfold Y8 at a;dsimp only at a;cases E:A1[n]? with
    |none=>rw[E]at a;exact a.elim|some u=>cases u with
     |lst ws=>
      rw[E]at a;dsimp only at a;obtain⟨t,ys,rfl,U,Z,B⟩:=s.lst C E;cases j:intsOf ws with
      |none=>rw[j]at a;exact a.elim|some is=>
       rw[j]at a;dsimp only at a;have Y:=Gd j;subst Y;have ev:=zw.ints.mp B;subst ev;cases q:ZQ is with
       |none=>rw[q]at a;exact a.elim|some vs=>
        rw[q]at a;dsimp only at a;obtain⟨e3,T⟩:=UT q;have k:H1 t=some (.lst (vs.map λ(v:Nat)=>V.int (v:Int))):=by rw[Z,e3,aO];rfl
        refine⟨t,vs,rfl,qN.of k,T,λl y=>⟨l,vs.foldl yn 0,rfl,jI,λD f=>?_⟩⟩;have ln:Le X.K b H1 b (upd H1 l (.ext λh=>ym h l (jB X.w) (vs.foldl yn 0))):=Le.new y;have S2:=s.lay (u:=.ext λh=>ym h l (jB X.w) (vs.foldl yn 0)) y;have r:∀(ψ:bO)(G:Hp),zw X.K ψ G (((List.range 8).filter λi=>decide (i∈vs)).map λ(i:Nat)=>W.int (i:Int)) ((zT (vs.foldl yn 0)).map λ(v:Nat)=>V.int (v:Int)):=λψ G=>by
         rw[N3];have e4:∀l:bQ,zw X.K ψ G (l.map λ(i:Nat)=>W.int (i:Int)) (l.map λ(v:Nat)=>V.int (v:Int)):=λl=>by
          induction l with
          |nil=>rfl|cons i l J=>exact⟨_,_,rfl,rfl,J⟩
         exact e4 _
        obtain⟨L,S3⟩:=S2.alloc (o:=.lst (((List.range 8).filter λi=>decide (i∈vs)).map λ(i:Nat)=>W.int (i:Int))) f (u:=.lst ((zT (vs.foldl yn 0)).map λ(v:Nat)=>V.int (v:Int))) ⟨_,jI,r _ _⟩;exact a _ _ _ (I.trans (ln.trans L)) S3 ⟨D,rfl,by rw[<- s.len];simp⟩
     |_=>rw[E]at a;exact a.elim
   |_=>exact a.elim
def Td {a:Expr}{b:Expr}{ma:Ev}{mb:Ev}(c:X.calm=true)(hm:X.mg "sum"=none)(e:zp X xr a ma)(d:zp X xr b mb)(H:Gl X "sum":=by rfl)(g:starEach [a,b] X.env=(false,eval a X.env)::starEach [b] X.env:=by rfl)
  (f:starEach [b] X.env=(false,eval b X.env)::starEach [] X.env:=by rfl)(h:(backTo pos (starEach [b] X.env)).any (·.1)=false:=by rfl):
  zp X xr (.Call (.Name "sum" p) [a,b] [] pos) (zc we ma mb):=by
 try simp only[jw]at*
 exact Xx (Mv c) HH Ig hm (by rfl) e d H (by decide) (by decide) g f h
def NA {a:Expr}{b:Expr}{ma:Ev}{mb:Ev}{P pos':Pos}(I:X.calm=true)(hm:X.mg "list"=none)(o:X.mg "range"=none)(M:zp X xr a ma)(J:zp X xr b mb)(E:Gl X "list":=by rfl)(q:Gl X "range":=by rfl)(s:starEach [a,b] X.env=[(false,eval a X.env),(false,eval b X.env)]:=by rfl)(d:starEach [b] X.env=[(false,eval b X.env)]:=by rfl)
  (g:starEach [.Call (.Name "range" P) [a,b] [] pos'] X.env=(false,eval (.Call (.Name "range" P) [a,b] [] pos') X.env)::starEach [] X.env:=by rfl):
  zp X xr (.Call (.Name "list" p) [.Call (.Name "range" P) [a,b] [] pos'] [] pos) (JX ma mb):=by
 try simp only[jw]at*
 exact PE.imp (QZ (Na I) E hm (by rfl) (qZ (Iq q o (qZ M (qZ J jP (by rw[d];rfl)) (by rw[s,d])) s d) jP g) (by decide) (by decide) g (by rfl)) λσ H Q ⟨φ,A,ρ,S,re,h⟩=>by
   refine tM.go S re (zV.mp h) λw A1 t H1 v N L S1 B=>?_;refine tM.go S1 (re.mono L) (qp (zV.mp N) (λ_ _ z=>z) λ_ _ z=>z.mono L) λu A2 c n v2 e C Z y=>?_;cases w with
   |int i=>
    obtain rfl:=B;cases u with
    |int j=>
     obtain rfl:=y;dsimp only at e
     by_cases f:(jN i&&(jN j&&decide ((j-i).toNat<=qa)))=true
     ·rw[ag f]at e
      rw[aj,aj,ak]at f;refine⟨i,j,rfl,λp r=>⟨p,i,j,rfl,jI,QW f.1,QW f.2.1,g8 f.2.2,λl D=>?_⟩⟩;have ln:Le X.K c n c (upd n p (.rng i j)):=Le.new r;have x:zw X.K c (upd n p (.rng i j)) ((List.range (j-i).toNat).map λ(k:Nat)=>W.int (i+k)) (Qw i (j-i).toNat):=by
       have:=(zw.ints (K:=X.K) (φ:=c) (H:=upd n p (.rng i j)) (ns:=(List.range (j-i).toNat).map λ(k:Nat)=>(i+(k:Int))) (vs:=Qw i (j-i).toNat)).mpr (by unfold Qw;simp)
       rw[aO]at this;exact this
      obtain⟨Y,U,T⟩:=Zg (Z.lay r) D x;exact e _ _ _ (((L.trans C).trans ln).trans Y) U T
     ·rw[ar f]at e;exact e.elim
    |_=>exact e.elim
   |_=>exact e.elim
@[irreducible] noncomputable def Zt (X:Cx)(x:XR)(e:Option Expr)(p:Po):Prop:=Mi.SP X x e p
def Di:@Zt=@Mi.SP:=by
 funext X xr e p
 unfold Zt
 rfl
def Kq:@zp=@Mi.SE/\@kZ=@Mi.SA/\@yi=@Mi.ST/\@w8=@Mi.SW/\@yU=@Mi.SS/\@yZ=@Mi.YC/\@kH=@Mi.SI/\@wA=@Mi.SG/\@Zv=@Mi.SF/\@w9=@Mi.SQ/\@gv=@Mi.Yy/\@wY=@Mi.SM/\@Wk=@Mi.SJ/\@Zt=@Mi.SP:=⟨Ko,G8,G9,Xb,G4,GN,G5,Xg,Xj,Xi,GV,Xd,Ri,Di⟩
def kO:Zt X xr none yh:=by
 try simp only[Kq]at*
 exact PO.imp IK λσ H Q ⟨φ,A,ρ,S,re,h⟩=>h φ H .refl S
def kf {m:Ev}(c:zp X xr e m):Zt X xr (some e) (jC m):=by
 try simp only[Kq]at*
 exact PO.imp (IJ c) λσ H Q ⟨φ,A,ρ,S,re,h⟩=>by
  refine tM.go S re (zV.mp h) λw A1 a H1 v b l s q=>?_;cases w with
  |int i=>obtain rfl:=q;exact⟨i,rfl,b a H1 l s⟩|_=>exact b.elim
def Q3 {a b:Expr}{ma mb:Ev}(H:zp X xr a ma)(h:zp X xr b mb):zp X xr (.BinOp a .FloorDiv b pos) (zc gM ma mb):=by
 try simp only[jw]at*
 exact ZR LG Xp (Xe M0 λ_ _ _ _=>rfl) H h
def ZG {m:Ev}{lo k:Option Expr}{P pu:Po}{x:Pos}(he:zp X xr e m)(C:Zt X xr lo P)(y:Zt X xr k pu):zp X xr (.Subscript e (.Slice lo k none x) pos) (yY m P pu):=by
 try simp only[Kq]at*
 exact PE.imp (U9 IC he C y) λσ H Q ⟨φ,A,ρ,S,re,h⟩=>by
   refine tM.go S re (zV.mp h) λw A1 g H1 v I L U t=>?_;refine⟨g,A1,ρ,U,re.mono L,qp (zV.mp I) (λl A2 D f H2 c T=>?_) λ_ _ z=>z.mono L⟩;refine⟨f,A2,ρ,T,(re.mono L).mono c,qp (zV.mp D) (λu Z b d Y j s=>?_) λ_ _ z=>z.mono (L.trans c)⟩;have i:=(L.trans c).trans j;cases w with
   |ref n=>
    dsimp only at b;cases E:Z[n]? with
    |none=>rw[E]at b;exact b.elim|some o=>cases o with
     |lst ws=>
      rw[E]at b;dsimp only at b;obtain⟨a,vs,rfl,J,M,r⟩:=s.lst ((t.mono c).mono j) E;have hlen:ws.length=vs.length:=r.length;refine⟨a,vs,rfl,qN.of M,λp B=>?_⟩;have q:zw X.K d Y (KW ws l u) (Ju vs l u):=by
       unfold KW Ju;rw[hlen];exact zw.take _ (zw.drop _ r)
      obtain⟨a1,a2,N⟩:=Zg s B q;exact b _ _ _ (i.trans a1) a2 N
     |_=>rw[E]at b;exact b.elim
   |_=>exact b.elim
section
variable {a b:Expr}{m ma mb:Ev}
def Sg (n:zp X xr e m):kH X xr tg e (Zi m):=by
 try simp only[jw]at*
 exact PI.imp (Dp n) λσ H R ⟨φ,A,ρ,S,re,h⟩=>by
   refine tM.go S re (zV.mp h) λw A1 f H1 v b l s q=>?_;cases w with
   |str x=>
    obtain rfl:=q;dsimp only at b
    by_cases g:Yq x=true
    ·rw[ag g]at b
     refine⟨x,rfl,g,b f H1 _ l s λi k u z L r=>⟨λw hw=>?_,λhn=>?_⟩⟩
     ·have a:some ((x.cps[i]?).map λc=>W.str ⟨#[c]⟩)=some (some w):=hw
      cases E:x.cps[i]? with
      |none=>rw[E]at a;cases a|some c=>
       rw[E]at a;cases a;refine⟨(Array.getElem?_eq_some_iff.mp E).1,λy t ⟨p,C,j,o⟩=>?_⟩;subst p;rw[E]at j;cases j;exact⟨.refl,r,o⟩
     ·have d:some ((x.cps[i]?).map λc=>W.str ⟨#[c]⟩)=some none:=hn
      cases E:x.cps[i]? with
      |none=>exact Array.getElem?_eq_none_iff.mp E|some c=>rw[E]at d;cases d
    ·rw[ar g]at b;exact b.elim
   |_=>exact b.elim
def NU {y:Str}{t:Tok}(g:Gl X x)(hm:X.mg x=some (.str y t))(hd:(x==("__debug__":Str))=false:=by decide):zp X xr (.Name x pos) (zy (.str y)):=by
 try simp only[jw]at*
 exact PE.imp (Sb g hm (v:=.str y) ⟨t,rfl⟩ hd) λσ H Q ⟨φ,A,ρ,S,r,h⟩=>h φ H _ .refl S rfl
def Mz (hm:X.mg "str"=none)(a:zp X xr e m)(l:Gl X "str":=by rfl)(he:starEach [e] X.env=(false,eval e X.env)::starEach [] X.env:=by rfl):zp X xr (.Call (.Name "str" p) [e] [] pos) (qP QD m):=by
 try simp only[jw]at*
 exact Xh MD (λw A=>by unfold QD;split;(exact yW jh qe);exact qe) (λφ A H x u Q S q p=>by
   cases u with
   |int i=>
    obtain rfl:=q;unfold QD at p;dsimp only at p
    by_cases h:0<=i/\i<1000
    ·rw[ag h]at p
     exact⟨i,rfl,h.1,h.2,p φ H _ .refl S rfl⟩
    ·rw[ar h]at p;exact p.elim
   |_=>exact p.elim) hm (by rfl) a l (by decide) (by decide) he (by rfl)
def Gy (hm:X.mg "len"=none)(a:zp X xr e m)(l:Gl X "len":=by rfl)(he:starEach [e] X.env=(false,eval e X.env)::starEach [] X.env:=by rfl):zp X xr (.Call (.Name "len" p) [e] [] pos) (qP gr m):=by
 try simp only[jw]at*
 exact Ro Mt (λw A=>by unfold gr;split;(exact yW jh qe);exact qe) (λφ A H x u Q S q p=>by
   cases u with
   |str y=>
    obtain rfl:=q;unfold gr at p;dsimp only at p
    by_cases h:y.length<1000000
    ·rw[ag h]at p
     exact⟨y,rfl,h,p φ H _ .refl S rfl⟩
    ·rw[ar h]at p;exact p.elim
   |_=>exact p.elim) hm (by rfl) a l (by decide) (by decide) he (by rfl)
def JS (g:zp X xr a ma)(he:zp X xr b mb)(s:starEach [b] X.env=(false,eval b X.env)::starEach [] X.env:=by rfl)
  (c:attributeBase a "join" X.env (eval a X.env)=eval a X.env:=by rfl)
  (w:((backTo cpos (starEach [b] X.env)).all (λx=>!x.1)&&(backToKw cpos (keywordEach [] X.env)).all (λx=>x.1.isSome)
   && decide ([b].length+([]:bY).length+(if ([]:bY).isEmpty then 0 else 1)<30))=true:=by rfl)(e:(apos.endLine==cpos.line)=true:=by rfl):
  zp X xr (.Call (.Attribute a "join" apos) [b] [] cpos) (jm kP ma mb):=by
 try simp only[jw]at*
 exact PE.imp (KD PySem.F.slot_str_join PySem.F.type_str_join Hf g (qZ he jP s) c w e s (by rfl)) λσ H Q h=>
   jm.read (r:=rJoin X.K) IS (λφ A H x y u v Q S f q p=>by
    unfold kP at p;cases u with
    |str sep=>cases v with
     |ref n=>
      obtain rfl:=f;dsimp only at p;cases E:A[n]? with
      |none=>rw[E]at p;exact p.elim|some o=>cases o with
       |lst ws=>
        rw[E]at p;dsimp only at p;obtain⟨l,vs,rfl,f1,g1,d⟩:=S.lst q E;cases i:strsOf ws with
        |none=>rw[i]at p;exact p.elim|some xs=>
         rw[i]at p;dsimp only at p;have j:=UB i;subst j;have ev:=zw.strs.mp d;subst ev
         by_cases hok:JoinOk sep xs=true
         ·rw[ag hok]at p
          exact⟨sep,l,xs,rfl,rfl,qN.of g1,hok,p φ H _ .refl S rfl⟩
         ·rw[ar hok]at p;exact p.elim
       |_=>rw[E]at p;exact p.elim
     |_=>exact p.elim
    |_=>exact p.elim) s σ H Q h
def Lx (o:zp X xr a ma)(he:zp X xr b mb)(d:starEach [b] X.env=(false,eval b X.env)::starEach [] X.env:=by rfl)
  (c:attributeBase a "find" X.env (eval a X.env)=eval a X.env:=by rfl)
  (w:((backTo cpos (starEach [b] X.env)).all (λx=>!x.1)&&(backToKw cpos (keywordEach [] X.env)).all (λx=>x.1.isSome)
   && decide ([b].length+([]:bY).length+(if ([]:bY).isEmpty then 0 else 1)<30))=true:=by rfl)(e:(apos.endLine==cpos.line)=true:=by rfl):
  zp X xr (.Call (.Attribute a "find" apos) [b] [] cpos) (jm Kt ma mb):=by
 try simp only[jw]at*
 exact PE.imp (KD PySem.F.slot_str_find PySem.F.type_str_find Hg o (qZ he jP d) c w e d (by rfl)) λσ H Q h=>
   jm.read (r:=Ry) Iw (λφ A H x y u v Q S f q p=>by
    cases u with
    |str s=>cases v with
     |str t=>
      obtain rfl:=f;obtain rfl:=q;exact⟨s,t,rfl,rfl,p φ H _ .refl S rfl⟩
     |_=>exact p.elim
    |_=>exact p.elim) d σ H Q h
def W8 (o:zp X xr a ma)(he:zp X xr b mb)(f:starEach [b] X.env=(false,eval b X.env)::starEach [] X.env:=by rfl)
  (c:attributeBase a "split" X.env (eval a X.env)=eval a X.env:=by rfl)
  (w:((backTo cpos (starEach [b] X.env)).all (λx=>!x.1)&&(backToKw cpos (keywordEach [] X.env)).all (λx=>x.1.isSome)
   && decide ([b].length+([]:bY).length+(if ([]:bY).isEmpty then 0 else 1)<30))=true:=by rfl)(e:(apos.endLine==cpos.line)=true:=by rfl):
  zp X xr (.Call (.Attribute a "split" apos) [b] [] cpos) (jm wI ma mb):=by
 try simp only[jw]at*
 exact PE.imp (KD PySem.F.slot_str_split PySem.F.type_str_split LQ o (qZ he jP f) c w e f (by rfl)) λσ H Q h=>
   jm.read (r:=Rf) Lz (λφ A H x y u v Q S g q p=>by
    unfold wI at p;cases u with
    |str s=>cases v with
     |str t=>
      obtain rfl:=g;obtain rfl:=q;dsimp only at p
      by_cases d:(t.length==0)=false/\s.length<=100000
      ·rw[ag d]at p
       refine⟨s,t,rfl,rfl,d.1,d.2,λl i=>?_⟩;obtain⟨a1,a2,j⟩:=Zg S i (zw.strs.mpr rfl:zw X.K φ H ((Txt.split s t).map W.str) ((Txt.split s t).map V.str));exact p _ _ _ a1 a2 j
      ·rw[ar d]at p;exact p.elim
     |_=>exact p.elim
    |_=>exact p.elim) f σ H Q h
variable {p2:Pos}{lo hi:Option Expr}
def gc (e:zp X xr a ma)(d:zp X xr b mb):zp X xr (.BinOp a .Add b pos) (zc yX ma mb):=by
 try simp only[jw]at*
 exact ZR Nj HF (λφ A H x y u v Q S c q p=>by
   unfold yX at p;cases u with
   |str s=>cases v with
    |str t=>
     obtain rfl:=c;obtain rfl:=q;dsimp only at p
     by_cases h:s.length+t.length<=100000
     ·rw[ag h]at p
      exact⟨s,t,rfl,rfl,by rw[sizeLine_eq];omega,p φ H _ .refl S rfl⟩
     ·rw[ar h]at p;exact p.elim
    |_=>exact p.elim
   |_=>exact p.elim) e d
def T3 (j:zp X xr a ma)(g:zp X xr b mb)(f:U3 b:=by intro _ _;rfl):zp X xr (.Subscript a b pos) (zc gR ma mb):=by
 try simp only[jw]at*
 exact PE.imp (O4 j g f) (zc.read EV λφ A H x y u v Q S d q p=>by
   unfold gR at p;cases u with
   |str s=>cases v with
    |int i=>
     obtain rfl:=d;obtain rfl:=q;dsimp only at p
     by_cases h:0<=i/\i<100000
     ·rw[ag h]at p
      cases e:s.cps[i.toNat]? with
      |none=>rw[e]at p;exact p.elim|some c=>
       rw[e]at p;have l:i.toNat<s.length:=(Array.getElem?_eq_some_iff.mp e).1;exact⟨s,i,c,rfl,rfl,h.1,by omega,by omega,e,p φ H _ .refl S rfl⟩
     ·rw[ar h]at p;exact p.elim
    |_=>exact p.elim
   |_=>exact p.elim)
def Qk {p pu:Po}(he:zp X xr e m)(n:Zt X xr lo p)(k:Zt X xr hi pu):zp X xr (.Subscript e (.Slice lo hi none p2) pos) (wO m p pu):=by
 try simp only[Kq]at*
 exact PE.imp (U9 EF he n k) λσ H Q ⟨φ,A,ρ,S,re,h⟩=>by
   refine tM.go S re (zV.mp h) λw A1 d H1 v r L y q=>?_;refine⟨d,A1,ρ,y,re.mono L,qp (zV.mp r) (λl A2 o c C f t=>?_) λ_ _ z=>z.mono L⟩;refine⟨c,A2,ρ,t,(re.mono L).mono f,qp (zV.mp o) (λu D a b B j s=>?_) λ_ _ z=>z.mono (L.trans f)⟩;have g:=(L.trans f).trans j;cases w with
   |str x=>
    obtain rfl:=q;dsimp only at a
    by_cases i:x.length<=100000
    ·rw[ag i]at a
     exact⟨x,rfl,i,a b B _ g s rfl⟩
    ·rw[ar i]at a;exact a.elim
   |_=>exact a.elim
def L9 (hm:X.mg "int"=none)(a:zp X xr e m)(l:Gl X "int":=by rfl)(he:starEach [e] X.env=(false,eval e X.env)::starEach [] X.env:=by rfl):zp X xr (.Call (.Name "int" p) [e] [] pos) (qP Jl m):=by
 try simp only[jw]at*
 exact Xh NK (λw A=>by
   unfold Jl
   split
   ·refine yW ?_ qe
    split
    ·exact jh
    ·exact qe
   ·exact qe) (λφ A H x u Q S q p=>by
   cases u with
   |str y=>
    obtain rfl:=q;unfold Jl at p;dsimp only at p
    by_cases h:y.length<=640
    ·rw[ag h]at p
     cases E:PySem.intText? y with
     |none=>rw[E]at p;exact p.elim|some i=>rw[E]at p;exact⟨y,i,rfl,E,h,p φ H _ .refl S rfl⟩
    ·rw[ar h]at p;exact p.elim
   |_=>exact p.elim) hm (by rfl) a l (by decide) (by decide) he (by rfl)
def NJ (o:zp X xr a ma)(he:zp X xr b mb)(d:starEach [b] X.env=(false,eval b X.env)::starEach [] X.env:=by rfl)
  (c:attributeBase a "strip" X.env (eval a X.env)=eval a X.env:=by rfl)
  (w:((backTo cpos (starEach [b] X.env)).all (λx=>!x.1)&&(backToKw cpos (keywordEach [] X.env)).all (λx=>x.1.isSome)
   && decide ([b].length+([]:bY).length+(if ([]:bY).isEmpty then 0 else 1)<30))=true:=by rfl)(e:(apos.endLine==cpos.line)=true:=by rfl):
  zp X xr (.Call (.Attribute a "strip" apos) [b] [] cpos) (jm gF ma mb):=by
 try simp only[jw]at*
 exact PE.imp (KD PySem.F.slot_str_strip PySem.F.type_str_strip Ie o (qZ he jP d) c w e d (by rfl)) λσ H Q h=>
   jm.read (r:=Rc) LU (λφ A H x y u v Q S g q p=>by
    unfold gF at p;cases u with
    |str s=>cases v with
     |str t=>
      obtain rfl:=g;obtain rfl:=q;dsimp only at p
      by_cases f:s.length<=100000
      ·rw[ag f]at p
       exact⟨s,t,rfl,rfl,f,p φ H _ .refl S rfl⟩
      ·rw[ar f]at p;exact p.elim
     |_=>exact p.elim
    |_=>exact p.elim) d σ H Q h
end
def zX.up {K:Frag}{f:Fn}(F:zX P w K mg base j x n f)(h:j<=k:=by decide):zX P w K mg base k x n f:=F.mono h
def kX.up {K:Frag}{f:Fn}(F:kX P w K mg base j x n f)(h:j<=k:=by decide):kX P w K mg base k x n f:=F.mono h
section
variable {C:List Value->Prop}
theorem wX (h:∀a,C [a]):∀us:bN,us.length=1->C us
 |[a],_=>h a
theorem Z7 (h:∀a b,C [a,b]):∀us:bN,us.length=2->C us
 |[a,b],_=>h a b
theorem BA (h:∀a b c,C [a,b,c]):∀us:bN,us.length=3->C us
 |[a,b,c],_=>h a b c
end
def qM {l:bR}(h:decide l.Nodup=true):l.Nodup:=of_decide_eq_true h
noncomputable def Pq (N P:bR)(sc:Scope):Bool:=decide (sc.kind=.function)&&(!sc.isCoroutine&&(!sc.isGenerator&&(decide N.Nodup&&(decide (N.take P.length=P)&&(P.all (λx=>decide (sc.names.lookup x=some .local) || decide (sc.names.lookup x=some .cell))&&sc.names.all λy=>!decide (y.2=.free))))))
def yq {P:bR}(h:Pq N P sc=true):jJ N P sc:=by
 unfold Pq at h;simp only[aj,ak,br,bK,bH,decide_eq_false_iff_not]at h;obtain⟨g,f,e,d,c,b,a⟩:=h;exact⟨g,f,e,d,c,b,λy H=>a y H⟩
section
def Pp (h:(ls.all λt=>KA X.N X.env.scope t)=true):∀t∈ls,Jo X t:=λt H=>TQ (cm.mp h t H)
def qV {iter:Expr}{M:Ev}{em:Em}(nl:Nat)(cap:bQ)(hw:kH X xr tg iter mi)
  (n:∀s H fp,wA (jR X N sc s H fp yA) tg tw/\gv (jR X N sc s H fp yA) ifs M/\wY (jR X N sc s H fp yA) elt (⟨tg,iter,ifs,0⟩::gs) sc pos 0 em)
  (c:X.calm=true:=by rfl)(S:gE X sc:=by exact cps (by kernel_rfl))(p:ZZ X.N N sc nl cap=true:=by kernel_rfl)
  (b:∀g',gs[0]? =some g'->g'.is_async=0:=by intro _ h;cases h<;>rfl)
  (a:∀x,foldedSetIterable iter X.env x=pure x:=by intro _;rfl):Zv X xr (.ListComp elt (⟨tg,iter,ifs,0⟩::gs) sc pos) (zO nl cap mi tw M em):=M9 nl cap c S p hw n b a
def qR {d:Nat}(he:zp X yB elt me)(h:∀e s,X.xe e s->False:=by exactλ_ _ z=>z)(H:gens[d+1]? =none:=by rfl):wY X elt gens sc pos d (zL me):=IZ h he H
end
open PySem L2
abbrev zm:Ev:=zH 0
abbrev zu:Ev:=zH 1
abbrev zW:Ev:=zH 2
abbrev zZ:Ev:=zH 3
abbrev qT:Ev:=zH 4
abbrev jF:Ev:=zH 5
abbrev yg:Ev:=zH 6
abbrev ka:Ev:=zH 7
abbrev gB:Ev:=zH 8
abbrev Wn:Ev:=zH 9
abbrev KO:Ev:=zH 10
abbrev XH:Ev:=zH 11
abbrev Wb:Ev:=zH 12
abbrev qO:Ev:=zy (.int 0)
abbrev qj:Ev:=zy (.int 1)
abbrev qU:Ev:=zy (.int 2)
abbrev jT:Ev:=zy (.int 3)
abbrev kq:Ev:=zy (.int 4)
abbrev Wf:Ev:=zy (.int 5)
abbrev X6:Ev:=zy (.int 6)
abbrev Zw:Ev:=zy (.int 7)
abbrev km:Ev:=zy (.int 8)
abbrev X2:Ev:=zy (.int 10)
abbrev zY:Ev:=zy (.bl true)
abbrev Pl:Ev:=zy (.bl false)
abbrev wy:Ev:=zy .non
abbrev gy:Ex:=zl (qF Pl) zB
end Mi
namespace G
open PySem L2 Mi
noncomputable def top (i:Nat):Stmt:=PySem.Challenge.pw_nearkinds_k91_texts_that_write_none.main.body.getD i (.Pass ⟨0,0,0,0⟩)
structure Bu (mg:bV):Prop where
 OL:mg "ValueError"=none
 Xr:mg "abs"=none
 Yi:mg "all"=none
 G0:mg "bool"=none
 VX:mg "enumerate"=none
 Qu:mg "int"=none
 jG:mg "isinstance"=none
 yQ:mg "len"=none
 gG:mg "list"=none
 KJ:mg "max"=none
 XC:mg "min"=none
 jU:mg "range"=none
 Rm:mg "set"=none
 Tn:mg "sorted"=none
 RG:mg "str"=none
 Rn:mg "sum"=none
 k9:mg "tuple"=none
 DJ:mg "zip"=none
 Md:∃t,mg "FIGURES"=some (.str "0123456789" t)
 Oo:∃t,mg "MOST_PLACES"=some (.int 8 t)
noncomputable abbrev qE:bR:=["NoText"]
noncomputable abbrev Y3:bR:=["NoTable","NotSteady","NoPlace","NoKind","NoMix","NoNumber","NoLot","NoKinds","NoPaper","NoParting","NoClosed","TooMany","NoText","NoLine","NoDeed"]
def jz {K:Frag}(R:Y3.all (ZU K qE)=true)(h:Y3.contains x=true:=by decide +kernel):ZU K qE x=true:=cm.mp R x (List.contains_iff_mem.mp h)
def UJ {l:List (Str×NameKind)}(h:(l.all λy=>!(y.2==.cell))=true):∀y∈l,y.2≠.cell:=λy H e=>by
 have q:=cm.mp h y H;rw[e]at q;cases q
def yE {m:Ev}(h:zp X xr e m):SE X xr e m:=by rw[Ko]at h;exact h
abbrev Uc:Stmt:=top 18
def Nb:jJ ["thing"] ["thing"] (qC Uc):=yq (by kernel_rfl)
def ND:Ex:=zl (qF (kh (yo .int zm) (yw (yo .bl zm)))) zB
abbrev VW:Stmt:=top 19
def Oz:jJ ["thing","many"] ["thing","many"] (qC VW):=yq (by kernel_rfl)
def V5 (N:Fn):Ex:=zl (qF (kh (yo .tup zm) (kh (zc qX (mQ qG (qi zm)) zu) (mQ Z3 (zO 1 [] (qo zm) (zF 0) zY (zL (zQ N (zi zm zo)))))))) zB
abbrev Vp:Stmt:=top 20
def PM:jJ ["thing","many","limit"] ["thing","many","limit"] (qC Vp):=yq (by kernel_rfl)
def Vq (o:Fn):Ex:=zl (qF (kh (zQ o (zi zm (zi zu zo))) (mQ Z3 (zO 1 [2] (qo zm) (zF 0) zY (zL (yO k8 Zp qO zm zu)))))) zB
abbrev V9:Stmt:=top 23
def V6:jJ ["thing","many"] ["thing"] (qC V9):=yq (by kernel_rfl)
def Ua (M:Fn)(P:Fn)(p:Fn):Ex:=zl (qB (y8 (yw (yo .tup zm)) (yw (yO k8 k8 qj (mQ qG (qi zm)) km))) gy zB) (zl (zN 1 (mQ qG (qi zm))) (zl (qB (yw (mQ Z3 (zO 1 [1] (qo zm) (zF 0) zY (zL (zQ P (zi zm (zi zu (zi zu zo)))))))) gy zB) (zl (qF (kh (zQ M (zi zm zo)) (zQ p (zi zm zo)))) zB)))
abbrev Uy:Stmt:=top 24
def W5:jJ ["rows","a","row","b","kind"] ["rows"] (qC Uy):=yq (by kernel_rfl)
def Gj:Ex:=zl (yT (Jk zm) (wN 1 2) (zl (yT (Jk zW) (wN 3 4) (zl (qB (y8 (zc qx (zc qX qT qO) (zc qX zu zZ)) (zc qx (zc zA (zc zA zm zZ) zu) qT)) gy zB) zB)) zB)) (zl (qF zY) zB)
abbrev Vn:Stmt:=top 25
def Vl:jJ ["rows","standing"] ["rows"] (qC Vn):=yq (by kernel_rfl)
def Vm:Ex:=zl (zN 1 (qh (zO 2 [] (qo zm) (zF 0) zY (Jj (qo zm) (zF 1) zY (zL zu))))) (zl (qF (mQ Z3 (zO 1 [1] (jg (mQ yK (qi zu))) (zF 0) zY (zL (zc Wi zm zu))))) zB)
abbrev VC:Stmt:=top 28
def Oa:jJ ["text"] ["text"] (qC VC):=yq (by kernel_rfl)
def VD:Ex:=zl (qF (Zr (zc qX (qP gr zm) qj) (jm Kt (zy (.str "0123456789")) zm) (qP Jp qj))) zB
abbrev VJ:Stmt:=top 29
def VF:jJ ["text","rows"] ["text"] (qC VJ):=yq (by kernel_rfl)
def YL (N:Fn)(o:Fn):Ex:=zl (qB ((λρ A=>((yw (yo .str zm)) ρ A).nox)) (zl (Kj "NoText" (zi (zy (.str "this is no text")) zo)) zB) zB) (zl (zN 1 (mQ yN (zO 1 [] (qo (jm wI zm (zy (.str "/")))) (zF 0) zY (zL (mQ yN (zO 1 [] (Zi zm) (zF 0) zY (zL (zQ o (zi zm zo))))))))) (zl (qB ((λρ A=>((yw (zQ N (zi zu zo))) ρ A).nox)) (zl (Kj "NoText" (zi (zy (.str "this is no text of a table")) zo)) zB) zB) ((λρ A=>((zl (qF zu) zB) ρ A).nox))))
abbrev Vy:Stmt:=top 31
def P5:jJ ["_law_script","_law_k"] ["_law_script","_law_k"] (qC Vy):=yq (by kernel_rfl)
def WH:Ex:=zl (qB (zc Zp zu (mQ qG (qi zm))) (zl (qF (zc zA zm zu)) zB) zB) (zl (qF qO) zB)
abbrev VO:Stmt:=top 32
def VE:jJ ["_law_script","_law_k","_law_cell"] ["_law_script","_law_k"] (qC VO):=yq (by kernel_rfl)
def WO (o:Fn):Ex:=zl (zN 2 (zQ o (zi zm (zi zu zo)))) (zl (qB (zc Va zW (zc We X2 (zy (.int 18)))) (zl (qF (z8 (zi (zc yS zW (zc We X2 (zy (.int 18)))) (zi zY zo)))) zB) zB) (zl (qF (z8 (zi (zc kF zW (zy (.int 2147483647))) (zi Pl zo)))) zB))
abbrev VZ:Stmt:=top 33
def YM:jJ ["_law_state_here","_law_many","_law_found","_law_stirred"] ["_law_state_here","_law_many"] (qC VZ):=yq (by kernel_rfl)
def W0:Ex:=zl (qB (zc zA zm qj) (zl (zN 2 (zc kF (zc zA zm qO) zu)) (zl (kN ki (zc gM (zc zA zm qO) zu) zm qO) (zl (qF zW) zB))) zB) (zl (kN ki (zc kF (zc qf (zc jo (zc zA zm qO) (zy (.int 48271))) (zy (.int 29))) (zy (.int 2147483647))) zm qO) (zl (zN 3 (zc kF (zc qf (zc qf (zc jo (zc zA zm qO) (zc zA zm qO)) (zc jo (zy (.int 39373)) (zc zA zm qO))) Zw) (zy (.int 2147483629)))) (zl (zN 3 (zc kF (zc qf (zc jo zZ zZ) (zc jo (zy (.int 16807)) zZ)) (zy (.int 2147483587)))) (zl (qF (zc kF (zc gM zZ km) zu)) zB))))
abbrev Vt:Stmt:=top 34
def WC:jJ ["_law_state_here","_law_things","_law_left","_law_found"] ["_law_state_here","_law_things"] (qC Vt):=yq (by kernel_rfl)
def Vr (j:Fn):Ex:=zl (zN 2 (qh (qi zu))) (zl (zN 3 (z8 zo)) (zl (G2 1000 (zc qx zW (z8 zo)) (zl (QI (kE gi zZ (kE gH zW (zQ j (zi zm (zi (mQ qG (qi zW)) zo)))))) zB)) (zl (qF zZ) zB)))
abbrev VR:Stmt:=top 35
def VG:jJ ["_law_rows","_law_some"] ["_law_rows"] (qC VR):=yq (by kernel_rfl)
def VS:Ex:=zl (zN 1 (Qg (zc we (qh (zO 1 [] (qo zm) (zF 0) zY (zL (qh (qi zm))))) (z8 zo)))) (zl (qF (mQ yN (zO 1 [1] (qo zm) (zF 0) zY (zL (mQ yN (zO 1 [1] (qo zm) (zF 0) zY (zL (kE gI zu zm)))))))) zB)
abbrev VL:Stmt:=top 36
def kI:jJ ["_law_state_here","_law_way","_law_many","_law_wide","_law_high","_law_some","_law_ring","_law_rows","_law_a","_law_near","_law_far"] ["_law_state_here"] (qC VL):=yq (by kernel_rfl)
def WN (j:Fn):Ex:=zl (zN 1 (zQ j (zi zm (zi km zo)))) (zl (zN 2 (zc zA (z8 (zi km (zi Zw (zi X6 (zi Wf (zi kq (zi jT (zi qU (zi qj zo))))))))) (zQ j (zi zm (zi km zo))))) (zl (qB (zc qX zu qO) (zl (qF (qh (zO 1 [2] (jg zW) (zF 0) zY (zL (qh (zO 1 [0,1] (jg zu) (zF 0) zY (zL (zc ZW (qP Yp (zc yS zu zm)) (zc yS zW (qP Yp (zc yS zu zm))))))))))) zB) zB) (zl (qB (zc qX zu qj) (zl (zN 2 (zc zA (z8 (zi km (zi kq (zi qU zo)))) (zQ j (zi zm (zi jT zo))))) (zl (qF (qh (zO 1 [2] (jg zW) (zF 0) zY (zL (qh (zO 1 [0] (jg zu) (zF 0) zY (zL (zc zA (z8 (zi qO (zi qj (zi qj (zi qU (zi qj (zi qU (zi qU (zi jT zo))))))))) (zc XS zu zm))))))))) zB)) zB) (zl (qB (zc qX zu qU) (zl (qF (qh (zO 1 [2] (jg zW) (zF 0) zY (zL (qh (zO 1 [0] (jg zu) (zF 0) zY (zL (qP QE (zc qx zu zm))))))))) zB) zB) (zl (qB (zc qX zu jT) (zl (K9 (zc zA (z8 (zi (jL (zi qU (zi kq zo))) (zi (jL (zi kq (zi qU zo))) (zi (jL (zi qU (zi jT zo))) (zi (jL (zi jT (zi qU zo))) (zi (jL (zi qU (zi qU zo))) zo)))))) (zQ j (zi zm (zi Wf zo)))) (wN 3 4)) (zl (zN 2 (zc jo zZ qT)) (zl (qF (qh (zO 1 [2,3] (jg zW) (zF 0) zY (zL (qh (zO 1 [0,2] (jg zu) (zF 0) zY (zL (zc qf (qP QE (zc qx zu zm)) (qP QE (zc qx (zc gM zu zW) (zc gM zm zW))))))))))) zB))) zB) (zl (qB (zc qX zu kq) (zl (zN 5 (z8 (zi (jL (zi qO (zi qj zo))) (zi (jL (zi qO (zi qU zo))) (zi (jL (zi qO (zi jT zo))) (zi (jL (zi qj (zi qU zo))) (zi (jL (zi qj (zi jT zo))) (zi (jL (zi qU (zi jT zo))) zo)))))))) (zl (qF (qh (zO 1 [5] (qo jF) (zF 0) zY (zL (qh (zO 1 [0] (qo zu) (zF 0) zY (zL (zc yS qU (mQ qG (zO 1 [0] (qo zu) (zF 0) (zc Wi zm zu) (zL zm))))))))))) zB)) zB) (zl (qB (zc qX zu Wf) (zl (zN 2 (zc zA (z8 (zi kq (zi km (zi qU zo)))) (zQ j (zi zm (zi jT zo))))) (zl (qF (qh (zO 1 [2] (jg zW) (zF 0) zY (zL (qh (zO 1 [0] (jg zu) (zF 0) zY (zL (zc XS zu zm)))))))) zB)) zB) (zl (zN 3 (zc zA (z8 (zi kq (zi jT (zi qU zo)))) (zQ j (zi zm (zi jT zo))))) (zl (zN 6 (z8 (zi qO (zi qj (zi (zc zA (z8 (zi qU (zi qj zo))) (qP QE (zc qX zZ jT))) (zi qj zo)))))) (zl (zN 7 (z8 zo)) (zl (yT (jg (zc jo qU zZ)) (zF 8) (zl (zN 9 (qh (zO 1 [3,6,8] (jg (zc jo qU zZ)) (zF 0) zY (zL (zc zA zW (zc kF (qP Yp (zc yS zZ zm)) zu)))))) (zl (zN 10 (qh (zO 1 [3,8] (jg (zc jo qU zZ)) (zF 0) zY (zL (qP QE (zc qx (zc gM zW zu) (zc gM zm zu))))))) (zl (qB (zc qX zu X6) (zl (QI (kE gi ka (qh (zO 1 [9,10] (jg (zc jo qU zZ)) (zF 0) zY (zL (zc qf (zc jo jT (zc zA zW zm)) (zc zA zu zm))))))) zB) (zl (QI (kE gi ka (qh (zO 1 [9,10] (jg (zc jo qU zZ)) (zF 0) zY (zL (Zr (zc qX (zc zA zW zm) qj) jT (zc zA zu zm))))))) zB)) zB)))) (zl (qF ka) zB))))))))))))
abbrev VI:Stmt:=top 37
def YG:jJ ["_law_state_here","_law_rows","_law_order","_law_kinds"] ["_law_state_here"] (qC VI):=yq (by kernel_rfl)
def VT (v:Fn)(Y:Fn)(o:Fn):Ex:=zl (zN 1 (zQ Y (zi (zQ o (zi zm zo)) zo))) (zl (zN 2 (zQ v (zi zm (zi (Qm (mQ qG (qi zu))) zo)))) (zl (zN 3 (zc qf (z8 (zi qO zo)) (zQ v (zi zm (zi (JX qj (zc qf qj (mQ yK (zO 1 [] (qo zu) (zF 0) zY (zL (mQ yK (qi zm))))))) zo))))) (zl (qF (mQ yN (zO 1 [1,2,3] (qo zW) (zF 0) zY (zL (mQ yN (zO 1 [0,1,3] (qo zW) (zF 0) zY (zL (zc zA zZ (zc zA (zc zA zW zu) zm))))))))) zB)))
abbrev VU:Stmt:=top 38
def gY:jJ ["_law_state_here","_law_way","_law_rows","_law_many","_law_a","_law_b","_law_far"] ["_law_state_here"] (qC VU):=yq (by kernel_rfl)
def VN (v:Fn)(Y:Fn)(j:Fn):Ex:=zl (zN 1 (zQ j (zi zm (zi jT zo)))) (zl (qB (zc qX zu qO) (zl (qF (zQ v (zi zm zo))) zB) zB) (zl (zN 2 (qh (zO 1 [] (qo (zQ v (zi zm zo))) (zF 0) zY (zL (qh (qi zm)))))) (zl (zN 3 (mQ qG (qi zW))) (zl (qB (kh (zc qX zu qj) (zc Jz zZ qj)) (zl (zN 4 (zQ j (zi zm (zi zZ zo)))) (zl (zN 5 (zc kF (zc qf (zc qf qT qj) (zQ j (zi zm (zi (zc yS zZ qj) zo)))) zZ)) (zl (kN ki (zc qf qj (zQ j (zi zm (zi (zc yS zZ qj) zo)))) (zc zA zW qT) jF) (zl (kN ki (zc zA (zc zA zW qT) jF) (zc zA zW jF) qT) (zl (qF (zQ Y (zi zW zo))) zB))))) zB) (zl (zN 6 (zc zA (z8 (zi qU (zi jT (zi qj zo)))) (zQ j (zi zm (zi jT zo))))) (zl (yT (jg zZ) (zF 4) (zl (yT (jg qT) (zF 5) (zl (kN ki (zc qf qj (zQ j (zi zm (zi (zc ZW yg (zc yS zZ qj)) zo)))) (zc zA zW qT) jF) (zl (kN ki (zc zA (zc zA zW qT) jF) (zc zA zW jF) qT) zB))) zB)) (zl (qF (zQ Y (zi zW zo))) zB)))))))
abbrev WX:Stmt:=top 39
def ON:jJ ["_law_found","_law_due"] ["_law_found","_law_due"] (qC WX):=yq (by kernel_rfl)
def ZC (g:Fn):Ex:=zl (qB (Wa .tup .lst zu) (zl (qB (y8 (zc qx (yo .tup zm) (yo .tup zu)) (zc qx (yo .lst zm) (yo .lst zu))) gy zB) (zl (qB (zc qx (mQ qG (qi zm)) (mQ qG (qi zu))) gy zB) (zl (qF (mQ Z3 (zO 2 [] (KU zm zu) (wN 0 1) zY (zL (zQ g (zi zm (zi zu zo))))))) zB))) zB) (zl (qF (kh (zc qX zm zu) (zc qX (yo .bl zm) (yo .bl zu)))) zB)
def WY {K:Frag}(T:Bu mg)(F:kY K "_law_same" "_law_same" WX f fd)(hm:mg "_law_same"=some (.ref f)){g:Fn}(ZA:zX P w K mg base k "_law_same" 2 g):zX P w K mg base (k+1) "_law_same" 2 (jk 2 (ZC g)):=
 yM F hm ON (λ_ _ _ _ _ _=>Z7 λ_ _=>rfl) λc A outer s H E h=>zr (jK (Zc (HQ .tup .lst T.jG T.k9 T.gG (by rfl) (by rfl) (zh 1))) (zr (jK (Qh (Yd (jn (yR h) (gj .tup T.jG T.k9 (by rfl) (zh 0)) (gj .tup T.jG T.k9 (by rfl) (zh 1))) (JV (jn (yR h) (gj .lst T.jG T.gG (by rfl) (zh 0)) (gj .lst T.jG T.gG (by rfl) (zh 1)))))) (zr (qD wc) zM) zM) (zr (jK (jn (yR h) (kx T.yQ (yu (zh 0))) (kx T.yQ (yu (zh 1)))) (zr (qD wc) zM) zM) (zr (qD (JY rfl T.Yi (kD (qV (N:=["_law_one","_law_other"]) 2 [] (I9 rfl T.DJ (zh 0) (zh 1)) (λ_ _ _=>⟨Ka 0 1 rfl (qM (by kernel_rfl)),qY,qR (qI ZA h (zj (zh 0) (zj (zh 1) zG)))⟩))))) zM))) zM) (zr (qD (Q5 (wQ (yt h) (zh 0) (zh 1)) (JW (wQ (yt h) (gj .bl T.jG T.G0 (by rfl) (zh 0)) (gj .bl T.jG T.G0 (by rfl) (zh 1)))))) zM)
abbrev WJ:Stmt:=top 40
def Zy:jJ ["_law_call","_law_error","e","_law_marks"] ["_law_call"] (qC WJ):=yq (by kernel_rfl)
def WE:Ex:=zl (zN 3 (z8 (zi (qQ (jc qE "NoTable") zu) (zi (qQ (jc qE "NotSteady") zu) (zi (qQ (jc qE "NoPlace") zu) zo))))) (zl (zN 3 (zc qf zZ (z8 (zi (qQ (jc qE "NoKind") zu) (zi (qQ (jc qE "NoMix") zu) (zi (qQ (jc qE "NoNumber") zu) zo)))))) (zl (zN 3 (zc qf zZ (z8 (zi (qQ (jc qE "NoLot") zu) (zi (qQ (jc qE "NoKinds") zu) (zi (qQ (jc qE "NoPaper") zu) zo)))))) (zl (zN 3 (zc qf zZ (z8 (zi (qQ (jc qE "NoParting") zu) (zi (qQ (jc qE "NoClosed") zu) (zi (qQ (jc qE "TooMany") zu) zo)))))) (zl (zN 3 (zc qf zZ (z8 (zi (qQ (jc qE "NoText") zu) (zi (qQ (jc qE "NoLine") zu) (zi (qQ (jc qE "NoDeed") zu) zo)))))) (zl (qB (yw (qQ (X4 qE) zu)) (zl (qF wy) zB) zB) (zl (qF (qh (zO 1 [3] (jg (zy (.int 15))) (zF 0) (zc zA zu zm) (zL zm)))) zB))))))
def JG (PG:jy)(lam:Nat->Fn):Ex:=zl (zN 1 wy) (zl (Ym 0 1 2 qE PG lam) WE)
def P8 {K:Frag}(T:Bu mg)(C:kW K qE "NearError")(R:Y3.all (ZU K qE)=true)(F:kY K "_law_refused" "_law_refused" WJ f fd)(hm:mg "_law_refused"=some (.ref f)){PG:jy}{lam:Nat->Fn}(h:kk<=k)(L:∀k,Qy P w K mg base kk (PG k) (lam k)):zX P w K mg base (k+1) "_law_refused" 1 (jk 4 (JG PG lam)):=
 yM F hm Zy (λ_ _ _ _ _ _=>wX λ_=>rfl) λc A outer s H E r=>zr (qt 1 Zy.nd ZL) (zr (Hc L (r.mono h) rfl rfl C.top_at C.top_exc (by decide +kernel) C.under Zy.nd rfl rfl rfl rfl rfl rfl rfl) (zr (qt 3 Zy.nd (q9 (zj (kB (C.isx (jz R)) (kC (jz R)) T.jG (zh 1)) (zj (kB (C.isx (jz R)) (kC (jz R)) T.jG (zh 1)) (zj (kB (C.isx (jz R)) (kC (jz R)) T.jG (zh 1)) zG))) (zx (zx (zx ql))))) (zr (qt 3 Zy.nd (jO (zh 3) (q9 (zj (kB (C.isx (jz R)) (kC (jz R)) T.jG (zh 1)) (zj (kB (C.isx (jz R)) (kC (jz R)) T.jG (zh 1)) (zj (kB (C.isx (jz R)) (kC (jz R)) T.jG (zh 1)) zG))) (zx (zx (zx ql)))))) (zr (qt 3 Zy.nd (jO (zh 3) (q9 (zj (kB (C.isx (jz R)) (kC (jz R)) T.jG (zh 1)) (zj (kB (C.isx (jz R)) (kC (jz R)) T.jG (zh 1)) (zj (kB (C.isx (jz R)) (kC (jz R)) T.jG (zh 1)) zG))) (zx (zx (zx ql)))))) (zr (qt 3 Zy.nd (jO (zh 3) (q9 (zj (kB (C.isx (jz R)) (kC (jz R)) T.jG (zh 1)) (zj (kB (C.isx (jz R)) (kC (jz R)) T.jG (zh 1)) (zj (kB (C.isx (jz R)) (kC (jz R)) T.jG (zh 1)) zG))) (zx (zx (zx ql)))))) (zr (qt 3 Zy.nd (jO (zh 3) (q9 (zj (kB (C.isx (jz R)) (kC (jz R)) T.jG (zh 1)) (zj (kB (C.isx (jz R)) (kC (jz R)) T.jG (zh 1)) (zj (kB (C.isx (jz R)) (kC (jz R)) T.jG (zh 1)) zG))) (zx (zx (zx ql)))))) (zr (jK (Ql (Zc (Ik C.isv T.jG T.OL (by rfl) (zh 1)))) (zr (qD ZL) zM) zM) (zr (qD (j4 (qV (N:=["_law_k","_law_marks"]) 1 [3] (yc rfl T.jU zt) (λ_ _ _=>⟨qz 0 (qM (by kernel_rfl)),Y4 (Zc (qA (zh 1) (zh 0))),qR (zh 0)⟩)))) zM))))))))
abbrev Vw:Stmt:=top 41
def Z8:jJ ["_law_text","_law_rows","_law_many","_law_found","_law_a","_law_b","_law_kinds"] ["_law_text"] (qC Vw):=yq (by kernel_rfl)
def YE:Ex:=zl (zN 1 (jm wI zm (zy (.str "/")))) (zl (zN 2 (mQ qG (qi zu))) (zl (qB (y8 (zc Jz zW km) (zc qx (qh (zO 1 [2] (qo zu) (zF 0) (zc qx (qP gr zm) zu) (zL zm))) (z8 zo))) (zl (qF wy) zB) zB) (zl (qB (zc qx (qh (zO 1 [] (qo zu) (zF 0) (zc qx (jm gF zm (zy (.str "01234567"))) (zy (.str ""))) (zL zm))) (z8 zo)) (zl (qF wy) zB) zB) (zl (zN 3 (mQ yN (zO 1 [] (qo zu) (zF 0) zY (zL (mQ yN (zO 1 [] (Zi zm) (zF 0) zY (zL (qP Jl zm)))))))) (zl (yT (jg zW) (zF 4) (zl (yT (jg zW) (zF 5) (zl (qB (y8 (zc qx (zc qX (zc zA (zc zA zZ qT) jF) qO) (zc qX qT jF)) (zc qx (zc zA (zc zA zZ qT) jF) (zc zA (zc zA zZ jF) qT))) (zl (qF wy) zB) zB) zB)) zB)) (zl (zN 6 (Qg (zc we (qh (zO 1 [] (qo zZ) (zF 0) zY (zL (qh (qi zm))))) (z8 zo)))) (zl (qF (Zr (kh (zc qX yg (Qm (mQ qG (qi yg)))) (zc Zp (zc zA yg (qP Jp qj)) zW)) zZ wy)) zB)))))))
abbrev V7:Stmt:=top 42
def wF:jJ ["_law_state_here","_law_text","_law_at","_law_signs","_law_sign","_law_left","_law_right","_law_words","_law_one","_law_other","_law_word","_law_some","_law_rest"] ["_law_state_here","_law_text"] (qC V7):=yq (by kernel_rfl)
def VY (j:Fn):Ex:=zl (zN 2 (zQ j (zi zm (zi (zc qf (qP gr zu) qj) zo)))) (zl (zN 3 (zy (.str " !\"#$&'()*+,-./0123456789:;<=>?@ABCDEFGHIJKLMNOPQRSTUVWXYZ[\\]^_`abcdefghijklmnopqrstuvwxyz{|}~"))) (zl (zN 4 (zc zA (z8 (zi (zc gR zZ (zQ j (zi zm (zi (zy (.int 94)) zo)))) (zi (zc gR (zy (.str "0123456/")) (zQ j (zi zm (zi km zo)))) zo))) (zQ j (zi zm (zi qU zo))))) (zl (Yo 5 6 (wO zu yh (jC zW)) (wO zu (jC zW) yh)) (zl (zN 7 (jm wI zu (zy (.str "/")))) (zl (Yo 8 9 (zQ j (zi zm (zi (mQ qG (qi ka)) zo))) (zQ j (zi zm (zi (mQ qG (qi ka)) zo)))) (zl (zN 10 (zc zA ka gB)) (zl (zN 11 (z8 (zi (zc yX jF (wO yg (jC qj) yh)) (zi (zc yX (zc yX jF qT) yg) (zi (zc yX (zc yX jF qT) (wO yg (jC qj) yh)) (zi (zc yX (zc yX (zc yX jF (wO yg (jC qj) (jC qU))) (wO yg yh (jC qj))) (wO yg (jC qU) yh)) zo)))))) (zl (zN 11 (zc qf XH (z8 (zi (jm kP (zy (.str "/")) (zc qf (yY ka yh (jC gB)) (yY ka (jC (zc qf gB qj)) yh))) (zi (jm kP (zy (.str "/")) (zc qf (zc qf (yY ka yh (jC gB)) (z8 (zi KO zo))) (yY ka (jC gB) yh))) zo))))) (zl (zN 12 (zc qf (yY ka yh (jC gB)) (yY ka (jC (zc qf gB qj)) yh))) (zl (zN 11 (zc qf XH (z8 (zi (jm kP (zy (.str "/")) (zc qf (zc qf (yY Wb yh (jC Wn)) (z8 (zi KO zo))) (yY Wb (jC Wn) yh))) (zi zu (zi (zc yX (zy (.str "/")) zu) (zi (zc yX zu (zy (.str "/"))) (zi (zc yX zu (zy (.str " "))) zo)))))))) (zl (qF (zc zA XH (zQ j (zi zm (zi (zy (.int 11)) zo))))) zB)))))))))))
abbrev Ji:Stmt:=top 43
def Zf:jJ ["_law_script","_law_k","_law_state_here","_law_table_here","_law_text","_law_turn","_law_due","_law_odd"] ["_law_script"] (qC Ji):=yq (by kernel_rfl)
noncomputable abbrev jj:Str:=(("law":Str)++(".<locals>.":Str))++("<lambda>":Str)
def Q6 (j:Fn):Lm:=KS (RZ (RQ (RY (Wc (Wc (Wc ((kL Ji).getD 0 Ja) 3) 1) 0))) 0) ["_law_text"] [4] (zQ j (zi zm zo))
def Q7 (j:Fn):Lm:=KS (RZ (RQ (RY (Wc ((kL Ji).getD 0 Ja) 5))) 0) ["_law_odd"] [7] (zQ j (zi zm zo))
def gk (j:Fn):List Lm:=[Q6 j,Q7 j]
section
variable {K:Frag}(T:Bu mg){jW:Fn}(QU:∀base,kX P w K mg base k "read_table" 1 jW)
include T QU
theorem L5:QH P w K mg k jj (Q6 jW):=
 ⟨⟨rfl,rfl,rfl,UJ (by kernel_rfl)⟩,λ_ _ _ _=>rfl,λbase cl a c A outer s H E h x=>yE (UI x (QU base) h (zj (zh 0) zG))⟩
theorem Iu:QH P w K mg k jj (Q7 jW):=
 ⟨⟨rfl,rfl,rfl,UJ (by kernel_rfl)⟩,λ_ _ _ _=>rfl,λbase cl a c A outer s H E h x=>yE (UI x (QU base) h (zj (zh 0) zG))⟩
end
def CI {K:Frag}(T:Bu mg){j:Fn}(Q:∀base,kX P w K mg base k "read_table" 1 j):∀t∈gk j,QH P w K mg k jj t:=
 all_cons (L5 T Q) (all_cons (Iu T Q) all_nil)
def XB (Y:Fn)(g:Fn)(N:Fn)(y:Fn)(D:Fn)(J:Fn)(a:Fn)(j:Fn)(RF:Nat->List W->Hx->R W)(P:Addr)(PF:jy):Ex:=zl (yT (jg (zc Xy qj (zc ZW (mQ qG (qi zm)) km))) (zF 1) (zl (zN 2 (zQ N (zi zm (zi zu zo)))) (zl (zN 3 (zQ y (zi zW zo))) (zl (zN 4 (jm kP (zy (.str "/")) (qh (zO 1 [] (qo zZ) (zF 0) zY (zL (jm kP (zy (.str "")) (qh (zO 1 [] (qo zm) (zF 0) zY (zL (qP QD zm)))))))))) (zl (yT (jg kq) (zF 5) (zl (zN 6 (zQ D (zi qT zo))) (zl (qB (zc (Jy false) yg wy) (zl (qB (zc qx (gm (gk j) PF (gN RF) (zi (wm 1 jj P 0 (PF 0)) zo)) (z8 (zi (zy (.int 12)) zo))) gy zB) zB) (zl (qB (yw (zQ g (zi (zQ a (zi qT zo)) (zi yg zo)))) gy zB) zB)) (zl (zN 4 (zQ Y (zi zW (zi qT zo)))) zB)))) (zl (zN 7 (zc zA (z8 (zi wy (zi Zw (zi (jL (zi (zy (.str "0")) zo)) (zi (z8 (zi (zy (.str "0")) zo)) (zi zY (zi Jv (zi (jL (zi (jL (zi qO zo)) zo)) zo)))))))) (zQ J (zi zW (zi Zw zo))))) (zl (qB (zc qx (gm (gk j) PF (gN RF) (zi (wm 1 jj P 1 (PF 1)) zo)) (z8 (zi (zy (.int 12)) zo))) gy zB) zB))))))) (zl (qF zY) zB)
def o_law {K:Frag}(T:Bu mg)(F:kY K "law" "law" Ji f fd)(hn:nsIn K mainGlobals "law"=some (some (.ref f)))(n:tabIn K "law"=some (c,Pt))(B:BMain mg base)(C:CodeHd base c Pt){Y:Fn}(ZD:zX P w K mg base k "_law_bent" 2 Y){g:Fn}(ZA:zX P w K mg base k "_law_same" 2 g){i:Fn}(QT:zX P w K mg base k "_law_state" 2 i){y:Fn}(Qb:zX P w K mg base k "_law_table" 1 y){D:Fn}(Z9:zX P w K mg base k "_law_table_in" 1 D){d:Fn}(yb:zX P w K mg base k "_law_take" 2 d){l:Fn}(QS:zX P w K mg base k "read_table" 1 l){J:Fn}{RF:Nat->List W->Hx->R W}(b:kk<=k)(a:∀t∈gk J,QH P w K mg j jj t)(e:∀base PG,(∀k,Qy P w K mg base (j+1) (PG k) (yL (gk J) k))->zX P w K mg base kk "_law_refused" 1 (Z2 PG RF)):yv P w K mg base w6 (k+1) f fd ["_law_script"] (spT K 1 λPF=>jk 8 (XB Y g i y D d l J RF Pt PF)):=
 CY (ls:=gk J) F hn n Zf λA outer s H E h=>zr (Zb PassesOwn.never rfl (yc rfl T.jU (Ll rfl T.KJ zt (GC rfl T.XC (kx T.yQ (yu (zh 0))) zt))) (qz 1 Zf.nd) (zr (qt 2 Zf.nd (qI QT h (zj (zh 0) (zj (zh 1) zG)))) (zr (qt 3 Zf.nd (qI Qb h (zj (zh 2) zG))) (zr (qt 4 Zf.nd (JS yF (j4 (qV (N:=["_law_row"]) 1 [] (ye (zh 3)) (λ_ _ _=>⟨qz 0 (qM (by kernel_rfl)),qY,qR (JS yF (j4 (qV (N:=["_law_kind"]) 1 [] (ye (zh 0)) (λ_ _ _=>⟨qz 0 (qM (by kernel_rfl)),qY,qR (Mz T.RG (zh 0))⟩))))⟩))))) (zr (Zb PassesOwn.never rfl (yc rfl T.jU zt) (qz 5 Zf.nd) (zr (qt 6 Zf.nd (qI Z9 h (zj (zh 4) zG))) (zr (jK (jn Ba (zh 6) ZL) (zr (jK (jn (yR h) (UG (q:=jj) (λ_=>rfl) a (Pp (by kernel_rfl)) e To (h.mono b) (zj (U2 (ls:=gk J) (t:=Q6 J) rfl (by kernel_rfl) B rfl C rfl rfl) zG) (zx ql)) (q9 (zj zt zG) (zx ql))) (zr (qD wc) zM) zM) zM) (zr (jK (Ql (Zc (qI ZA h (zj (qI QS h (zj (zh 4) zG)) (zj (zh 6) zG))))) (zr (qD wc) zM) zM) zM)) (zr (qt 4 Zf.nd (qI ZD h (zj (zh 2) (zj (zh 4) zG)))) zM)))) (zr (qt 7 Zf.nd (qA (q9 (zj ZL (zj zt (zj (kJ (zj yF zG) (zx ql)) (zj (q9 (zj yF zG) (zx ql)) (zj wc (zj IY (zj (kJ (zj (kJ (zj zt zG) (zx ql)) zG) (zx ql)) zG))))))) (zx (zx (zx (zx (zx (zx (zx ql)))))))) (qI yb h (zj (zh 2) (zj zt zG))))) (zr (jK (jn (yR h) (UG (q:=jj) (λ_=>rfl) a (Pp (by kernel_rfl)) e To (h.mono b) (zj (U2 (ls:=gk J) (t:=Q7 J) rfl (by kernel_rfl) B rfl C rfl rfl) zG) (zx ql)) (q9 (zj zt zG) (zx ql))) (zr (qD wc) zM) zM) zM))))))) (zr (qD wc) zM)
def W6:Fn:=jk 1 ND
def JL:Fn :=  W6
def W9:Fn:=jk 5 Gj
def Gh:Fn:=iso W9
def Wz:Fn:=jk 2 Vm
def WA:Fn:=iso Wz
def VA:Fn:=jk 1 VD
def WK:Fn:=iso VA
def Vx:Fn:=jk 2 WH
def YF:Fn :=  Vx
def JH:Fn:=jk 4 W0
def yb:Fn:=wV JH
def WQ:Fn:=jk 2 VS
def Qc:Fn :=  WQ
def Vv:Fn:=jk 7 YE
def Z9:Fn:=iso Vv
def WZ:Fn:=jk 2 (V5 JL)
def JJ:Fn :=  WZ
def VQ:Fn:=jk 3 (WO YF)
def QT:Fn :=  VQ
def WD:Fn:=jk 4 (Vr yb)
def QQ:Fn :=  WD
def WR:Fn:=jk 11 (WN yb)
def YH:Fn :=  WR
def WV:Fn:=jk 13 (VY yb)
def ZD:Fn :=  WV
def WB:Fn:=jk 3 (Vq JJ)
def JF:Fn :=  WB
def YQ:Fn:=jk 4 (VT QQ Qc YH)
def QV:Fn:=wV YQ
def Oy:Fn:=jk 2 (ZC (λ_ _=>.bad))
def VV:Fn :=  Oy
def OE:Fn:=jk 2 (ZC VV)
def WS:Fn :=  OE
def O5:Fn:=jk 2 (ZC WS)
def ZA:Fn :=  O5
def W4:Fn:=jk 2 (Ua Gh JF WA)
def JM:Fn :=  W4
def YI:Fn:=jk 7 (VN QV Qc yb)
def Qb:Fn:=wV YI
def ku:Fn:=Jq 2 (YL JM WK)
def QS:Fn:=iso (λws A=>(ku ws A).nox)
structure Tx (K:Frag):Prop where
 NH:FD K "is_whole" Uc
 N1:FD K "is_even" Uy
 PH:FD K "leaves_no_kind_out" Vn
 Of:FD K "read_figure" VC
 Oc:FD K "_law_cell_at" Vy
 O9:FD K "_law_take" VZ
 OI:FD K "_law_named" VR
 P2:FD K "_law_table_in" Vw
 OT:FD K "is_wholes" VW
 Ou:FD K "_law_state" VO
 PY:FD K "_law_mixed_row" Vt
 OO:FD K "_law_plain" VL
 OZ:FD K "_law_bent" V7
 PV:FD K "is_wholes_below" Vp
 Ox:FD K "_law_known" VI
 WW:FD K "_law_same" WX
 Nq:FD K "is_table" V9
 OD:FD K "_law_table" VU
 Ot:FD K "read_table" VJ
 Oe:FD K "_law_refused" WJ
 DK:FD K "law" Ji
 OM:nsIn K mainGlobals "ValueError"=some none
 D9:nsIn K mainGlobals "abs"=some none
 DD:nsIn K mainGlobals "all"=some none
 E1:nsIn K mainGlobals "bool"=some none
 OY:nsIn K mainGlobals "enumerate"=some none
 Ct:nsIn K mainGlobals "int"=some none
 OH:nsIn K mainGlobals "isinstance"=some none
 Cb:nsIn K mainGlobals "len"=some none
 FJ:nsIn K mainGlobals "list"=some none
 Co:nsIn K mainGlobals "max"=some none
 Ce:nsIn K mainGlobals "min"=some none
 H9:nsIn K mainGlobals "range"=some none
 DC:nsIn K mainGlobals "set"=some none
 LZ:nsIn K mainGlobals "sorted"=some none
 DU:nsIn K mainGlobals "str"=some none
 DI:nsIn K mainGlobals "sum"=some none
 HM:nsIn K mainGlobals "tuple"=some none
 DF:nsIn K mainGlobals "zip"=some none
 MJ:Pf K "FIGURES" "0123456789"
 Oq:CD K "MOST_PLACES" 8
 Cu:qE.all (Kk K "NearError" ·)=true
 D6:Xl K "NearError"=true
 Cc:Y3.all (ZU K qE)=true
section
variable {K:Frag}
def bu (X:K.In h)(G:h.Ns mainGlobals mg)(T:Tx K):Bu mg:=⟨aT X G T.OM,aT X G T.D9,aT X G T.DD,aT X G T.E1,aT X G T.OY,aT X G T.Ct,aT X G T.OH,aT X G T.Cb,aT X G T.FJ,aT X G T.Co,aT X G T.Ce,aT X G T.H9,aT X G T.DC,aT X G T.LZ,aT X G T.DU,aT X G T.DI,aT X G T.HM,aT X G T.DF,(let ⟨t,e⟩:=T.MJ;⟨t,bb X G e⟩),(let ⟨t,e⟩:=T.Oq;⟨t,bb X G e⟩)⟩
def cl (T:Tx K):kW K qE "NearError":=F3 T.Cu T.D6
structure Zz (K:Frag)(h:Heap)(mg:bV):Prop where
 X:K.In h
 G:h.Ns mainGlobals mg
 T:Tx K
 B:Bu mg
 C:kW K qE "NearError"
def zz (X:K.In h)(G:h.Ns mainGlobals mg)(T:Tx K):Zz K h mg:=⟨X,G,T,bu X G T,cl T⟩
def NC (Z:Zz K h mg):zX P w K mg base 1 "is_whole" 1 JL:=by
 obtain⟨f,fd,F,a⟩:=Z.T.NH;exact(yM F (bb Z.X Z.G a) Nb (λ_ _ _ _ _ _=>wX λ_=>rfl) λc A outer s H E r=>zr (qD (Q5 (gj .int Z.B.jG Z.B.Qu (by rfl) (zh 0)) (JW (Fi (gj .bl Z.B.jG Z.B.G0 (by rfl) (zh 0)))))) (zM):zX P w K mg base 1 "is_whole" 1 W6)
def MU (Z:Zz K h mg):zX P w K mg base 1 "is_even" 1 Gh:=by
 obtain⟨f,fd,F,a⟩:=Z.T.N1;exact(yM F (bb Z.X Z.G a) W5 (λ_ _ _ _ _ _=>wX λ_=>rfl) λc A outer s H E r=>zr (Zb PassesOwn.never rfl (Te rfl Z.B.VX (zh 0)) (Ka 1 2 rfl W5.nd) (zr (Zb PassesOwn.never rfl (Te rfl Z.B.VX (zh 2)) (Ka 3 4 rfl W5.nd) (zr (jK (Qh (Yd (jn (yR r) (wQ (yt r) (zh 4) zt) (wQ (yt r) (zh 1) (zh 3))) (JV (jn (yR r) (qA (qA (zh 0) (zh 3)) (zh 1)) (zh 4))))) (zr (qD wc) zM) zM) zM)) zM)) (zr (qD wc) zM):zX P w K mg base 1 "is_even" 1 W9).iso
def PL (Z:Zz K h mg):zX P w K mg base 1 "leaves_no_kind_out" 1 WA:=by
 obtain⟨f,fd,F,a⟩:=Z.T.PH;exact(yM F (bb Z.X Z.G a) Vl (λ_ _ _ _ _ _=>wX λ_=>rfl) λc A outer s H E r=>zr (qt 1 Vl.nd (j4 (qV (N:=["row","kind"]) 2 [] (ye (zh 0)) (λ_ _ _=>⟨qz 0 (qM (by kernel_rfl)),qY,HA (λ_ _ z=>z) rfl rfl (by intro _ h;cases h<;>rfl) (ye (zh 0)) (qz 1 (qM (by kernel_rfl))) qY (qR (zh 1))⟩)))) (zr (qD (JY rfl Z.B.Yi (kD (qV (N:=["kind","standing"]) 1 [1] (yc rfl Z.B.jU (GF rfl Z.B.KJ (yu (zh 1)))) (λ_ _ _=>⟨qz 0 (qM (by kernel_rfl)),qY,qR (F8 R4 (zh 0) (zh 1))⟩))))) zM):zX P w K mg base 1 "leaves_no_kind_out" 1 Wz).iso
def Oj (Z:Zz K h mg):zX P w K mg base 1 "read_figure" 1 WK:=by
 obtain⟨f,fd,F,a⟩:=Z.T.Of;exact(yM F (bb Z.X Z.G a) Oa (λ_ _ _ _ _ _=>wX λ_=>rfl) λc A outer s H E r=>zr (qD (GY (jn (yt r) (Gy Z.B.yQ (zh 0)) zt) (Lx (NU rfl Z.B.Md.choose_spec) (zh 0)) (TY zt))) (zM):zX P w K mg base 1 "read_figure" 1 VA).iso
def P6 (Z:Zz K h mg):zX P w K mg base 1 "_law_cell_at" 2 YF:=by
 obtain⟨f,fd,F,a⟩:=Z.T.Oc;exact(yM F (bb Z.X Z.G a) P5 (λ_ _ _ _ _ _=>Z7 λ_ _=>rfl) λc A outer s H E r=>zr (jK (jn XG (zh 1) (kx Z.B.yQ (yu (zh 0)))) (zr (qD (qA (zh 0) (zh 1))) zM) zM) (zr (qD zt) zM):zX P w K mg base 1 "_law_cell_at" 2 Vx)
def yj (Z:Zz K h mg):zX P w K mg base 1 "_law_take" 2 yb:=by
 obtain⟨f,fd,F,a⟩:=Z.T.O9;exact(yM F (bb Z.X Z.G a) YM (λ_ _ _ _ _ _=>Z7 λ_ _=>rfl) λc A outer s H E r=>zr (jK (Zc (qA (zh 0) zt)) (zr (qt 2 YM.nd (ZI (qA (zh 0) zt) (zh 1))) (zr (Q4 (Q3 (qA (zh 0) zt) (zh 1)) (zh 0) zt) (zr (qD (zh 2)) zM))) zM) (zr (Q4 (ZI (jO (wH (qA (zh 0) zt) zt) zt) zt) (zh 0) zt) (zr (qt 3 YM.nd (ZI (jO (jO (wH (qA (zh 0) zt) (qA (zh 0) zt)) (wH zt (qA (zh 0) zt))) zt) zt)) (zr (qt 3 YM.nd (ZI (jO (wH (zh 3) (zh 3)) (wH zt (zh 3))) zt)) (zr (qD (ZI (Q3 (zh 3) zt) (zh 1))) zM)))):zX P w K mg base 1 "_law_take" 2 JH).wV
def WT (Z:Zz K h mg):zX P w K mg base 1 "_law_named" 1 Qc:=by
 obtain⟨f,fd,F,a⟩:=Z.T.OI;exact(yM F (bb Z.X Z.G a) VG (λ_ _ _ _ _ _=>wX λ_=>rfl) λc A outer s H E r=>zr (qt 1 VG.nd (V4 rfl Z.B.Tn Z.B.Rm (Td rfl Z.B.Rn (j4 (qV (N:=["_law_row"]) 1 [] (ye (zh 0)) (λ_ _ _=>⟨qz 0 (qM (by kernel_rfl)),qY,qR (Y0 Z.B.gG (yu (zh 0)))⟩))) (q9 zG ql)))) (zr (qD (ZE Z.B.k9 (kD (qV (N:=["_law_row","_law_some"]) 1 [1] (ye (zh 0)) (λ_ _ _=>⟨qz 0 (qM (by kernel_rfl)),qY,qR (ZE Z.B.k9 (kD (qV (N:=["_law_kind","_law_some"]) 1 [1] (ye (zh 0)) (λ_ _ _=>⟨qz 0 (qM (by kernel_rfl)),qY,qR (NZ r (zh 1) (zh 0))⟩))))⟩))))) zM):zX P w K mg base 1 "_law_named" 1 WQ)
def PZ (Z:Zz K h mg):zX P w K mg base 1 "_law_table_in" 1 Z9:=by
 obtain⟨f,fd,F,a⟩:=Z.T.P2;exact(yM F (bb Z.X Z.G a) Z8 (λ_ _ _ _ _ _=>wX λ_=>rfl) λc A outer s H E r=>zr (qt 1 Z8.nd (W8 (zh 0) yF)) (zr (qt 2 Z8.nd (kx Z.B.yQ (yu (zh 1)))) (zr (jK (Qh (Yd (jn R6 (zh 2) zt) (JV (jn (yR r) (j4 (qV (N:=["_law_row","_law_many"]) 1 [2] (ye (zh 1)) (λ_ _ _=>⟨qz 0 (qM (by kernel_rfl)),Y4 (jn (yR r) (Gy Z.B.yQ (zh 0)) (zh 1)),qR (zh 0)⟩))) (q9 zG ql))))) (zr (qD ZL) zM) zM) (zr (jK (jn (yR r) (j4 (qV (N:=["_law_row"]) 1 [] (ye (zh 1)) (λ_ _ _=>⟨qz 0 (qM (by kernel_rfl)),Y4 (jn (yR r) (NJ (zh 0) yF) yF),qR (zh 0)⟩))) (q9 zG ql)) (zr (qD ZL) zM) zM) (zr (qt 3 Z8.nd (ZE Z.B.k9 (kD (qV (N:=["_law_row"]) 1 [] (ye (zh 1)) (λ_ _ _=>⟨qz 0 (qM (by kernel_rfl)),qY,qR (ZE Z.B.k9 (kD (qV (N:=["_law_sign"]) 1 [] (Sg (zh 0)) (λ_ _ _=>⟨qz 0 (qM (by kernel_rfl)),qY,qR (L9 Z.B.Qu (zh 0))⟩))))⟩))))) (zr (Zb PassesOwn.never rfl (yc rfl Z.B.jU (zh 2)) (qz 4 Z8.nd) (zr (Zb PassesOwn.never rfl (yc rfl Z.B.jU (zh 2)) (qz 5 Z8.nd) (zr (jK (Qh (Yd (jn (yR r) (wQ (yt r) (qA (qA (zh 3) (zh 4)) (zh 5)) zt) (wQ (yt r) (zh 4) (zh 5))) (JV (jn (yR r) (qA (qA (zh 3) (zh 4)) (zh 5)) (qA (qA (zh 3) (zh 5)) (zh 4)))))) (zr (qD ZL) zM) zM) zM)) zM)) (zr (qt 6 Z8.nd (V4 rfl Z.B.Tn Z.B.Rm (Td rfl Z.B.Rn (j4 (qV (N:=["_law_row"]) 1 [] (ye (zh 3)) (λ_ _ _=>⟨qz 0 (qM (by kernel_rfl)),qY,qR (Y0 Z.B.gG (yu (zh 0)))⟩))) (q9 zG ql)))) (zr (qD (GY (Qh (TJ (jn (yt r) (zh 6) (Ub rfl Z.B.gG Z.B.jU (kx Z.B.yQ (yu (zh 6))))) (Ts (jn XG (qA (zh 6) (TY zt)) (zh 2))))) (zh 3) ZL)) zM))))))):zX P w K mg base 1 "_law_table_in" 1 Vv).iso
def O6 (Z:Zz K h mg):zX P w K mg base 2 "is_wholes" 2 JJ:=by
 obtain⟨f,fd,F,a⟩:=Z.T.OT;exact(yM F (bb Z.X Z.G a) Oz (λ_ _ _ _ _ _=>Z7 λ_ _=>rfl) λc A outer s H E r=>zr (qD (Q5 (gj .tup Z.B.jG Z.B.k9 (by rfl) (zh 0)) (Q5 (wQ (yt r) (kx Z.B.yQ (yu (zh 0))) (zh 1)) (JW (JY rfl Z.B.Yi (kD (qV (N:=["part"]) 1 [] (ye (zh 0)) (λ_ _ _=>⟨qz 0 (qM (by kernel_rfl)),qY,qR (qI (NC Z).up r (zj (zh 0) zG))⟩)))))))) (zM):zX P w K mg base 2 "is_wholes" 2 WZ)
def OQ (Z:Zz K h mg):zX P w K mg base 2 "_law_state" 2 QT:=by
 obtain⟨f,fd,F,a⟩:=Z.T.Ou;exact(yM F (bb Z.X Z.G a) VE (λ_ _ _ _ _ _=>Z7 λ_ _=>rfl) λc A outer s H E r=>zr (qt 2 VE.nd (qI (P6 Z).up r (zj (zh 0) (zj (zh 1) zG)))) (zr (jK (jn CV (zh 2) (TC zt zt)) (zr (qD (q9 (zj (Zd (zh 2) (TC zt zt)) (zj wc zG)) (zx (zx ql)))) zM) zM) (zr (qD (q9 (zj (ZI (zh 2) zt) (zj wc zG)) (zx (zx ql)))) zM)):zX P w K mg base 2 "_law_state" 2 VQ)
def Vu (Z:Zz K h mg):zX P w K mg base 2 "_law_mixed_row" 2 QQ:=by
 obtain⟨f,fd,F,a⟩:=Z.T.PY;exact(yM F (bb Z.X Z.G a) WC (λ_ _ _ _ _ _=>Z7 λ_ _=>rfl) λc A outer s H E r=>zr (qt 2 WC.nd (Y0 Z.B.gG (yu (zh 1)))) (zr (qt 3 WC.nd (q9 zG ql)) (zr (NQ 1000 PassesOwn.never (jn (yR r) (zh 2) (q9 zG ql)) (zr (GD (W3 (zh 3) (NV (zh 2) (qI (yj Z).up r (zj (zh 0) (zj (kx Z.B.yQ (yu (zh 2))) zG)))))) zM)) (zr (qD (zh 3)) zM))):zX P w K mg base 2 "_law_mixed_row" 2 WD)
def OK (Z:Zz K h mg):zX P w K mg base 2 "_law_plain" 1 YH:=by
 obtain⟨f,fd,F,a⟩:=Z.T.OO;exact(yM F (bb Z.X Z.G a) kI (λ_ _ _ _ _ _=>wX λ_=>rfl) λc A outer s H E r=>zr (qt 1 kI.nd (qI (yj Z).up r (zj (zh 0) (zj zt zG)))) (zr (qt 2 kI.nd (qA (q9 (zj zt (zj zt (zj zt (zj zt (zj zt (zj zt (zj zt (zj zt zG)))))))) (zx (zx (zx (zx (zx (zx (zx (zx ql))))))))) (qI (yj Z).up r (zj (zh 0) (zj zt zG))))) (zr (jK (jn (yt r) (zh 1) zt) (zr (qD (j4 (qV (N:=["_law_a","_law_many"]) 1 [2] (yc rfl Z.B.jU (zh 2)) (λ_ _ _=>⟨qz 0 (qM (by kernel_rfl)),qY,qR (j4 (qV (N:=["_law_b","_law_a","_law_many"]) 1 [0,1] (yc rfl Z.B.jU (zh 1)) (λ_ _ _=>⟨qz 0 (qM (by kernel_rfl)),qY,qR (GC rfl Z.B.XC (GW Z.B.Xr (Zd (zh 1) (zh 0))) (Zd (zh 2) (GW Z.B.Xr (Zd (zh 1) (zh 0)))))⟩)))⟩)))) zM) zM) (zr (jK (jn (yt r) (zh 1) zt) (zr (qt 2 kI.nd (qA (q9 (zj zt (zj zt (zj zt zG))) (zx (zx (zx ql)))) (qI (yj Z).up r (zj (zh 0) (zj zt zG))))) (zr (qD (j4 (qV (N:=["_law_a","_law_many"]) 1 [2] (yc rfl Z.B.jU (zh 2)) (λ_ _ _=>⟨qz 0 (qM (by kernel_rfl)),qY,qR (j4 (qV (N:=["_law_b","_law_a"]) 1 [0] (yc rfl Z.B.jU (zh 1)) (λ_ _ _=>⟨qz 0 (qM (by kernel_rfl)),qY,qR (qA (q9 (zj zt (zj zt (zj zt (zj zt (zj zt (zj zt (zj zt (zj zt zG)))))))) (zx (zx (zx (zx (zx (zx (zx (zx ql))))))))) (T9 (zh 1) (zh 0)))⟩)))⟩)))) zM)) zM) (zr (jK (jn (yt r) (zh 1) zt) (zr (qD (j4 (qV (N:=["_law_a","_law_many"]) 1 [2] (yc rfl Z.B.jU (zh 2)) (λ_ _ _=>⟨qz 0 (qM (by kernel_rfl)),qY,qR (j4 (qV (N:=["_law_b","_law_a"]) 1 [0] (yc rfl Z.B.jU (zh 1)) (λ_ _ _=>⟨qz 0 (qM (by kernel_rfl)),qY,qR (JN Z.B.Qu (wQ (yR r) (zh 1) (zh 0)))⟩)))⟩)))) zM) zM) (zr (jK (jn (yt r) (zh 1) zt) (zr (Hh (qA (q9 (zj (kJ (zj zt (zj zt zG)) (zx (zx ql))) (zj (kJ (zj zt (zj zt zG)) (zx (zx ql))) (zj (kJ (zj zt (zj zt zG)) (zx (zx ql))) (zj (kJ (zj zt (zj zt zG)) (zx (zx ql))) (zj (kJ (zj zt (zj zt zG)) (zx (zx ql))) zG))))) (zx (zx (zx (zx (zx ql)))))) (qI (yj Z).up r (zj (zh 0) (zj zt zG)))) (Ka 3 4 rfl kI.nd)) (zr (qt 2 kI.nd (wH (zh 3) (zh 4))) (zr (qD (j4 (qV (N:=["_law_a","_law_many","_law_wide"]) 1 [2,3] (yc rfl Z.B.jU (zh 2)) (λ_ _ _=>⟨qz 0 (qM (by kernel_rfl)),qY,qR (j4 (qV (N:=["_law_b","_law_a","_law_wide"]) 1 [0,2] (yc rfl Z.B.jU (zh 1)) (λ_ _ _=>⟨qz 0 (qM (by kernel_rfl)),qY,qR (jO (JN Z.B.Qu (wQ (yR r) (zh 1) (zh 0))) (JN Z.B.Qu (wQ (yR r) (Q3 (zh 1) (zh 2)) (Q3 (zh 0) (zh 2)))))⟩)))⟩)))) zM))) zM) (zr (jK (jn (yt r) (zh 1) zt) (zr (qt 5 kI.nd (q9 (zj (kJ (zj zt (zj zt zG)) (zx (zx ql))) (zj (kJ (zj zt (zj zt zG)) (zx (zx ql))) (zj (kJ (zj zt (zj zt zG)) (zx (zx ql))) (zj (kJ (zj zt (zj zt zG)) (zx (zx ql))) (zj (kJ (zj zt (zj zt zG)) (zx (zx ql))) (zj (kJ (zj zt (zj zt zG)) (zx (zx ql))) zG)))))) (zx (zx (zx (zx (zx (zx ql)))))))) (zr (qD (j4 (qV (N:=["_law_a","_law_some"]) 1 [5] (ye (zh 5)) (λ_ _ _=>⟨qz 0 (qM (by kernel_rfl)),qY,qR (j4 (qV (N:=["_law_b","_law_a"]) 1 [0] (ye (zh 1)) (λ_ _ _=>⟨qz 0 (qM (by kernel_rfl)),qY,qR (Zd zt (kx Z.B.yQ (kD (qV (N:=["_law_one","_law_b"]) 1 [0] (ye (zh 1)) (λ_ _ _=>⟨qz 0 (qM (by kernel_rfl)),Y4 (Dx R4 (zh 0) (zh 1)),qR (zh 0)⟩)))))⟩)))⟩)))) zM)) zM) (zr (jK (jn (yt r) (zh 1) zt) (zr (qt 2 kI.nd (qA (q9 (zj zt (zj zt (zj zt zG))) (zx (zx (zx ql)))) (qI (yj Z).up r (zj (zh 0) (zj zt zG))))) (zr (qD (j4 (qV (N:=["_law_a","_law_many"]) 1 [2] (yc rfl Z.B.jU (zh 2)) (λ_ _ _=>⟨qz 0 (qM (by kernel_rfl)),qY,qR (j4 (qV (N:=["_law_b","_law_a"]) 1 [0] (yc rfl Z.B.jU (zh 1)) (λ_ _ _=>⟨qz 0 (qM (by kernel_rfl)),qY,qR (T9 (zh 1) (zh 0))⟩)))⟩)))) zM)) zM) (zr (qt 3 kI.nd (qA (q9 (zj zt (zj zt (zj zt zG))) (zx (zx (zx ql)))) (qI (yj Z).up r (zj (zh 0) (zj zt zG))))) (zr (qt 6 kI.nd (q9 (zj zt (zj zt (zj (qA (q9 (zj zt (zj zt zG)) (zx (zx ql))) (JN Z.B.Qu (wQ (yt r) (zh 3) zt))) (zj zt zG)))) (zx (zx (zx (zx ql)))))) (zr (qt 7 kI.nd (q9 zG ql)) (zr (Zb PassesOwn.never rfl (yc rfl Z.B.jU (wH zt (zh 3))) (qz 8 kI.nd) (zr (qt 9 kI.nd (j4 (qV (N:=["_law_b","_law_wide","_law_ring","_law_a"]) 1 [3,6,8] (yc rfl Z.B.jU (wH zt (zh 3))) (λ_ _ _=>⟨qz 0 (qM (by kernel_rfl)),qY,qR (qA (zh 2) (ZI (GW Z.B.Xr (Zd (zh 3) (zh 0))) (zh 1)))⟩)))) (zr (qt 10 kI.nd (j4 (qV (N:=["_law_b","_law_wide","_law_a"]) 1 [3,8] (yc rfl Z.B.jU (wH zt (zh 3))) (λ_ _ _=>⟨qz 0 (qM (by kernel_rfl)),qY,qR (JN Z.B.Qu (wQ (yR r) (Q3 (zh 2) (zh 1)) (Q3 (zh 0) (zh 1))))⟩)))) (zr (jK (jn (yt r) (zh 1) zt) (zr (GD (W3 (zh 7) (j4 (qV (N:=["_law_b","_law_near","_law_far"]) 1 [9,10] (yc rfl Z.B.jU (wH zt (zh 3))) (λ_ _ _=>⟨qz 0 (qM (by kernel_rfl)),qY,qR (jO (wH zt (qA (zh 2) (zh 0))) (qA (zh 1) (zh 0)))⟩))))) zM) (zr (GD (W3 (zh 7) (j4 (qV (N:=["_law_b","_law_near","_law_far"]) 1 [9,10] (yc rfl Z.B.jU (wH zt (zh 3))) (λ_ _ _=>⟨qz 0 (qM (by kernel_rfl)),qY,qR (GY (jn (yt r) (qA (zh 2) (zh 0)) zt) zt (qA (zh 1) (zh 0)))⟩))))) zM)) zM)))) (zr (qD (zh 7)) zM)))))))))))):zX P w K mg base 2 "_law_plain" 1 WR)
def OU (Z:Zz K h mg):zX P w K mg base 2 "_law_bent" 2 ZD:=by
 obtain⟨f,fd,F,a⟩:=Z.T.OZ;exact(yM F (bb Z.X Z.G a) wF (λ_ _ _ _ _ _=>Z7 λ_ _=>rfl) λc A outer s H E r=>zr (qt 2 wF.nd (qI (yj Z).up r (zj (zh 0) (zj (jO (Gy Z.B.yQ (zh 1)) zt) zG)))) (zr (qt 3 wF.nd yF) (zr (qt 4 wF.nd (qA (q9 (zj (T3 (zh 3) (qI (yj Z).up r (zj (zh 0) (zj zt zG)))) (zj (T3 yF (qI (yj Z).up r (zj (zh 0) (zj zt zG)))) zG)) (zx (zx ql))) (qI (yj Z).up r (zj (zh 0) (zj zt zG))))) (zr (TM 5 6 rfl wF.nd (Qk (zh 1) kO (kf (zh 2))) (Qk (zh 1) (kf (zh 2)) kO)) (zr (qt 7 wF.nd (W8 (zh 1) yF)) (zr (TM 8 9 rfl wF.nd (qI (yj Z).up r (zj (zh 0) (zj (kx Z.B.yQ (yu (zh 7))) zG))) (qI (yj Z).up r (zj (zh 0) (zj (kx Z.B.yQ (yu (zh 7))) zG)))) (zr (qt 10 wF.nd (qA (zh 7) (zh 8))) (zr (qt 11 wF.nd (q9 (zj (gc (zh 5) (Qk (zh 6) (kf zt) kO)) (zj (gc (gc (zh 5) (zh 4)) (zh 6)) (zj (gc (gc (zh 5) (zh 4)) (Qk (zh 6) (kf zt) kO)) (zj (gc (gc (gc (zh 5) (Qk (zh 6) (kf zt) (kf zt))) (Qk (zh 6) kO (kf zt))) (Qk (zh 6) (kf zt) kO)) zG)))) (zx (zx (zx (zx ql)))))) (zr (qt 11 wF.nd (jO (zh 11) (q9 (zj (JS yF (jO (ZG (zh 7) kO (kf (zh 8))) (ZG (zh 7) (kf (jO (zh 8) zt)) kO))) (zj (JS yF (jO (jO (ZG (zh 7) kO (kf (zh 8))) (q9 (zj (zh 10) zG) (zx ql))) (ZG (zh 7) (kf (zh 8)) kO))) zG)) (zx (zx ql))))) (zr (qt 12 wF.nd (jO (ZG (zh 7) kO (kf (zh 8))) (ZG (zh 7) (kf (jO (zh 8) zt)) kO))) (zr (qt 11 wF.nd (jO (zh 11) (q9 (zj (JS yF (jO (jO (ZG (zh 12) kO (kf (zh 9))) (q9 (zj (zh 10) zG) (zx ql))) (ZG (zh 12) (kf (zh 9)) kO))) (zj (zh 1) (zj (gc yF (zh 1)) (zj (gc (zh 1) yF) (zj (gc (zh 1) yF) zG))))) (zx (zx (zx (zx (zx ql)))))))) (zr (qD (qA (zh 11) (qI (yj Z).up r (zj (zh 0) (zj zt zG))))) zM))))))))))):zX P w K mg base 2 "_law_bent" 2 WV)
def PR (Z:Zz K h mg):zX P w K mg base 3 "is_wholes_below" 3 JF:=by
 obtain⟨f,fd,F,a⟩:=Z.T.PV;exact(yM F (bb Z.X Z.G a) PM (λ_ _ _ _ _ _=>BA λ_ _ _=>rfl) λc A outer s H E r=>zr (qD (Q5 (qI (O6 Z).up r (zj (zh 0) (zj (zh 1) zG))) (JW (JY rfl Z.B.Yi (kD (qV (N:=["part","limit"]) 1 [2] (ye (zh 0)) (λ_ _ _=>⟨qz 0 (qM (by kernel_rfl)),qY,qR (Dm XX XG zt (zh 0) (zh 1))⟩))))))) (zM):zX P w K mg base 3 "is_wholes_below" 3 WB)
def VM (Z:Zz K h mg):zX P w K mg base 3 "_law_known" 1 QV:=by
 obtain⟨f,fd,F,a⟩:=Z.T.Ox;exact(yM F (bb Z.X Z.G a) YG (λ_ _ _ _ _ _=>wX λ_=>rfl) λc A outer s H E r=>zr (qt 1 YG.nd (qI (WT Z).up r (zj (qI (OK Z).up r (zj (zh 0) zG)) zG))) (zr (qt 2 YG.nd (qI (Vu Z).up r (zj (zh 0) (zj (Ub rfl Z.B.gG Z.B.jU (kx Z.B.yQ (yu (zh 1)))) zG)))) (zr (qt 3 YG.nd (jO (q9 (zj zt zG) (zx ql)) (qI (Vu Z).up r (zj (zh 0) (zj (NA rfl Z.B.gG Z.B.jU zt (jO zt (GF rfl Z.B.KJ (kD (qV (N:=["_law_row"]) 1 [] (ye (zh 1)) (λ_ _ _=>⟨qz 0 (qM (by kernel_rfl)),qY,qR (GF rfl Z.B.KJ (yu (zh 0)))⟩)))))) zG))))) (zr (qD (ZE Z.B.k9 (kD (qV (N:=["_law_a","_law_rows","_law_order","_law_kinds"]) 1 [1,2,3] (ye (zh 2)) (λ_ _ _=>⟨qz 0 (qM (by kernel_rfl)),qY,qR (ZE Z.B.k9 (kD (qV (N:=["_law_b","_law_a","_law_rows","_law_kinds"]) 1 [0,1,3] (ye (zh 2)) (λ_ _ _=>⟨qz 0 (qM (by kernel_rfl)),qY,qR (qA (zh 3) (qA (qA (zh 2) (zh 1)) (zh 0)))⟩))))⟩))))) zM))):zX P w K mg base 3 "_law_known" 1 YQ).wV
def OG (Z:Zz K h mg):zX P w K mg base 1 "_law_same" 2 VV:=by
 obtain⟨f,fd,F,a⟩:=Z.T.WW;exact(WY (k:=0) Z.B F (bb Z.X Z.G a) (DQ (ps:=["_law_found","_law_due"]) F (bb Z.X Z.G a) (λ_ _ _ _ _ _=>Z7 λ_ _=>rfl)))
def OJ (Z:Zz K h mg):zX P w K mg base 2 "_law_same" 2 WS:=by
 obtain⟨f,fd,F,a⟩:=Z.T.WW;exact(WY (k:=1) Z.B F (bb Z.X Z.G a) (OG Z))
def O1 (Z:Zz K h mg):zX P w K mg base 3 "_law_same" 2 ZA:=by
 obtain⟨f,fd,F,a⟩:=Z.T.WW;exact(WY (k:=2) Z.B F (bb Z.X Z.G a) (OJ Z))
def Nd (Z:Zz K h mg):zX P w K mg base 4 "is_table" 1 JM:=by
 obtain⟨f,fd,F,a⟩:=Z.T.Nq;exact(yM F (bb Z.X Z.G a) V6 (λ_ _ _ _ _ _=>wX λ_=>rfl) λc A outer s H E r=>zr (jK (Qh (Yd (Ql (Zc (gj .tup Z.B.jG Z.B.k9 (by rfl) (zh 0)))) (JV (Ql (Eb XX XX zt (kx Z.B.yQ (yu (zh 0))) (Ic rfl Z.B.Oo.choose_spec)))))) (zr (qD wc) zM) zM) (zr (qt 1 V6.nd (kx Z.B.yQ (yu (zh 0)))) (zr (jK (Ql (Zc (JY rfl Z.B.Yi (kD (qV (N:=["row","many"]) 1 [1] (ye (zh 0)) (λ_ _ _=>⟨qz 0 (qM (by kernel_rfl)),qY,qR (qI (PR Z).up r (zj (zh 0) (zj (zh 1) (zj (zh 1) zG))))⟩)))))) (zr (qD wc) zM) zM) (zr (qD (Q5 (qI (MU Z).up r (zj (zh 0) zG)) (JW (qI (PL Z).up r (zj (zh 0) zG))))) zM))):zX P w K mg base 4 "is_table" 1 W4)
def OA (Z:Zz K h mg):zX P w K mg base 4 "_law_table" 1 Qb:=by
 obtain⟨f,fd,F,a⟩:=Z.T.OD;exact(yM F (bb Z.X Z.G a) gY (λ_ _ _ _ _ _=>wX λ_=>rfl) λc A outer s H E r=>zr (qt 1 gY.nd (qI (yj Z).up r (zj (zh 0) (zj zt zG)))) (zr (jK (jn (yt r) (zh 1) zt) (zr (qD (qI (VM Z).up r (zj (zh 0) zG))) zM) zM) (zr (OW 2 (N:=["_law_row"]) 1 [] gY.nd rfl (cps (by kernel_rfl)) (by kernel_rfl) (ye (qI (VM Z).up r (zj (zh 0) zG))) (λ_ _ _=>⟨qz 0 (qM (by kernel_rfl)),qY,qR (Y0 Z.B.gG (yu (zh 0)))⟩)) (zr (qt 3 gY.nd (kx Z.B.yQ (yu (zh 2)))) (zr (jK (Qh (TJ (jn (yt r) (zh 1) zt) (Ts (jn R6 (zh 3) zt)))) (zr (qt 4 gY.nd (qI (yj Z).up r (zj (zh 0) (zj (zh 3) zG)))) (zr (qt 5 gY.nd (ZI (jO (jO (zh 4) zt) (qI (yj Z).up r (zj (zh 0) (zj (Zd (zh 3) zt) zG)))) (zh 3))) (zr (Q4 (jO zt (qI (yj Z).up r (zj (zh 0) (zj (Zd (zh 3) zt) zG)))) (qA (zh 2) (zh 4)) (zh 5)) (zr (Q4 (qA (qA (zh 2) (zh 4)) (zh 5)) (qA (zh 2) (zh 5)) (zh 4)) (zr (qD (qI (WT Z).up r (zj (zh 2) zG))) zM))))) zM) (zr (qt 6 gY.nd (qA (q9 (zj zt (zj zt (zj zt zG))) (zx (zx (zx ql)))) (qI (yj Z).up r (zj (zh 0) (zj zt zG))))) (zr (Zb PassesOwn.never rfl (yc rfl Z.B.jU (zh 3)) (qz 4 gY.nd) (zr (Zb PassesOwn.never rfl (yc rfl Z.B.jU (zh 4)) (qz 5 gY.nd) (zr (Q4 (jO zt (qI (yj Z).up r (zj (zh 0) (zj (GC rfl Z.B.XC (zh 6) (Zd (zh 3) zt)) zG)))) (qA (zh 2) (zh 4)) (zh 5)) (zr (Q4 (qA (qA (zh 2) (zh 4)) (zh 5)) (qA (zh 2) (zh 5)) (zh 4)) zM))) zM)) (zr (qD (qI (WT Z).up r (zj (zh 2) zG))) zM))))))):zX P w K mg base 4 "_law_table" 1 YI).wV
def VB (Z:Zz K h mg):kX P w K mg base 5 "read_table" 1 ku:=by
 obtain⟨f,fd,F,a⟩:=Z.T.Ot;exact(Bw F (bb Z.X Z.G a) VF (λ_ _ _ _ _ _=>wX λ_=>rfl) λc A outer s H E r x=>zr (jK (TV (Ql (Zc (gj .str Z.B.jG Z.B.RG (by rfl) (zh 0))))) (zr (Uh x (Z.C.exc "NoText" (by decide +kernel)) (zj yF zG) (zx ql)) zM) zM) (zr (qt 1 VF.nd (ZE Z.B.k9 (kD (qV (N:=["row"]) 1 [] (ye (W8 (zh 0) yF)) (λ_ _ _=>⟨qz 0 (qM (by kernel_rfl)),qY,qR (ZE Z.B.k9 (kD (qV (N:=["sign"]) 1 [] (Sg (zh 0)) (λ_ _ _=>⟨qz 0 (qM (by kernel_rfl)),qY,qR (qI (Oj Z).up r (zj (zh 0) zG))⟩))))⟩))))) (zr (jK (TV (Ql (Zc (qI (Nd Z).up r (zj (zh 1) zG))))) (zr (Uh x (Z.C.exc "NoText" (by decide +kernel)) (zj yF zG) (zx ql)) zM) zM) (M4 (zr (qD (zh 1)) zM)))):kX P w K mg base 5 "read_table" 1 ku)
def OF (Z:Zz K h mg):zX P w K mg base 5 "read_table" 1 QS:=(VB Z).m.iso
end
end G
namespace Mi
open PySem L2
section
variable {m:Ev}
def Qo (h:m ρ A=.ok (.tup ws) A1):qo m ρ A=.ok ⟨λA i=>(zS (.tup ws) A).map λws=>ws[i]?,ws.length⟩ A1:=by
 unfold qo K2;rw[h,zD]
 rfl
def Gr (h:m ρ A=.ok (.tup ws) A)(l:ws.length<=qa){g:W->W}(he:∀w∈ws,me (some w::cap.map λi=>(ρ[i]?).join) A=.ok (g w) A):
  zO 1 cap (qo m) (zF 0) zY (zL me) ρ A=.ok (ws.map g) A:=by
 have e:=Qd (cap:=cap) (me:=me) (ρ:=ρ) (A:=A) (N:=ws.length) (item:=λi=>ws.getD i .non) (g:=λi=>g (ws.getD i .non)) (Qo h) rfl l
  (λi H=>by show some ws[i]? =_;rw[aa H,ae,aa H];rfl)
  (by show some ws[ws.length]? =_;rw[aL (au _)])
  (λi H=>by
   have:ws.getD i .non=ws[i]:=by rw[ae,aa H];rfl
   rw[this];exact he _ (aN H))
 rw[e]
 congr 1
 apply bJ
 ·simp
 ·intro i b a
  have H:i<ws.length:=by simpa using a
  simp[ae,aa H]
theorem Gb (p:α->Bool):∀l:List α,gq (l.map λx=>W.bl (p x))=some (l.map p)
 |[]=>rfl|x::l=>by
  show(match Yl (.bl (p x)),gq (l.map λx=>W.bl (p x)) with|some k,some K=>some (k::K)|_,_=>none)=_
  rw[Gb p l];rfl
def HL {p:α->Bool}{l:List α}(h:∀x∈l,p x=true):Z3 (l.map λx=>W.bl (p x)) A=.ok (.bl true) A:=by
 show Zm (λk=>k.all id) _ A=_;unfold Zm;rw[Gb];dsimp only
 have:(l.map p).all id=true:=by
  rw[all_map];exact cm.mpr λx H=>h x H
 rw[this]
theorem GP {f:α->W}(h:∀x,(f x).nr=true):∀l:List α,jA (l.map f)=true
 |[]=>rfl|x::l=>by
  show((f x).nr&&jA (l.map f))=true;rw[h x,GP h l];rfl
def Z5 (i j:Int)(A:Hx):qX (.int i) (.int j) A=.ok (.bl (decide (i=j))) A:=by
 show R.ok (W.bl (PyData.eqv (.int i) (.int j))) A=_;simp[PyData.eqv]
 rfl
def Wy (i j:Int)(A:Hx):qx (.int i) (.int j) A=.ok (.bl (!decide (i=j))) A:=by
 show R.ok (W.bl (!PyData.eqv (.int i) (.int j))) A=_;simp[PyData.eqv]
 rfl
def X8 (i j:Bool)(A:Hx):qx (.bl i) (.bl j) A=.ok (.bl (!(i==j))) A:=by
 cases i<;>cases j<;>rfl
end
noncomputable def zU (r:bM):W:=.tup (r.map W.int)
def zI (t:bL):W:=.tup (t.map zU)
def Ht (r:bM):(zU r).nr=true:=by
 show jA (r.map W.int)=true;exact GP (λ_=>rfl) r
def Q8 (t:bL):(zI t).nr=true:=by
 show jA (t.map zU)=true;exact GP Ht t
def YX {m:Ev}(h:m ρ A=.ok (.tup ws) A1):Jk m ρ A=.ok (wR (.tup ws) ws.length) A1:=by
 unfold Jk;rw[h,zD]
 rfl
def RC {w:W}(h:ws[i]? =some w):(wR (.tup ws) ws.length).at_ A i=some (some (.tup [.int i,w])):=by
 show atEnd ws i _=_;unfold atEnd;rw[h]
def Rl:(wR (.tup ws) ws.length).at_ A ws.length=some none:=by
 show atEnd ws _ _=_;unfold atEnd;rw[aL (au _)];exact ag rfl
noncomputable def at2 (t:bL)(a b:Nat):Int:=(t.getD a []).getD b 0
structure qW (t:bL):Prop where
 n1:1<=t.length
 n8:t.length<=8
 sq:∀r∈t,r.length=t.length
 lo:∀r∈t,∀v∈r,0<=v/\v<(t.length:Int)
 dg:∀a b,a<t.length->b<t.length->(at2 t a b=0↔a=b)
 sy:∀a b,a<t.length->b<t.length->at2 t a b=at2 t b a
 fu:∀k:Nat,(∃v∈t.flatten,(k:Int)<v)->(k:Int)∈t.flatten
section
variable {a b:Nat}
def G7 (h:a<t.length):(t.map zU)[a]? =some (zU (t.getD a [])):=by
 rw[aw,ae,aa h];rfl
def kK (h:a<t.length):t.getD a []∈t:=by
 rw[ae,aa h];exact aN h
def Kr (h:a<t.length):zA (zI t) (.int a) A=.ok (zU (t.getD a [])) A:=by
 unfold zA;show(match ko (t.map zU) (a:Int) with|some w=>R.ok w A|none=>R.bad)=_
 rw[Kg (G7 h)]
def int_at {r:bM}(h:b<r.length):(r.map W.int)[b]? =some (.int (r.getD b 0)):=by
 rw[aw,ae,aa h];rfl
def Km {r:bM}(h:b<r.length):zA (zU r) (.int b) A=.ok (.int (r.getD b 0)) A:=by
 unfold zA;show(match ko (r.map W.int) (b:Int) with|some w=>R.ok w A|none=>R.bad)=_
 rw[Kg (v:=.int (r.getD b 0)) (by rw[aw,ae,aa h];rfl)]
end
section
def Lo {j:jv}{c:Option W}(b:∀i,i<ws.length->j.at_ A i=some (some (ws.getD i .non)))(H:j.at_ A ws.length=some none)(he:∀w,me [c,some w] A=.ok w A):
  ∀(f i:Nat)(x:Option W)(acc:List W),i+f=ws.length->acc.length+f<=qa->∃y,ju j (zF 1) (zy (.bl true)) (zL me) f i [c,x] acc A=.ok ([c,y],acc++ws.drop i) A:=by
 intro f
 induction f with
 |zero=>
  intro i x acc h l
  have:i=ws.length:=by omega
  subst this;refine⟨x,?_⟩;unfold ju;rw[H,drop_length,bg]
 |succ f I=>
  intro i x acc h l;have a:i<ws.length:=by omega
  have E:ws.getD i .non=ws[i]:=by rw[ae,aa a];rfl
  obtain⟨y,e⟩:=I (i+1) (some ws[i]) (acc++[ws[i]]) (by omega) (by rw[aD,a5];omega)
  refine⟨y,?_⟩;rw[ju,b i a,E];dsimp only[zF,List.set,zy];rw[zD];dsimp only;have d:zL me [c,some ws[i]] acc A=.ok ([c,some ws[i]],acc++[ws[i]]) A:=by
   unfold zL;rw[he,zD,ag (by omega)]
  rw[d,zD];rw[e,aP]
  congr 3
  rw[List.singleton_append,<- List.drop_eq_getElem_cons a]
def Mk {j:jv}(d:∀i,i<t.length->j.at_ A i=some (some (zU (t.getD i []))))(H:j.at_ A t.length=some none):
  ∀(f i:Nat)(x y:Option W)(acc:List W),i+f=t.length->acc.length+(t.drop i).flatten.length<=qa->
   ∃ρ,ju j (zF 0) (zy (.bl true)) (Jj (qo (zH 0)) (zF 1) (zy (.bl true)) (zL (zH 1))) f i [x,y] acc A=.ok (ρ,acc++(t.drop i).flatten.map W.int) A:=by
 intro f
 induction f with
 |zero=>
  intro i x y acc h l
  have:i=t.length:=by omega
  subst this;refine⟨[x,y],?_⟩;unfold ju;rw[H,drop_length];simp
 |succ f I=>
  intro i x y acc h l;have a:i<t.length:=by omega
  have r:t.getD i []=t[i]:=by rw[ae,aa a];rfl
  have e:t.drop i=t[i]::t.drop (i+1):=List.drop_eq_getElem_cons a;rw[e,aS,aD]at l;obtain⟨z,E⟩:=Lo (A:=A) (j:=⟨λA i_1=>(zS (zU t[i]) A).map λws=>ws[i_1]?,(t[i].map W.int).length⟩) (me:=zH 1) (ws:=t[i].map W.int) (c:=some (zU t[i]))
   (λk b=>by
    show some (t[i].map W.int)[k]? =_;rw[ae,aa b];rfl)
   (by show some (t[i].map W.int)[(t[i].map W.int).length]? =_;rw[aL (au _)])
   (λw=>zq rfl) (t[i].map W.int).length 0 y acc (by omega) (by rw[ah];omega)
  rw[List.drop_zero]at E;obtain⟨ρ,n⟩:=I (i+1) (some (zU t[i])) z (acc++t[i].map W.int) (by omega) (by rw[aD,ah];omega)
  refine⟨ρ,?_⟩;rw[ju,d i a,r];dsimp only[zF,List.set,zy];rw[zD];dsimp only;have g:Jj (qo (zH 0)) (zF 1) (zy (.bl true)) (zL (zH 1)) [some (zU t[i]),y] acc A=.ok ([some (zU t[i]),z],acc++t[i].map W.int) A:=by
   unfold Jj;rw[Qo (ws:=t[i].map W.int) (A1:=A) (zq (i:=0) rfl),zD];exact E
  rw[g,zD];rw[n,e,aS,aX,aP]
def HP {m:Ev}(h:m ρ A=.ok (zI t) A)(H:t.flatten.length<=qa):
  zO 2 [] (qo m) (zF 0) zY (Jj (qo zm) (zF 1) zY (zL zu)) ρ A=.ok (t.flatten.map W.int) A:=by
 have hlen:(t.map zU).length=t.length:=ah ..;obtain⟨a,e⟩:=Mk (t:=t) (A:=A) (j:=⟨λA i=>(zS (zI t) A).map λws=>ws[i]?,(t.map zU).length⟩) (λi b=>by show some (t.map zU)[i]? =_;rw[G7 b])
  (by show some (t.map zU)[t.length]? =_;rw[aL (by omega)]) t.length 0 none none [] (by omega) (by simpa using H)
 unfold zO;rw[Qo (ws:=t.map zU) h,zD];show R.bind (R.nox (ju ⟨λA i=>(zS (zI t) A).map λws=>ws[i]?,(t.map zU).length⟩ _ _ _ (t.map zU).length 0 [none,none] [] A)) _=_;rw[hlen]at e ⊢;rw[e];simp
 rfl
end
theorem JI:∀l:bM,intsOf (l.map W.int)=some l
 |[]=>rfl|i::l=>by
  show(match intsOf (l.map W.int) with|some is=>some (i::is)|none=>none)=_
  rw[JI l]
theorem GB:∀(l:bM)(m:Int),jZ l m=m∨jZ l m∈l
 |[],_=>.inl rfl|i::l,m=>by
  show jZ l (if i > m then i else m)=m∨jZ l (if i > m then i else m)∈i::l;rcases GB l (if i > m then i else m) with e|e
  ·by_cases h:i > m
   ·rw[ag h]at e ⊢;exact .inr (by rw[e];exact az ..)
   ·rw[ar h]at e ⊢;exact .inl e
  ·exact .inr (ao _ e)
end Mi
namespace G
open PySem L2 Mi
section
def Gf (h:n<1000000):jN (n:Int)=true:=by
 unfold jN;simp;omega
end
def J4 {m:Ev}(h:m ρ A=.ok (.ref n) A1)(H:A1[n]? =some (.lst ws)):qo m ρ A=.ok ⟨λA i=>(zS (.ref n) A).map λws=>ws[i]?,ws.length⟩ A1:=by
 unfold qo K2;rw[h,zD];have e:zS (.ref n) A1=some ws:=by unfold zS;dsimp only;rw[H]
 rw[e]
def ZP (h:A[n]? =some (.lst ws)):((zS (.ref n) A).map λws=>ws[i]?)=some ws[i]?:=by
 have e:zS (.ref n) A=some ws:=by unfold zS;dsimp only;rw[h]
 rw[e];rfl
def kS:List Int->Int
 |[]=>0|i::is=>jZ is i
def Sh {r:bM}(h:r≠[]):yK (r.map W.int) A=.ok (.int (kS r)) A:=by
 unfold yK;rw[JI];cases r with
 |nil=>exact absurd rfl h|cons i is=>rfl
def YZ {r:bM}(h:r≠[]):kS r∈r:=by
 cases r with
 |nil=>exact absurd rfl h|cons i is=>
  rcases GB is i with e|e
  ·show jZ is i∈_;rw[e];exact az ..
  ·exact ao _ e
def yC (t:bL):Int:=kS (t.map kS)+1
section
def _root_.Mi.qW.row_ne (h:qW t){r:bM}(H:r∈t):r≠[]:=λe=>by
 have a:=h.sq r H;have b:=h.n1;rw[e,length_nil]at a;omega
def _root_.Mi.qW.map_ne (h:qW t):t.map kS≠[]:=λe=>by
 have:=h.n1
 rw[List.map_eq_nil_iff]at e;rw[e]at this;simp at this
def Ru (h:qW t):1<=yC t/\yC t<=8:=by
 obtain⟨r,H,e⟩:=cf.mp (YZ h.map_ne)
 have:=h.lo r H _ (YZ (h.row_ne H))
 have:=h.n8
 unfold yC;rw[<- e];omega
def RK (h:qW t){a b:Nat}(H:a<t.length)(d:b<t.length):0<=at2 t a b/\at2 t a b<8:=by
 have c:=h.sq _ (kK H)
 have:(t.getD a []).getD b 0∈t.getD a []:=by
  rw[ae (l:=t.getD a []),aa (by omega)];exact aN _
 have e:=h.lo _ (kK H) _ this
 have:=h.n8
 unfold at2;omega
def Jc (h:q ρ A=.ok ws A1):mQ yN q ρ A=.ok (.tup ws) A1:=(yG h).trans rfl
end
end G
namespace Mi
open PySem L2
def wb {w:W}{s:Nat}(h:A[n]? =some (.lst ws))(H:ws[s]? =some w):zA (.ref n) (.int (s:Int)) A=.ok w A:=by
 unfold zA;have e:zS (.ref n) A=some ws:=by unfold zS;dsimp only;rw[h]
 rw[e];dsimp only;rw[Kg H]
def jx {u:O}(h:A[n]? =some o):(A++[u])[n]? =some o:=by
 have:=(cg.mp h).1
 rw[ai this];exact h
def qJ {u:O}:(A++[u])[A.length]? =some u:=by simp
theorem G6:∀(n:Nat)(k:bM),k.Nodup->(∀r∈k,0<=r/\r<(n:Int))->k.length<=n
 |0,k,_,h=>by
  cases k with
  |nil=>exact au _|cons r l=>have:=h r (az ..);omega
 |n+1,k,nd,h=>by
  by_cases hm:(n:Int)∈k
  ·have c:=G6 n (k.erase (n:Int)) (nd.erase _) λr H=>by
    have b:=h r (List.mem_of_mem_erase H);have a:r≠(n:Int):=λz=>(List.Nodup.mem_erase_iff nd).mp H |>.1 z;omega
   rw[List.length_erase_of_mem hm]at c;omega
  ·have:=G6 n k nd λr H=>by
    have b:=h r H;have a:r≠(n:Int):=λz=>hm (z ▸ H);omega
   omega
noncomputable def gT (μ:Nat->Nat->Int)(a b:Nat)(k:Int):Nat->Nat->Int:=λi j=>if i=a/\j=b then k else μ i j
structure Mu (n:Nat)(μ:Nat->Nat->Int)(c:Nat)(done:Nat->Nat->Prop):Prop where
 dg:∀i,μ i i=0
 sy:∀i j,μ i j=μ j i
 dn:∀i j,i<j->j<n->done i j->1<=μ i j/\μ i j<=(c:Int)
 un:∀i j,i<j->j<n->¬done i j->μ i j=0
 fu:∀k:Nat,1<=k->k<=c->∃i j,i<n/\j<n/\μ i j=(k:Int)
noncomputable def yz (n:Nat)(μ:Nat->Nat->Int):bL:=(List.range n).map λi=>(List.range n).map (μ i)
def ZK (H:i<n)(h:j<n):at2 (yz n μ) i j=μ i j:=by
 unfold at2 yz;rw[ae (l:=(List.range n).map λi=>(List.range n).map (μ i)),aw,ba H];show((List.range n).map (μ i)).getD j 0=_;rw[ae,aw,ba h]
 rfl
def Mu.tab {c:Nat}{d:Nat->Nat->Prop}(h:Mu n μ c d)(all:∀i j,i<j->j<n->d i j)(n1:1<=n)(n8:n<=8)(z:n=1∨c<n):qW (yz n μ):=by
 have len:(yz n μ).length=n:=by unfold yz;simp
 have val:∀i j,i<n->j<n->i≠j->1<=μ i j/\μ i j<=(c:Int):=λi j H f ne=>by
  rcases Nat.lt_or_gt_of_ne ne with q|q
  ·exact h.dn i j q f (all i j q f)
  ·rw[h.sy];exact h.dn j i q H (all j i q H)
 have mem:∀r∈yz n μ,∀v∈r,∃i j,i<n/\j<n/\v=μ i j:=λr g v p=>by
  unfold yz at g;obtain⟨i,H,rfl⟩:=cf.mp g;obtain⟨j,f,rfl⟩:=cf.mp p;exact⟨i,j,ck.mp H,ck.mp f,rfl⟩
 have I:∀i j,i<n->j<n->μ i j∈(yz n μ).flatten:=λi j H f=>List.mem_flatten.mpr ⟨_,cf.mpr ⟨i,ck.mpr H,rfl⟩,cf.mpr ⟨j,ck.mpr f,rfl⟩⟩;refine⟨by rw[len];exact n1,by rw[len];exact n8,λr g=>?_,λr g v p=>?_,λa b o l=>?_,λa b o l=>?_,λk y=>?_⟩
 ·rw[len]
  unfold yz at g;obtain⟨i,H,rfl⟩:=cf.mp g;simp
 ·rw[len]
  obtain⟨i,j,H,f,rfl⟩:=mem r g v p
  by_cases q:i=j
  ·subst q;rw[h.dg];omega
  ·have:=val i j H f q
   omega
 ·rw[len]at o l
  rw[ZK o l]
  constructor
  ·intro e
   by_cases q:a=b
   ·exact q
   ·have:=val a b o l q;omega
  ·intro e;subst e;exact h.dg a
 ·rw[len]at o l
  rw[ZK o l,ZK l o];exact h.sy a b
 ·obtain⟨v,p,t⟩:=y
  obtain⟨r,g,s⟩:=List.mem_flatten.mp p;obtain⟨i,j,H,f,rfl⟩:=mem r g v s
  by_cases k0:k=0
  ·subst k0
   have:=I 0 0 (by omega) (by omega)
   rw[h.dg]at this;exact this
  ·by_cases q:i=j
   ·subst q;rw[h.dg]at t;omega
   ·have:=val i j H f q
    obtain⟨x,J,w,u,e⟩:=h.fu k (by omega) (by omega)
    have:=I x J w u
    rw[e]at this;exact this
end Mi
namespace G
open PySem L2 Mi
def Yb {i j:Int}(H:-(2 ^ 64)<i)(h:i<2 ^ 64):jo (.int i) (.int j) A=.ok (.int (i * j)) A:=by
 unfold jo;dsimp only;rw[ag];unfold Yr;rw[bH,aj,ak,ak];exact .inl ⟨H,h⟩
def Qr {i j:Int}(h:0<j):kF (.int i) (.int j) A=.ok (.int (i%j)) A:=by
 unfold kF Zq;dsimp only;rw[ag];unfold KR;exact ax h
def Rh {i j:Int}(h:0<j)(H:j<1152921504606846976):gM (.int i) (.int j) A=.ok (.int (i/j)) A:=by
 unfold gM Zq;dsimp only;rw[ag];unfold Kz;rw[aj,ak,ak];exact⟨h,H⟩
def ER {c m:Int}(h:0<m)(H:m<1000000000000000):JH [.ref 0,.int m] [.lst [.int c,.bl true]]=.ok (.int (c%m)) [.lst [.int (c/m),.bl true]]:=by
 refine ji ?_;unfold W0;refine qm (A1:=[.lst [.int (c/m),.bl true]]) ?_;refine(yH (A1:=[.lst [.int c,.bl true]]) rfl).trans ?_;refine(zK (ρ1:=[some (.ref 0),some (.int m),some (.int (c%m)),none]) (A1:=[.lst [.int c,.bl true]]) ?_).trans ?_
 ·refine(qw (w:=.int (c%m)) (A1:=[.lst [.int c,.bl true]]) ?_).trans rfl
  exact(zJ (x:=.int c) (y:=.int m) (A1:=[.lst [.int c,.bl true]]) (A2:=[.lst [.int c,.bl true]]) rfl rfl).trans (Qr h)
 ·refine(zK (ρ1:=[some (.ref 0),some (.int m),some (.int (c%m)),none]) (A1:=[.lst [.int (c/m),.bl true]]) ?_).trans rfl
  have e:zc gM (zc zA zm qO) zu [some (.ref 0),some (.int m),some (.int (c%m)),none] [.lst [.int c,.bl true]]=.ok (.int (c/m)) [.lst [.int c,.bl true]]:=
   (zJ (x:=.int c) (y:=.int m) (A1:=[.lst [.int c,.bl true]]) (A2:=[.lst [.int c,.bl true]]) rfl rfl).trans (Rh h (by omega))
  unfold kN;rw[e,zD]
  rfl
noncomputable def Z6 (c:Int):Int:=(c * 48271+29)%2147483647
noncomputable def wD (d:Int):Int:=(d * d+39373 * d+7)%2147483629
noncomputable def w5 (e:Int):Int:=(e * e+16807 * e)%2147483587
def Xs (c:Int):0<=Z6 c/\Z6 c<2147483647:=⟨emod_nonneg _ (by decide),bG _ (by decide)⟩
def CC (c:Int):0<=wD c/\wD c<2147483629:=⟨emod_nonneg _ (by decide),bG _ (by decide)⟩
def F5 {c m:Int}(i:0<=c)(h:c<2147483647)(H:0<m)(j:m<1000000000000000):JH [.ref 0,.int m] [.lst [.int c,.bl false]]=.ok (.int (w5 (wD (Z6 c))/8%m)) [.lst [.int (Z6 c),.bl false]]:=by
 have k:=Xs c;refine ji ?_;unfold W0;refine(zK (ρ1:=[some (.ref 0),some (.int m),none,none]) (A1:=[.lst [.int c,.bl false]]) ((yd (A1:=[.lst [.int c,.bl false]]) rfl).trans rfl)).trans ?_;have g:zc kF (zc qf (zc jo (zc zA zm qO) (zy (.int 48271))) (zy (.int 29))) (zy (.int 2147483647)) [some (.ref 0),some (.int m),none,none] [.lst [.int c,.bl false]]=.ok (.int (Z6 c)) [.lst [.int c,.bl false]]:=by
  have em:zc jo (zc zA zm qO) (zy (.int 48271)) [some (.ref 0),some (.int m),none,none] [.lst [.int c,.bl false]]=.ok (.int (c * 48271)) [.lst [.int c,.bl false]]:=
   (zJ (x:=.int c) (y:=.int 48271) (A1:=[.lst [.int c,.bl false]]) (A2:=[.lst [.int c,.bl false]]) rfl rfl).trans (Yb (by omega) (by omega))
  refine(zJ (x:=.int (c * 48271+29)) (y:=.int 2147483647) (A1:=[.lst [.int c,.bl false]]) (A2:=[.lst [.int c,.bl false]]) ((zJ em rfl).trans rfl) rfl).trans ?_;exact Qr (by decide)
 refine(zK (ρ1:=[some (.ref 0),some (.int m),none,none]) (A1:=[.lst [.int (Z6 c),.bl false]]) ?_).trans ?_
 ·unfold kN
  rw[g,zD]
  rfl
 generalize Z6 c=d at*;have b:zc kF (zc qf (zc qf (zc jo (zc zA zm qO) (zc zA zm qO)) (zc jo (zy (.int 39373)) (zc zA zm qO))) Zw) (zy (.int 2147483629)) [some (.ref 0),some (.int m),none,none] [.lst [.int d,.bl false]]=
   .ok (.int (wD d)) [.lst [.int d,.bl false]]:=by
  have em:zc jo (zc zA zm qO) (zc zA zm qO) [some (.ref 0),some (.int m),none,none] [.lst [.int d,.bl false]]=.ok (.int (d * d)) [.lst [.int d,.bl false]]:=
   (zJ (x:=.int d) (y:=.int d) (A1:=[.lst [.int d,.bl false]]) (A2:=[.lst [.int d,.bl false]]) rfl rfl).trans (Yb (by omega) (by omega))
  have E:zc jo (zy (.int 39373)) (zc zA zm qO) [some (.ref 0),some (.int m),none,none] [.lst [.int d,.bl false]]=.ok (.int (39373 * d)) [.lst [.int d,.bl false]]:=
   (zJ (x:=.int 39373) (y:=.int d) (A1:=[.lst [.int d,.bl false]]) (A2:=[.lst [.int d,.bl false]]) rfl rfl).trans (Yb (by decide) (by decide))
  have s:zc qf (zc jo (zc zA zm qO) (zc zA zm qO)) (zc jo (zy (.int 39373)) (zc zA zm qO)) [some (.ref 0),some (.int m),none,none] [.lst [.int d,.bl false]]=.ok (.int (d * d+39373 * d)) [.lst [.int d,.bl false]]:=
   (zJ em E).trans rfl
  refine(zJ (x:=.int (d * d+39373 * d+7)) (y:=.int 2147483629) (A1:=[.lst [.int d,.bl false]]) (A2:=[.lst [.int d,.bl false]]) ((zJ s rfl).trans rfl) rfl).trans ?_;exact Qr (by decide)
 refine(zK (ρ1:=[some (.ref 0),some (.int m),none,some (.int (wD d))]) (A1:=[.lst [.int d,.bl false]]) ((qw b).trans rfl)).trans ?_;have B:=CC d;generalize wD d=e at*;have a:zc kF (zc qf (zc jo zZ zZ) (zc jo (zy (.int 16807)) zZ)) (zy (.int 2147483587)) [some (.ref 0),some (.int m),none,some (.int e)] [.lst [.int d,.bl false]]=.ok (.int (w5 e)) [.lst [.int d,.bl false]]:=by
  have em:zc jo zZ zZ [some (.ref 0),some (.int m),none,some (.int e)] [.lst [.int d,.bl false]]=.ok (.int (e * e)) [.lst [.int d,.bl false]]:=
   (zJ (x:=.int e) (y:=.int e) (A1:=[.lst [.int d,.bl false]]) (A2:=[.lst [.int d,.bl false]]) rfl rfl).trans (Yb (by omega) (by omega))
  have E:zc jo (zy (.int 16807)) zZ [some (.ref 0),some (.int m),none,some (.int e)] [.lst [.int d,.bl false]]=.ok (.int (16807 * e)) [.lst [.int d,.bl false]]:=
   (zJ (x:=.int 16807) (y:=.int e) (A1:=[.lst [.int d,.bl false]]) (A2:=[.lst [.int d,.bl false]]) rfl rfl).trans (Yb (by decide) (by decide))
  refine(zJ (x:=.int (e * e+16807 * e)) (y:=.int 2147483587) (A1:=[.lst [.int d,.bl false]]) (A2:=[.lst [.int d,.bl false]]) ((zJ em E).trans rfl) rfl).trans ?_;exact Qr (by decide)
 refine(zK (ρ1:=[some (.ref 0),some (.int m),none,some (.int (w5 e))]) (A1:=[.lst [.int d,.bl false]]) ((qw a).trans rfl)).trans ?_;generalize w5 e=f at*;refine qm (ja ?_);refine(zJ (x:=.int (f/8)) (y:=.int m) (A1:=[.lst [.int d,.bl false]]) (A2:=[.lst [.int d,.bl false]]) ?_ rfl).trans (Qr H);exact(zJ (x:=.int f) (y:=.int 8) (A1:=[.lst [.int d,.bl false]]) (A2:=[.lst [.int d,.bl false]]) rfl rfl).trans (Rh (by decide) (by decide))
def qL (n:Nat)(A:Hx):Prop:=∃c b,A[n]? =some (.lst [.int c,.bl b])/\0<=c/\(b=false->c<2147483647)
def Rb (h:qL n A){m:Int}(H:0<m)(g:m<1000000000000000):∃r o,yb [.ref n,.int m] A=.ok (.int r) (A.set n o)/\0<=r/\r<m/\qL n (A.set n o):=by
 obtain⟨c,b,f,d,i⟩:=h;have hn:n<A.length:=(cg.mp f).1;have fin:∀(r C:Int),JH [.ref 0,.int m] [.lst [.int c,.bl b]]=.ok (.int r) [.lst [.int C,.bl b]]->yb [.ref n,.int m] A=.ok (.int r) (A.set n (.lst [.int C,.bl b])):=λr C e=>by
  unfold yb wV;dsimp only;rw[f];dsimp only;have a:(jA [W.int c,W.bl b]&&jA [W.int m])=true:=rfl;rw[ag a,e]
  rfl
 cases b with
 |true=>
  refine⟨c%m,_,fin _ _ (ER H g),emod_nonneg _ (by omega),bG _ H,c/m,true,aH hn,Int.ediv_nonneg d (by omega),λz=>nomatch z⟩
 |false=>
  exact⟨_,_,fin _ _ (F5 d (i rfl) H g),emod_nonneg _ (by omega),bG _ H,Z6 c,false,aH hn,(Xs c).1,λ_=>(Xs c).2⟩
end G
namespace Mi
open PySem L2
def JQ {xs ys:List W}(h:A[n]? =some (.lst xs))(a:A[k]? =some (.lst ys))(H:xs.length+ys.length<=qa):qf (.ref n) (.ref k) A=.ok (.ref A.length) (A++[.lst (xs++ys)]):=by
 unfold qf;dsimp only;rw[h,a];dsimp only;rw[ag H]
def Ext (A a:Hx):Prop:=∃l,a=A++l
def Ext.refl:Ext A A:=⟨[],by simp⟩
def Ext.trans {B C:Hx}(a:Ext A B)(b:Ext B C):Ext A C:=let ⟨l,e⟩:=a;let ⟨k,f⟩:=b;⟨l++k,by rw[f,e,aP]⟩
def Ext.one:Ext A (A++[o]):=⟨[o],rfl⟩
def Ext.at {a:Hx}(x:Ext A a)(h:A[n]? =some o):a[n]? =some o:=by
 obtain⟨l,rfl⟩:=x
 have:=(cg.mp h).1
 rw[ai this];exact h
def L1 {j:jv}{ifs:Ev}{em:Em}{N:Nat}{I:Nat->En->List W->Hx->Prop}
  (H:∀i ρ acc A,i<N->I i ρ acc A->∃w ρ1,j.at_ A i=some (some w)/\tw w ρ=some ρ1/\((∃A1 c a A2,ifs ρ1 A=.ok (.bl true) A1/\em ρ1 acc A1=.ok (c,a) A2/\I (i+1) c a A2)∨(∃A1,ifs ρ1 A=.ok (.bl false) A1/\I (i+1) ρ1 acc A1)))
  (e:∀ρ acc A,I N ρ acc A->j.at_ A N=some none):
  ∀(f i:Nat)(ρ:En)(acc:List W)(A:Hx),i+f=N->I i ρ acc A->∃d b n,ju j tw ifs em f i ρ acc A=.ok (d,b) n/\I N d b n:=by
 intro f
 induction f with
 |zero=>
  intro i ρ acc A h g
  have:i=N:=by omega
  subst this;refine⟨ρ,acc,A,?_,g⟩;unfold ju;rw[e _ _ _ g]
 |succ f l=>
  intro i ρ acc A h g;obtain⟨w,ρ1,q,p,o⟩:=H i ρ acc A (by omega) g
  rw[ju,q];dsimp only;rw[p];dsimp only;rcases o with ⟨A1,c,a,A2,k,r,E⟩|⟨A1,k,E⟩
  ·rw[k,zD]
   dsimp only;rw[r,zD];exact l (i+1) _ _ _ (by omega) E
  ·rw[k,zD]
   dsimp only;exact l (i+1) _ _ _ (by omega) E
def JK {nl:Nat}{j:jv}{ifs:Ev}{em:Em}{N:Nat}{I:Nat->En->List W->Hx->Prop}(hm:mi ρ A=.ok j A1)(g:j.len=N)
  (h:∀i ρ acc A,i<N->I i ρ acc A->∃w ρ1,j.at_ A i=some (some w)/\tw w ρ=some ρ1/\((∃A1 d b A2,ifs ρ1 A=.ok (.bl true) A1/\em ρ1 acc A1=.ok (d,b) A2/\I (i+1) d b A2)∨(∃A1,ifs ρ1 A=.ok (.bl false) A1/\I (i+1) ρ1 acc A1)))
  (H:∀ρ acc A,I N ρ acc A->j.at_ A N=some none)(h0:I 0 (Qv nl cap ρ) [] A1):∃c a f,zO nl cap mi tw ifs em ρ A=.ok a f/\I N c a f:=by
 obtain⟨c,a,f,e,k⟩:=L1 h H N 0 _ _ _ (by omega) h0
 refine⟨c,a,f,?_,k⟩;unfold zO;rw[hm,zD,g,e]
 rfl
def YS {j:jv}{st:W->Ex}{N:Nat}{I:Nat->En->Hx->Prop}
  (H:∀i ρ A,i<N->I i ρ A->∃w ρ1 A1,j.at_ A i=some (some w)/\st w ρ A=.ok (.nx ρ1) A1/\I (i+1) ρ1 A1)(d:∀ρ A,I N ρ A->j.at_ A N=some none):
  ∀(f i:Nat)(ρ:En)(A:Hx),i+f=N->I i ρ A->∃a c,j5 j st f i ρ A=.ok (.nx a) c/\I N a c:=by
 intro f
 induction f with
 |zero=>
  intro i ρ A h b
  have:i=N:=by omega
  subst this;exact⟨ρ,A,Ud (d _ _ b),b⟩
 |succ f e=>
  intro i ρ A h b;obtain⟨w,ρ1,A1,l,k,g⟩:=H i ρ A (by omega) b
  rw[Tj l k];exact e (i+1) _ _ (by omega) g
def JT {acc:List W}{y:W}(h:me ρ A=.ok y A1)(H:acc.length<qa):zL me ρ acc A=.ok (ρ,acc++[y]) A1:=by
 unfold zL;rw[h,zD,ag H]
theorem take_succ {l:List α}(h:i<l.length):l.take (i+1)=l.take i++[l[i]]:=by
 rw[List.take_succ,aa h];rfl
def Ext.app {B:Hx}{l:Hx}(x:Ext A B):Ext A (B++l):=x.trans ⟨l,rfl⟩
def Ext.len {B:Hx}(x:Ext A B):A.length<=B.length:=by obtain⟨l,rfl⟩:=x;simp
def Za (h:A[n]? =some o):n<A.length:=(cg.mp h).1
end Mi
namespace G
open PySem L2 Mi
def S7 {w:W}(H:A[n]? =some (.lst ws))(h:ws[i]? =some w):((zS (.ref n) A).map λws=>ws[i]?)=some (some w):=by
 rw[ZP H,h]
def SH (H:A[n]? =some (.lst ws))(h:ws.length<=i):((zS (.ref n) A).map λws=>ws[i]?)=some none:=by
 rw[ZP H,aL h]
theorem J0:∀(l:bM)(m:Int),m<=jZ l m/\∀x∈l,x<=jZ l m
 |[],m=>⟨Int.le_refl _,λx h=>by cases h⟩|y::l,m=>by
  unfold jZ
  split
  ·rename_i c
   obtain⟨b,a⟩:=J0 l y;refine⟨by omega,λx H=>?_⟩
   rcases cc.mp H with rfl|H
   ·exact b
   ·exact a x H
  ·rename_i c
   obtain⟨b,a⟩:=J0 l m;refine⟨b,λx H=>?_⟩;rcases cc.mp H with rfl|H
   ·omega
   ·exact a x H
theorem Up:∀{l:List α}{k:Nat}{w:α},l[k]? =some w->l.Perm (w::l.eraseIdx k)
 |[],_,_,h=>by simp at h|x::l,0,w,h=>by
  simp at h;subst h;simp
 |x::l,k+1,w,h=>by
  rw[List.getElem?_cons_succ]at h;rw[List.eraseIdx_cons_succ];exact((Up h).cons x).trans (List.Perm.swap w x _)
def Nt {i:Int}{w:W}(h:A[n]? =some (.lst ws))(hw:ws[k]? =some w)(H:jN i=true)(e:seqIndex? i ws.length=some k):gH (.ref n) (.int i) A=.ok w (A.set n (.lst (ws.eraseIdx k))):=by
 unfold gH;dsimp only;rw[h];dsimp only;rw[ag H,e];dsimp only;rw[hw]
def EG (h:k<n):seqIndex? (k:Int) n=some k:=by
 have:=PySem.StrLaws.seqIndex_nonneg (i:=(k:Int)) (n:=n) (by omega) (by omega)
 rw[aM]at this;exact this
def NL {w:W}(h:A[n]? =some (.lst ws))(hw:ws[k]? =some w)(H:k<1000000):gH (.ref n) (.int (k:Int)) A=.ok w (A.set n (.lst (ws.eraseIdx k))):=
 Nt h hw (G.Gf H) (EG (cg.mp hw).1)
theorem UQ {β:Type}(f:α->β):∀(l:List α)(k:Nat),(l.map f).eraseIdx k=(l.eraseIdx k).map f
 |[],_=>rfl|_::_,0=>rfl|a::l,k+1=>by
  rw[aU,List.eraseIdx_cons_succ,List.eraseIdx_cons_succ,aU,UQ f l k]
def Gz {a b:Ev}{y:W}(c:a ρ A=.ok (.ref n) A)(d:A[n]? =some (.lst ws))(H:b ρ A=.ok y A1):kE g a b ρ A=g (.ref n) y A1:=by
 unfold kE;have h:JC (.ref n) A=true:=by unfold JC;dsimp only;rw[d]
 rw[c,zD,ag h,H,zD]
def Nf {y:W}(h:A[n]? =some (.lst ws))(H:ws.length<1000):gi (.ref n) y A=.ok .non (A.set n (.lst (ws++[y]))):=by
 unfold gi;dsimp only;rw[h];dsimp only;rw[ag (by unfold qa;omega)]
def TR {f:Fn}{us:List W}{c C:Int}{b B:Bool}{w:W}(a:A[n]? =some (.lst [.int c,.bl b]))(H:jA us=true)(h:f (.ref 0::us) [.lst [.int c,.bl b]]=.ok w A1)(g:A1[0]? =some (.lst [.int C,.bl B]))(hw:w.nr=true):wV f (.ref n::us) A=.ok w (A.set n (.lst [.int C,.bl B])):=by
 unfold wV;dsimp only;rw[a];dsimp only;have e:(jA [W.int c,W.bl b]&&jA us)=true:=by rw[H];rfl
 rw[ag e,h];dsimp only;rw[List.head?_eq_getElem?,g];dsimp only;have d:(jA [W.int C,W.bl B]&&w.nr)=true:=by rw[hw];rfl
 rw[ag d]
noncomputable abbrev iL (l:bQ):List W:=l.map λ(a:Nat)=>W.int (a:Int)
def Ur {m:Ev}(h:m ρ A=.ok (.int (n:Int)) A1)(hn:n<=100):Qm m ρ A=.ok (.ref A1.length) (A1++[.lst (iL (List.range n))]):=by
 unfold Qm;rw[h,zD];dsimp only;rw[Gf (by omega),aM,ax (by unfold qa;omega)]
 rfl
def Tq {m:Ev}{o:List α}{f:α->W}{G:α->W}(h:m ρ A=.ok (.tup (o.map f)) A)(l:o.length<=qa)(he:∀a∈o,me (some (f a)::cap.map λi=>(ρ[i]?).join) A=.ok (G a) A):
  zO 1 cap (qo m) (zF 0) zY (zL me) ρ A=.ok (o.map G) A:=by
 by_cases h0:o=[]
 ·subst h0
  have e:=Qd (cap:=cap) (me:=me) (ρ:=ρ) (A:=A) (N:=0) (item:=λ_=>.non) (g:=λ_=>.non) (Qo h) rfl (by unfold qa;omega) (λi H=>by omega) rfl (λi H=>by omega)
  exact e
 ·obtain⟨x,c⟩:∃x,x∈o:=List.exists_mem_of_ne_nil o h0
  have e:=Qd (cap:=cap) (me:=me) (ρ:=ρ) (A:=A) (N:=o.length) (item:=λi=>f (o.getD i x)) (g:=λi=>G (o.getD i x)) (Qo h) (ah ..) l
   (λi H=>by show some (o.map f)[i]? =_;rw[aw,aa H,ae,aa H];rfl)
   (by show some (o.map f)[o.length]? =_;rw[aL (by rw[ah];exact au _)])
   (λi H=>by
    have:o.getD i x=o[i]:=by rw[ae,aa H];rfl
    rw[this];exact he _ (aN H))
  rw[e]
  congr 1
  apply bJ
  ·simp
  ·intro i d b
   have H:i<o.length:=by simpa using b
   simp[ae,aa H]
def Qa {β:Type}(o:List α)(x:α)(f:α->β):o.map f=(List.range o.length).map λi=>f (o.getD i x):=by
 apply bJ
 ·simp
 ·intro i H a
  have h:i<o.length:=by simpa using H
  simp[ae,aa h]
def Qn (q:∀r∈t,r.length=t.length){v:Int}(h:v∈t.flatten):∃a b,a<t.length/\b<t.length/\at2 t a b=v:=by
 obtain⟨r,H,e⟩:=List.mem_flatten.mp h;obtain⟨a,d,g⟩:=bA H;obtain⟨b,c,f⟩:=bA e;refine⟨a,b,d,by rw[<- q r H];exact c,?_⟩
 unfold at2;have E:t.getD a []=r:=by rw[ae,aa d];exact g
 rw[E,ae,aa c];exact f
def JZ (q:∀r∈t,r.length=t.length){a b:Nat}(e:a<t.length)(d:b<t.length):∃r∈t,at2 t a b∈r/\at2 t a b∈t.flatten:=by
 have H:t.getD a []∈t:=kK e;have c:at2 t a b∈t.getD a []:=by
  unfold at2;have h:b<(t.getD a []).length:=by rw[q _ H];exact d
  rw[ae (l:=t.getD a []),aa h];exact aN _
 exact⟨_,H,c,List.mem_flatten.mpr ⟨_,H,c⟩⟩
def Sl {r:bM}{x:Int}(h:x∈r):x<=kS r:=by
 cases r with
 |nil=>cases h|cons i is=>
  show x<=jZ is i;rcases cc.mp h with rfl|h
  ·exact(J0 is x).1
  ·exact(J0 is i).2 x h
section
def SK (h:qW t){a b:Nat}(d:a<t.length)(c:b<t.length):at2 t a b<yC t:=by
 obtain⟨r,H,e,_⟩:=JZ h.sq d c;have f:=Sl e;have E:=Sl (cf.mpr ⟨r,H,rfl⟩:kS r∈t.map kS);unfold yC;omega
def GL (h:qW t):yC t-1∈t.flatten:=by
 obtain⟨r,H,e⟩:=cf.mp (YZ h.map_ne)
 have:yC t-1=kS r:=by unfold yC;omega
 rw[this];exact List.mem_flatten.mpr ⟨r,H,YZ (h.row_ne H)⟩
def Dy (h:qW t):yC t<=(t.length:Int):=by
 obtain⟨r,a,H⟩:=List.mem_flatten.mp (GL h)
 have:=h.lo r a _ H
 omega
def FR (h:qW t){v:Nat}(H:(v:Int)<yC t):∃a b,a<t.length/\b<t.length/\at2 t a b=(v:Int):=by
 by_cases e:(v:Int)=yC t-1
 ·rw[e];exact Qn h.sq (GL h)
 ·exact Qn h.sq (h.fu v ⟨_,GL h,by omega⟩)
noncomputable def j8 (p:bQ):bM:=0::p.map λ(k:Nat)=>1+(k:Int)
def ZX (t:bL)(p o:bQ):bL:=o.map λa=>o.map λb=>(j8 p).getD (at2 t a b).toNat 0
def Sj {p:bQ}{v:Nat}(H:1<=v)(h:v<=p.length):(j8 p).getD v 0=1+((p[v-1]'(by omega):Nat):Int):=by
 obtain⟨v,rfl⟩:∃u,v=u+1:=⟨v-1,by omega⟩
 unfold j8;rw[ae,List.getElem?_cons_succ,aw,aa (by omega)]
 rfl
def Ml (h:qW t){p o:bQ}(n:p.Perm (List.range (yC t-1).toNat))(f:o.Perm (List.range t.length)):qW (ZX t p o)/\(ZX t p o).length=t.length:=by
 have l:o.length=t.length:=by rw[f.length_eq,bf]
 have N:=Ru h;have K:=Dy h;have A:p.length=(yC t-1).toNat:=by rw[n.length_eq,bf]
 have n1:=h.n1;have H:∀i,o.getD i 0<t.length:=λi=>by
  by_cases hi:i<o.length
  ·rw[ae,aa hi]
   exact ck.mp (f.mem_iff.mp (aN hi))
  ·rw[ae,aL (by omega)]
   exact n1
 have u:o.Nodup:=(f.nodup_iff).mpr List.nodup_range;have r:∀a,a<t.length->∃i,i<t.length/\o.getD i 0=a:=λa y=>by
  obtain⟨i,hi,e⟩:=bA (f.mem_iff.mpr (ck.mpr y));exact⟨i,by omega,by rw[ae,aa hi];exact e⟩
 have c:∀q (g:q<p.length),p[q]<p.length:=λq g=>by
  have:=ck.mp (n.mem_iff.mp (aN g))
  omega
 have M:Mu t.length (λi j=>(j8 p).getD (at2 t (o.getD i 0) (o.getD j 0)).toNat 0) p.length (λ_ _=>True):=by
  refine⟨λi=>?_,λi j=>?_,λi j B z _=>?_,λi j _ _ hn=>absurd trivial hn,λk k1 L=>?_⟩
  ·show(j8 p).getD (at2 t (o.getD i 0) (o.getD i 0)).toNat 0=0
   rw[(h.dg _ _ (H i) (H i)).mpr rfl]
   rfl
  ·show(j8 p).getD (at2 t (o.getD i 0) (o.getD j 0)).toNat 0=(j8 p).getD (at2 t (o.getD j 0) (o.getD i 0)).toNat 0
   rw[h.sy _ _ (H i) (H j)]
  ·show 1<=(j8 p).getD (at2 t (o.getD i 0) (o.getD j 0)).toNat 0/\(j8 p).getD (at2 t (o.getD i 0) (o.getD j 0)).toNat 0<=(p.length:Int)
   have s:o.getD i 0≠o.getD j 0:=by
    have x:i<o.length:=by omega
    have w:j<o.length:=by omega
    rw[ae,aa x,ae,aa w];intro e;have J:o[i]=o[j]:=e
    have:=(List.getElem_inj u).mp J
    omega
   have d:=h.dg _ _ (H i) (H j);have S:=RK h (H i) (H j);have Q:=SK h (H i) (H j);have P:at2 t (o.getD i 0) (o.getD j 0)≠0:=λe=>s (d.mp e);rw[Sj (by omega) (by omega)]
   have:=c ((at2 t (o.getD i 0) (o.getD j 0)).toNat-1) (by omega)
   omega
  ·obtain⟨q,g,e⟩:=bA (n.mem_iff.mpr (ck.mpr (by omega:k-1<(yC t-1).toNat)))
   obtain⟨a,b,y,C,I⟩:=FR h (v:=q+1) (by omega)
   obtain⟨i,hi,D⟩:=r a y;obtain⟨j,z,E⟩:=r b C;refine⟨i,j,hi,z,?_⟩;show(j8 p).getD (at2 t (o.getD i 0) (o.getD j 0)).toNat 0=(k:Int);rw[D,E,I,aM,Sj (by omega) (by omega)]
   have:p[q+1-1]'(by omega)=k-1:=e
   rw[this];omega
 have hT:ZX t p o=yz t.length (λi j=>(j8 p).getD (at2 t (o.getD i 0) (o.getD j 0)).toNat 0):=by
  unfold ZX yz;rw[Qa o 0,l]
  congr 1
  funext i
  rw[Qa o 0 (λb=>(j8 p).getD (at2 t (o.getD i 0) b).toNat 0),l]
 refine⟨?_,by unfold ZX;rw[ah,l]⟩
 rw[hT];exact M.tab (λ_ _ _ _=>trivial) n1 h.n8 (.inr (by omega))
end
end G
namespace Mi
open PySem L2
def Hz {r b:Nat}{v:W}(h:A[r]? =some (.lst ws))(H:b<ws.length):ki (.ref r) (.int (b:Int)) v A=.ok () (A.set r (.lst (ws.set b v))):=by
 have e:wx ws.length (b:Int)=some b:=by unfold wx;rw[ag (by omega),ag (by omega),aM]
 unfold ki;dsimp only;rw[h];dsimp only;rw[e]
structure Kp (n:Nat)(A B:Hx):Prop where
 len:A.length<=B.length
 at_:∀i,i<A.length->i≠n->B[i]? =A[i]?
section
variable {B C:Hx}
theorem Kp.trans (a:Kp n A B)(b:Kp n B C):Kp n A C:=⟨aQ a.len b.len,λi H h=>(b.at_ i (aC H a.len) h).trans (a.at_ i H h)⟩
theorem Kp.set:Kp n A (A.set n o):=⟨by rw[length_set];exact au _,λi _ h=>aJ (Ne.symm h)⟩
def Kp.ext (x:Ext A B):Kp n A B:=by
 obtain⟨l,rfl⟩:=x;exact⟨by simp,λi h _=>ai h⟩
def Kp.put (a:Kp n A B)(h:A.length<=k):Kp n A (B.set k o):=⟨by rw[length_set];exact a.len,λi b H=>by rw[aJ (by omega)];exact a.at_ i b H⟩
def Kp.get (a:Kp n A B)(h:A[i]? =some o)(hn:i≠n):B[i]? =some o:=by rw[a.at_ i (Za h) hn];exact h
end
def Y1:(yz n μ).length=n:=by unfold yz;simp
def GK:∀r∈yz n μ,r.length=(yz n μ).length:=λr h=>by
 obtain⟨i,_,rfl⟩:=cf.mp h;rw[Y1];simp
end Mi
namespace G
open PySem L2 Mi
section
abbrev Sq (t:bL):Prop:=∀r∈t,r.length=t.length
end
end G
namespace Mi
open PySem L2
def XY (t:bL):Bool:=decide (1<=t.length)&&(decide (t.length<=8)&&((t.all λr=>r.length==t.length&&r.all λv=>decide (0<=v)&&decide (v<(t.length:Int)))&&
 (((List.range t.length).all λa=>(List.range t.length).all λb=>(decide (at2 t a b=0)==decide (a=b))&&decide (at2 t a b=at2 t b a))&&(List.range 8).all λk=>!(t.flatten.any λv=>decide ((k:Int)<v)) || t.flatten.contains (k:Int))))
def Fd (h:XY t=true):qW t:=by
 unfold XY at h;rw[aj,aj,aj,aj,ak,ak]at h;obtain⟨n1,n8,i,s,hf⟩:=h;have rw_:∀r∈t,r.length=t.length/\∀v∈r,0<=v/\v<(t.length:Int):=λr hm=>by
  have:=cm.mp i r hm
  rw[aj,aI]at this;refine⟨this.1,λv d=>?_⟩
  have:=cm.mp this.2 v d
  rw[aj,ak,ak]at this;exact this
 have at_:∀a b,a<t.length->b<t.length->(decide (at2 t a b=0)==decide (a=b))=true/\at2 t a b=at2 t b a:=λa b c H=>by
  have:=cm.mp (cm.mp s a (ck.mpr c)) b (ck.mpr H)
  rw[aj,ak]at this;exact this
 refine⟨n1,n8,λr hm=>(rw_ r hm).1,λr hm=>(rw_ r hm).2,λa b c H=>?_,λa b c H=>(at_ a b c H).2,λk j=>?_⟩
 ·have:=aI.mp (at_ a b c H).1
  by_cases q:a=b
  ·rw[ax q]at this;exact⟨λ_=>q,λ_=>of_decide_eq_true this⟩
  ·rw[ay q]at this;exact⟨λz=>absurd z (of_decide_eq_false this),λz=>absurd z q⟩
 ·obtain⟨v,d,f⟩:=j
  obtain⟨r,hm,e⟩:=List.mem_flatten.mp d
  have:=(rw_ r hm).2 v e
  have g:=cm.mp hf k (ck.mpr (by omega))
  rw[bH]at g;rcases g with z|z
  ·exfalso
   have:(t.flatten.any λv=>decide ((k:Int)<v))=true:=List.any_eq_true.mpr ⟨v,d,ax f⟩
   rw[this]at z;cases z
  ·exact List.contains_iff_mem.mp z
noncomputable def JD:W->Bool
 |.int _=>true|_=>false
end Mi
namespace G
open PySem L2 Mi
def Jn {m:Ev}{w:W}{ty c:Ty}(h:m ρ A=.ok w A1)(H:jE w A1=some ty):yo c m ρ A=.ok (.bl (yx ty c)) A1:=by
 unfold yo;rw[h,zD,H]
def KI (h:ρ[i]? =some (some (.tup ws))):mQ qG (qi (zH i)) ρ A=.ok (.int ws.length) A:=by
 rw[yG (kA (w:=.tup ws) (A1:=A) (zq h) rfl)]
 rfl
def IA {v n:Int}(H:ρ[i]? =some (some (.int v)))(hn:me ρ A=.ok (.int n) A):yO k8 Zp (zy (.int 0)) (zH i) me ρ A=.ok (.bl (decide (0<=v)&&decide (v<n))) A:=by
 unfold yO;rw[qb,zD,zq H,zD];show R.bind (R.ok (W.bl (decide ((0:Int)<=v))) A) _=_
 by_cases h:0<=v
 ·rw[ax h,zD]
  dsimp only;rw[hn,zD]
  rfl
 ·rw[ay h,zD]
  rfl
end G
namespace Mi
open PySem L2
theorem W2:∀(l m:bM),PyData.eqvAll (l.map PyData.int) (m.map PyData.int)=decide (l=m)
 |[],[]=>by simp[PyData.eqvAll]|[],_::_=>by simp[PyData.eqvAll]|_::_,[]=>by simp[PyData.eqvAll]|a::l,b::m=>by
  simp only[aU,PyData.eqvAll,W2 l m,PyData.eqv];rw[Bool.eq_iff_iff];simp
theorem UD:∀l:bM,yy (qk A n) (l.map W.int)=some (l.map PyData.int)
 |[]=>rfl|i::l=>by
  have:qk A n (.int i)=some (.int i):=by cases n<;>rfl
  show(match qk A n (.int i),yy (qk A n) (l.map W.int) with|some d,some ds=>some (d::ds)|_,_=>none)=_
  rw[this,UD l]
  rfl
def Jb {r:Nat}{l:bM}(h:A[r]? =some (.lst (l.map W.int))):qk A 8 (.ref r)=some (.list (l.map PyData.int)):=by
 show(match zS (.ref r) A with|some ws=>(yy (qk A 7) ws).map PyData.list|none=>none)=_
 have:zS (.ref r) A=some (l.map W.int):=by unfold zS;dsimp only;rw[h]
 rw[this];dsimp only;rw[UD]
 rfl
def BE {r s:Nat}{l m:bM}(h:A[r]? =some (.lst (l.map W.int)))(H:A[s]? =some (.lst (m.map W.int))):qX (.ref r) (.ref s) A=.ok (.bl (decide (l=m))) A:=by
 show kT false _ _ A=_;unfold kT;rw[Jb h,Jb H];dsimp only;rw[PyData.eqv,W2]
 rfl
def Ky (A B:Hx):Prop:=∀w ty,jE w A=some ty->jE w B=some ty
def Ext.ky {B:Hx}(x:Ext A B):Ky A B:=λw ty h=>by
 cases w with
 |ref n=>
  unfold jE at h ⊢;dsimp only at h ⊢;cases e:A[n]? with
  |none=>rw[e]at h;cases h|some o=>rw[e]at h;rw[x.at e];exact h
 |_=>exact h
structure Kn (n:Nat)(A B:Hx):Prop where
 kp:Kp n A B
 st:G.qL n B
def _root_.G.qL.ty (h:G.qL n A):jE (.ref n) A=some .lst:=by
 obtain⟨c,b,e,_⟩:=h;unfold jE;dsimp only;rw[e]
def _root_.G.qL.lt (h:G.qL n A):n<A.length:=by
 obtain⟨c,b,e,_⟩:=h;exact Za e
def _root_.G.qL.ext {B:Hx}(h:G.qL n A)(x:Ext A B):G.qL n B:=by
 obtain⟨c,b,e,r⟩:=h;exact⟨c,b,x.at e,r⟩
def _root_.G.qL.put (h:G.qL n A)(H:k≠n):G.qL n (A.set k o):=by
 obtain⟨c,b,e,r⟩:=h;exact⟨c,b,by rw[aJ H];exact e,r⟩
def Kn.ky {B:Hx}(s:G.qL n A)(k:Kn n A B):Ky A B:=λw ty h=>by
 cases w with
 |ref i=>
  by_cases q:i=n
  ·subst q
   rw[s.ty]at h;rw[k.st.ty];exact h
  ·unfold jE at h ⊢
   dsimp only at h ⊢
   by_cases z:i<A.length
   ·rw[k.kp.at_ i z q];exact h
   ·rw[aL (by omega)]at h;cases h
 |_=>exact h
theorem Kn.trans {B C:Hx}(a:Kn n A B)(b:Kn n B C):Kn n A C:=⟨a.kp.trans b.kp,b.st⟩
theorem Kn.ext {B:Hx}(s:G.qL n A)(x:Ext A B):Kn n A B:=⟨Kp.ext x,s.ext x⟩
end Mi
namespace G
open PySem L2 Mi
def SO (h:qL n A){m:Int}(c:0<m)(H:m<1000000000000000):∃(r:Nat) (B:Hx),yb [.ref n,.int m] A=.ok (.int r) B/\(r:Int)<m/\Kn n A B/\B.length=A.length:=by
 obtain⟨r,o,e,a,b,s⟩:=Rb h c H;exact⟨r.toNat,A.set n o,by rw[e,a6 a],by omega,⟨Kp.set,s⟩,length_set ..⟩
def wa {m:Int}(h:qL n A)(h0:ρ[0]? =some (some (.ref n)))(hm:me ρ A=.ok (.int m) A)(b:0<m)(H:m<1000000000000000):∃(r:Nat) (B:Hx),zQ yb (zi zm (zi me zo)) ρ A=.ok (.int r) B/\(r:Int)<m/\Kn n A B/\B.length=A.length:=by
 obtain⟨r,B,e,a⟩:=SO h b H;exact⟨r,B,(jq (qg (zq h0) (qg hm qK))).trans e,a⟩
def Rz {ty:Ty}(h:ty≠.tup):yx ty .tup=false:=by
 cases ty<;>first|rfl|exact absurd rfl h
section
variable {N a:Nat}{B:Hx}
def Um (g:t.length<=8)(q:Sq t){m:Ev}{c:Hx}(H:m ρ c=.ok (zI t) B):qh (zO 1 [] (qo m) (zF 0) zY (zL (qh (qi zm)))) ρ c=
  .ok (.ref (B.length+t.length)) (B++(t.map λr=>O.lst (r.map W.int))++[O.lst ((List.range t.length).map λi=>W.ref (B.length+i))]):=by
 obtain⟨b,d,j,e,⟨z,g1⟩,g2,g3⟩:=JK (nl:=1) (cap:=[]) (tw:=zF 0) (ifs:=zy (.bl true)) (em:=zL (qh (qi zm))) (ρ:=ρ) (A:=c) (N:=t.length)
  (I:=λp b a C=>(∃z,b=[z])/\C=B++((t.take p).map λr=>O.lst (r.map W.int))/\a=(List.range p).map λi=>W.ref (B.length+i)) (Qo H) (by simp)
  (λp b a C h ⟨⟨z,f1⟩,f2,f⟩=>by
   subst f1 f2 f;refine⟨zU t[p],[some (zU t[p])],?_,rfl,.inl ⟨_,_,_,_,rfl,JT (gf (kA (w:=zU t[p]) (ws:=t[p].map W.int) (zq rfl) rfl)) ?_,⟨_,rfl⟩,?_,?_⟩⟩
   ·show some (t.map zU)[p]? =_
    rw[aw,aa h];rfl
   ·simp;unfold qa;omega
   ·rw[take_succ h,aX,aP];rfl
   ·rw[range_succ,aX,aD,ah,bo,Nat.min_eq_left (bt h)];rfl)
  (λb a C _=>by show some (t.map zU)[t.length]? =_;rw[aL (by simp)]) ⟨⟨none,rfl⟩,by simp,by simp⟩
 rw[gf e,g2,g3,take_length];simp
def GU (h:i<t.length):(B++(t.map λr=>O.lst (r.map W.int))++[O.lst ((List.range t.length).map λi=>W.ref (B.length+i))])[B.length+i]? =some (.lst ((t.getD i []).map W.int)):=by
 rw[ai (by simp;omega),av (by omega),show B.length+i-B.length=i by omega,aw,ae,aa h]
 rfl
def Gw:(B++(t.map λr=>O.lst (r.map W.int))++[O.lst ((List.range t.length).map λi=>W.ref (B.length+i))])[B.length+t.length]? =some (.lst ((List.range t.length).map λi=>W.ref (B.length+i))):=by
 have:B.length+t.length=(B++(t.map λr=>O.lst (r.map W.int))).length:=by simp
 rw[this,qJ]
end
def QM {r s:Nat}{l m:bM}(h:A[r]? =some (.lst (l.map W.int)))(H:A[s]? =some (.lst (m.map W.int))):qx (.ref r) (.ref s) A=.ok (.bl (!decide (l=m))) A:=by
 show kT true _ _ A=_;unfold kT;rw[Jb h,Jb H];dsimp only;rw[PyData.eqv,W2]
 rfl
section
variable {p f:Nat}
def LR {x:Option W}(U:A.length<=p)(hf:A.length<=f)(hn:n<A.length)(h:p≠f):∀(k fu:Nat)(l fd:bM)(B:Hx),l.length=k->k<fu->fd.length+l.length<=100->Kn n A B->B[p]? =some (.lst (l.map W.int))->B[f]? =some (.lst (fd.map W.int))->
  ∃(j:Hx) (b:bM),Zl (zc qx zW (z8 zo)) (zl (QI (kE gi zZ (kE gH zW (zQ yb (zi zm (zi (mQ qG (qi zW)) zo)))))) zB) fu [some (.ref n),x,some (.ref p),some (.ref f)] B=.ok (.nx [some (.ref n),x,some (.ref p),some (.ref f)]) j/\Kn n A j/\j[f]? =some (.lst (b.map W.int))/\b.Perm (fd++l):=by
 intro k
 induction k with
 |zero=>
  intro fu l fd B H z _ kn r D;obtain⟨fu,rfl⟩:∃J,fu=J+1:=⟨fu-1,by omega⟩
  have:l=[]:=List.length_eq_zero_iff.mp H
  subst this;refine⟨B++[.lst []],fd,?_,kn.trans (Kn.ext kn.st Ext.one),jx D,by simp⟩
  unfold Zl;have s:zc qx zW (z8 zo) [some (.ref n),x,some (.ref p),some (.ref f)] B=.ok (.bl false) (B++[.lst []]):=(zJ (zq (i:=2) rfl) (jX qK)).trans (QM (l:=[]) (m:=[]) (jx r) qJ);rw[s,zD]
 |succ k S=>
  intro fu l fd B H z X kn r D;obtain⟨fu,rfl⟩:∃J,fu=J+1:=⟨fu-1,by omega⟩
  have s:zc qx zW (z8 zo) [some (.ref n),x,some (.ref p),some (.ref f)] B=.ok (.bl true) (B++[.lst []]):=by
   refine(zJ (zq (i:=2) rfl) (jX qK)).trans ((QM (m:=[]) (jx r) qJ).trans ?_);have y:l≠[]:=λe=>by rw[e]at H;cases H
   rw[ay y]
   rfl
  have K:=kn.trans (Kn.ext kn.st (Ext.one (o:=.lst [])));have g1:=jx (u:=.lst []) r;have g2:=jx (u:=.lst []) D;generalize B++[O.lst []]=L at s K g1 g2;have E:mQ qG (qi zW) [some (.ref n),x,some (.ref p),some (.ref f)] L=.ok (.int (l.length:Int)) L:=by
   rw[yG (kA (w:=.ref p) (A1:=L) (ws:=l.map W.int) (zq rfl) (by unfold zS;dsimp only;rw[g1]))]
   unfold qG;rw[ah]
  obtain⟨q,P,e1,T,k2,_⟩:=wa (ρ:=[some (.ref n),x,some (.ref p),some (.ref f)]) K.st rfl E (by omega) (by omega)
  have v:q<l.length:=by omega
  have d:=k2.kp.get g1 (by omega)
  have I:=k2.kp.get g2 (by omega)
  have hw:(l.map W.int)[q]? =some (.int l[q]):=by rw[aw,aa v];rfl
  have N:=(Gz (g:=gH) (a:=zH 2) (zq rfl) g1 e1).trans (NL d hw (by omega))
  rw[UQ]at N;have c:(P.set p (.lst ((l.eraseIdx q).map W.int)))[f]? =some (.lst (fd.map W.int)):=by rw[aJ h];exact I
  have M:=(Gz (g:=gi) (a:=zH 3) (zq rfl) g2 N).trans (Nf c (by rw[ah];omega))
  have C:fd.map W.int++[.int l[q]]=(fd++[l[q]]).map W.int:=by rw[aX];rfl
  rw[C]at M;have hlen:(l.eraseIdx q).length=k:=by rw[List.length_eraseIdx_of_lt v];omega
  have t:Kn n A ((P.set p (.lst ((l.eraseIdx q).map W.int))).set f (.lst ((fd++[l[q]]).map W.int))):=⟨((K.trans k2).kp.put U).put hf,((k2.st).put (by omega)).put (by omega)⟩
  obtain⟨j,b,Z,s4,a4,Q⟩:=S fu (l.eraseIdx q) (fd++[l[q]]) _ hlen (by omega) (by rw[aD,a5];omega) t
   (by rw[aJ (Ne.symm h),aH (Za d)]) (by rw[aH (Za c)])
  refine⟨j,b,?_,s4,a4,Q.trans ?_⟩
  ·unfold Zl
   rw[s,zD];dsimp only;have Y:=(zK (m2:=zB) (EL M)).trans jM;rw[Y,zD];exact Z
  ·rw[aP]
   exact List.Perm.append_left fd (Up (aa v)).symm
def TH {q:Nat}{l:bM}(s:qL n A)(h:A[q]? =some (.lst (l.map W.int)))(H:l.length<=100):∃(r:Nat) (B:Hx) (fd:bM),QQ [.ref n,.ref q] A=.ok (.ref r) B/\B[r]? =some (.lst (fd.map W.int))/\fd.Perm l/\Kn n A B/\A.length<=r:=by
 unfold QQ WD;unfold Vr;have a:qh (qi zu) [some (.ref n),some (.ref q),none,none] A=.ok (.ref A.length) (A++[.lst (l.map W.int)]):=gf (kA (w:=.ref q) (zq rfl) (by unfold zS;dsimp only;rw[h]))
 have x0:Ext A (A++[.lst (l.map W.int)]++[.lst []]):=Ext.one.app;have hlen:(A++[O.lst (l.map W.int)]).length=A.length+1:=by simp
 have a2:(A++[.lst (l.map W.int)]++[.lst []])[A.length+1]? =some (.lst (([]:bM).map W.int)):=by rw[<- hlen];exact qJ
 obtain⟨B,fd,E,kn,e,P⟩:=LR (A:=A) (p:=A.length) (f:=A.length+1) (x:=some (.ref q)) (au _) (by omega) s.lt (by omega) l.length 1000 l [] _ rfl (by omega) (by simp;omega) (Kn.ext s x0) (jx qJ) a2
 refine⟨A.length+1,B,fd,ji ?_,e,by simpa using P,kn,by omega⟩
 refine(zK ((qw a).trans rfl)).trans ((zK (ρ1:=[some (.ref n),some (.ref q),some (.ref A.length),some (.ref (A.length+1))]) (A1:=A++[.lst (l.map W.int)]++[.lst []]) ?_).trans ((zK (m1:=G2 1000 _ _) E).trans (qm (ja (zq rfl)))));refine(qw (jX qK)).trans ?_;rw[hlen]
 rfl
end
noncomputable def dist (t:bL):bQ:=(List.range 8).filter λi=>decide ((i:Int)∈t.flatten)
def wu (t:bL)(v:Int):Int:=((dist t).idxOf v.toNat:Nat)
def yk (t:bL):bL:=t.map λr=>r.map (wu t)
def Qj:i∈dist t↔i<8/\(i:Int)∈t.flatten:=by
 unfold dist;rw[mem_filter,List.mem_range,ak]
def Nr (t:bL):(dist t).Nodup:=List.Pairwise.filter _ List.nodup_range
theorem Ge:∀{l:bM},(∀v∈l,0<=v/\v<8)->ZQ l=some (l.map Int.toNat)
 |[],_=>rfl|v::l,h=>by
  unfold ZQ;rw[ag (h v (az ..)),Ge λx H=>h x (ao _ H)]
  rfl
theorem Gg:∀{kws:List (Nat×List W)},(∀p∈kws,A[p.1]? =some (.lst p.2))->wJ A (kws.map λ(p:Nat×List W)=>W.ref p.1)=some (kws.map (·.2))
 |[],_=>rfl|p::kws,h=>by
  show(match A[p.1]? with|some (.lst ws)=>(wJ A (kws.map λ(p:Nat×List W)=>W.ref p.1)).map (ws::·)|_=>none)=_
  rw[h p (az ..)];dsimp only;rw[Gg λx H=>h x (ao _ H)]
  rfl
theorem Tw (v:Nat):∀{l:bQ},v∈l->gJ (λz=>PyData.eqv z (.int (v:Int))) (l.map λ(i:Nat)=>PyData.int (i:Int))=some (l.idxOf v)
 |[],h=>by cases h|a::l,h=>by
  rw[aU,gJ,List.idxOf_cons]
  have:PyData.eqv (.int (a:Int)) (.int (v:Int))=(a==v):=by
   rw[PyData.eqv,Bool.eq_iff_iff];simp;omega
  rw[this]
  by_cases q:a=v
  ·subst q
   simp
  ·have Q:(a==v)=false:=by simp[q]
   rw[Q,ar (by simp)]
   rw[Tw v ((cc.mp h).resolve_left (Ne.symm q))]
   rfl
def LL (t:bL)(r:Nat)(B:Hx):Prop:=∃k:bQ,B[r]? =some (.lst (k.map W.ref))/\k.length=t.length/\∀i,i<t.length->B[k.getD i 0]? =some (.lst ((t.getD i []).map W.int))
def GA {m:Ev}(h:m ρ A=.ok (.ref k) A)(a:A[k]? =some (.lst ws))(l:ws.length<=qa){g:W->W}(he:∀w∈ws,me (some w::cap.map λi=>(ρ[i]?).join) A=.ok (g w) A):
  zO 1 cap (qo m) (zF 0) zY (zL me) ρ A=.ok (ws.map g) A:=by
 have e:=Qd (cap:=cap) (me:=me) (ρ:=ρ) (A:=A) (N:=ws.length) (item:=λi=>ws.getD i .non) (g:=λi=>g (ws.getD i .non)) (J4 h a) rfl l
  (λi H=>(ZP a).trans (by rw[aa H,ae,aa H];rfl))
  ((ZP a).trans (by rw[aL (au _)]))
  (λi H=>by
   have:ws.getD i .non=ws[i]:=by rw[ae,aa H];rfl
   rw[this];exact he _ (aN H))
 rw[e]
 congr 1
 apply bJ
 ·simp
 ·intro i c b
  have H:i<ws.length:=by simpa using b
  simp[ae,aa H]
noncomputable def Pu (f:Int->Int):W->W
 |.int v=>.int (f v)|w=>w
def Fm (f:Int->Int)(l:bM):(l.map W.int).map (Pu f)=(l.map f).map W.int:=by
 rw[aO,aO];rfl
section
variable {r:Nat}
def Mh {B:Hx}(l:t.length<=8)(L:LL t r B)(h0:ρ[i]? =some (some (.ref r))):qh (zO 1 [] (qo (zH i)) (zF 0) zY (zL (qh (qi zm)))) ρ B=
  .ok (.ref (B.length+t.length)) (B++(t.map λr=>O.lst (r.map W.int))++[O.lst ((List.range t.length).map λi=>W.ref (B.length+i))]):=by
 obtain⟨k,E,d,g⟩:=L;obtain⟨b,f,n,e,⟨z,g1⟩,g2,g3⟩:=JK (nl:=1) (cap:=[]) (tw:=zF 0) (ifs:=zy (.bl true)) (em:=zL (qh (qi zm))) (ρ:=ρ) (A:=B) (N:=t.length)
  (I:=λp b a C=>(∃z,b=[z])/\C=B++((t.take p).map λr=>O.lst (r.map W.int))/\a=(List.range p).map λi=>W.ref (B.length+i)) (J4 (zq h0) E) (by simp[d])
  (λp b a C H ⟨⟨z,f1⟩,f2,j⟩=>by
   subst f1 f2 j;have x:Ext B (B++((t.take p).map λr=>O.lst (r.map W.int))):=⟨_,rfl⟩;have h:=x.at (g p H);have c:t.getD p []=t[p]:=by rw[ae,aa H];rfl
   rw[c]at h;refine⟨.ref (k.getD p 0),[some (.ref (k.getD p 0))],?_,rfl,.inl ⟨_,_,_,_,rfl,JT (gf (kA (w:=.ref (k.getD p 0)) (ws:=t[p].map W.int) (zq rfl) (by unfold zS;dsimp only;rw[h]))) ?_,⟨_,rfl⟩,?_,?_⟩⟩
   ·refine(ZP (x.at E)).trans ?_
    rw[aw,ae,aa (by omega)];rfl
   ·simp;unfold qa;omega
   ·rw[take_succ H,aX,aP];rfl
   ·rw[range_succ,aX,aD,ah,bo,Nat.min_eq_left (bt H)];rfl)
  (λb a C ⟨_,f2,_⟩=>by
   subst f2;exact(ZP (Ext.at ⟨_,rfl⟩ E)).trans (by rw[aL (by simp[d])])) ⟨⟨none,rfl⟩,by simp,by simp⟩
 rw[gf e,g2,g3,take_length];simp
def LL.mono {B:Hx}(x:Ext A B)(h:LL t r A):LL t r B:=by
 obtain⟨k,e,a,H⟩:=h;exact⟨k,x.at e,a,λi b=>x.at (H i b)⟩
def Se (Y:1<=t.length)(I:t.length<=8)(D:Sq t)(q:∀v∈t.flatten,0<=v/\v<8)(L:LL t r A):∃B,Qc [.ref r] A=.ok (zI (yk t)) B/\Ext A B:=by
 have X:t.flatten.length<=64:=by
  have:∀l:bL,(∀r∈l,r.length<=8)->l.flatten.length<=8 * l.length:=by
   intro l
   induction l with
   |nil=>intro _;simp|cons r l S=>
    intro e;have Y:=e r (az ..);have h2:=S λQ s=>e Q (ao _ s);rw[aS,aD,bc];omega
  have:=this t λr e=>by rw[D r e];exact I
  omega
 unfold Qc WQ;unfold VS;have P:=Mh (ρ:=[some (.ref r),none]) (i:=0) I L rfl;have x1:Ext A (A++(t.map λr=>O.lst (r.map W.int))++[O.lst ((List.range t.length).map λi=>W.ref (A.length+i))]):=⟨(t.map λr=>O.lst (r.map W.int))++[O.lst ((List.range t.length).map λi=>W.ref (A.length+i))],by rw[aP]⟩
 have a:∀i,i<t.length->_:=λi C=>GU (B:=A) (t:=t) (i:=i) C;have H:=Gw (B:=A) (t:=t);generalize A++(t.map λr=>O.lst (r.map W.int))++[O.lst ((List.range t.length).map λi=>W.ref (A.length+i))]=b at P x1 a H;have M:zc we (qh (zO 1 [] (qo zm) (zF 0) zY (zL (qh (qi zm))))) (z8 zo) [some (.ref r),none] A=.ok (.ref (b.length+1)) (b++[.lst []]++[.lst (t.flatten.map W.int)]):=by
  refine(zJ P (jX qK)).trans ?_;have n:=Gg (A:=b++[.lst []]) (kws:=(List.range t.length).map λi=>(A.length+i,(t.getD i []).map W.int)) (λp T=>by
   obtain⟨i,C,rfl⟩:=cf.mp T;exact jx (a i (ck.mp C)))
  rw[aO,aO]at n;have y:((λp:Nat×List W=>W.ref p.1) ∘ λi=>(A.length+i,(t.getD i []).map W.int))=λi=>W.ref (A.length+i):=rfl;have x:((λp:Nat×List W=>p.2) ∘ λi=>(A.length+i,(t.getD i []).map W.int))=λi=>(t.getD i []).map W.int:=rfl;rw[y,x,<- Qa t [] λr=>r.map W.int]at n;have hf:(t.map λr=>r.map W.int).flatten=t.flatten.map W.int:=by rw[List.map_flatten]
  unfold we;dsimp only;rw[jx H,qJ];dsimp only;rw[n];dsimp only;rw[ag ⟨λz=>(by have:=congrArg List.length z;rw[ah,bf]at this;exact absurd this (by rw[length_nil];omega)),by rw[hf,ah];unfold qa;omega⟩,hf]
  simp
 have x2:Ext A (b++[.lst []]++[.lst (t.flatten.map W.int)]):=x1.app.app;have f:(b++[.lst []]++[.lst (t.flatten.map W.int)])[b.length+1]? =some (.lst (t.flatten.map W.int)):=by
  have:b.length+1=(b++[O.lst []]).length:=by simp
  rw[this,qJ]
 generalize b++[.lst []]++[.lst (t.flatten.map W.int)]=c at M x2 f;have J:Qg (zc we (qh (zO 1 [] (qo zm) (zF 0) zY (zL (qh (qi zm))))) (z8 zo)) [some (.ref r),none] A=.ok (.ref c.length) (c++[.lst (((dist t).map λ(i:Nat)=>(i:Int)).map W.int)]):=by
  unfold Qg;rw[M,zD];unfold Y8;dsimp only;rw[f];dsimp only;rw[JI];dsimp only;rw[Ge q];dsimp only
  have:((List.range 8).filter λi=>decide (i∈t.flatten.map Int.toNat))=dist t:=by
   unfold dist
   apply List.filter_congr
   intro i _;rw[decide_eq_decide]
   constructor
   ·intro z
    obtain⟨v,h,rfl⟩:=cf.mp z;rw[a6 (q v h).1];exact h
   ·intro z
    exact cf.mpr ⟨_,z,rfl⟩
  rw[this,aO]
  rfl
 have x3:=x2.app (l:=[.lst (((dist t).map λ(i:Nat)=>(i:Int)).map W.int)]);have d:(c++[.lst (((dist t).map λ(i:Nat)=>(i:Int)).map W.int)])[c.length]? =some (.lst (((dist t).map λ(i:Nat)=>(i:Int)).map W.int)):=qJ;generalize c++[.lst (((dist t).map λ(i:Nat)=>(i:Int)).map W.int)]=k at J x3 d;obtain⟨K,k0,E,e⟩:=LL.mono x3 L;refine⟨k,ji ((zK ((qw J).trans rfl)).trans (qm (ja ?_))),x3⟩;have idx:∀v,v∈t.flatten->gI (.ref c.length) (.int v) k=.ok (.int (wu t v)) k:=λv h=>by
  obtain⟨u,rfl⟩:=a8 (q v h).1;have hm:u∈dist t:=Qj.mpr ⟨by have:=q _ h;omega,h⟩
  unfold gI;rw[Jb d];show(match gJ (λz=>PyData.eqv z (.int (u:Int))) (((dist t).map λ(i:Nat)=>(i:Int)).map PyData.int) with|some j=>if j<1000000 then R.ok (W.int (j:Int)) k else .bad|none=>.bad)=_
  have:((dist t).map λ(i:Nat)=>(i:Int)).map PyData.int=(dist t).map λ(i:Nat)=>PyData.int (i:Int):=by rw[aO];rfl
  rw[this,Tw u hm];dsimp only;have n:(dist t).idxOf u<(dist t).length:=List.idxOf_lt_length_of_mem hm;have U:(dist t).length<=8:=by unfold dist;exact aQ (length_filter_le _ _) (by simp)
  rw[ag (by omega)]
  rfl
 have Z:=Qd (cap:=[1]) (me:=mQ yN (zO 1 [1] (qo zm) (zF 0) zY (zL (kE gI zu zm)))) (ρ:=[some (.ref r),some (.ref c.length)]) (A:=k) (N:=t.length) (item:=λi=>.ref (K.getD i 0)) (g:=λi=>zU ((t.getD i []).map (wu t))) (J4 (zq (i:=0) rfl) k0) (by simp[E]) (by unfold qa;omega)
  (λj o=>(ZP k0).trans (by rw[aw,ae,aa (by omega)];rfl)) ((ZP k0).trans (by rw[aL (by simp[E])]))
  (λj o=>by
   have:=GA (cap:=[1]) (m:=zH 0) (me:=kE gI zu zm) (ρ:=[some (.ref (K.getD j 0)),some (.ref c.length)]) (g:=Pu (wu t)) (zq rfl) (e j o) (by rw[ah,D _ (kK o)];unfold qa;omega) (λw hw=>by
    obtain⟨v,h,rfl⟩:=cf.mp hw;exact(Gz (g:=gI) (zq rfl) d (zq (i:=0) rfl)).trans (idx v (List.mem_flatten.mpr ⟨_,kK o,h⟩)))
   rw[Fm]at this;exact Jc this)
 refine(Jc Z).trans ?_;unfold zI yk;rw[aO,Qa t [] (zU ∘ λr=>r.map (wu t))]
 rfl
def Ms (S:1<=t.length)(Q:t.length<=8)(o:Sq t)(dg:∀a b,a<t.length->b<t.length->(at2 t a b=0↔a=b))(sy:∀a b,a<t.length->b<t.length->at2 t a b=at2 t b a)
  (lo:∀a b,a<t.length->b<t.length->0<=at2 t a b/\at2 t a b<(t.length:Int)):qW (yk t):=by
 have w:∀v∈t.flatten,0<=v/\v<(t.length:Int):=λv n=>by
  obtain⟨a,b,f,w,rfl⟩:=Qn o n;exact lo a b f w
 have hlen:(yk t).length=t.length:=by unfold yk;rw[ah]
 have q:∀r∈yk t,r.length=t.length:=λr g=>by
  obtain⟨s,E,rfl⟩:=cf.mp g;rw[ah];exact o s E
 have j:∀a b,a<t.length->b<t.length->at2 (yk t) a b=wu t (at2 t a b):=λa b f w=>by
  have z:=o _ (kK f);unfold at2 yk;rw[ae (l:=t.map _),aw,aa f];have e:t.getD a []=t[a]:=by rw[ae,aa f];rfl
  rw[e]at z ⊢;show(t[a].map (wu t)).getD b 0=_;rw[ae,aw,ae,aa (by omega)]
  rfl
 have mem:∀a b,a<t.length->b<t.length->(at2 t a b).toNat∈dist t:=λa b f H=>by
  obtain⟨_,_,_,x⟩:=JZ o f H
  have:=w _ x
  rw[Qj,a6 this.1];exact⟨by omega,x⟩
 have nd:=Nr t;have dl:(dist t).length<=t.length:=by
  have:=G6 t.length ((dist t).map λ(i:Nat)=>(i:Int)) (by
   rw[List.nodup_iff_pairwise_ne,List.pairwise_map];exact nd.imp λh=>by omega) (λr g=>by
   obtain⟨i,I,rfl⟩:=cf.mp g
   have:=w _ (Qj.mp I).2
   exact this)
  rw[ah]at this;exact this
 have Z:(0:Nat)∈dist t:=by
  have:=mem 0 0 (by omega) (by omega)
  rw[(dg 0 0 (by omega) (by omega)).mpr rfl]at this
  exact this
 have N:∃l,dist t=0::l:=by
  have g:List.range 8=0::[1,2,3,4,5,6,7]:=by decide
  have D:=(Qj.mp Z).2;refine⟨[1,2,3,4,5,6,7].filter λi=>decide ((i:Int)∈t.flatten),?_⟩;unfold dist;rw[g,List.filter_cons_of_pos (by exact ax D)]
 obtain⟨P,u⟩:=N;have y:∀a b,a<t.length->b<t.length->0<=wu t (at2 t a b)/\wu t (at2 t a b)<(t.length:Int):=λa b f H=>by
  have:=List.idxOf_lt_length_of_mem (mem a b f H)
  unfold wu;omega
 refine⟨by omega,by omega,λr g=>by rw[hlen];exact q r g,λr g v n=>?_,λa b f H=>?_,λa b f H=>?_,λk C=>?_⟩
 ·have:v∈(yk t).flatten:=List.mem_flatten.mpr ⟨r,g,n⟩
  obtain⟨a,b,f,H,e⟩:=Qn (λr g=>by rw[hlen];exact q r g) this
  rw[hlen]at f H ⊢;rw[<- e,j a b f H];exact y a b f H
 ·rw[hlen]at f H
  rw[j a b f H,<- dg a b f H];unfold wu;have m:=mem a b f H;have n:=lo a b f H
  constructor
  ·intro e
   have M:(dist t).idxOf (at2 t a b).toNat=0:=by omega
   have A:=List.idxOf_lt_length_of_mem m
   have:=List.getElem_idxOf A
   have h0:(dist t)[(dist t).idxOf (at2 t a b).toNat]? =some (at2 t a b).toNat:=by rw[aa A,this]
   rw[M,u]at h0;simp at h0;omega
  ·intro e
   rw[e,u];simp
 ·rw[hlen]at f H
  rw[j a b f H,j b a H f,sy a b f H]
 ·obtain⟨v,n,C⟩:=C
  obtain⟨a,b,f,H,e⟩:=Qn (λr g=>by rw[hlen];exact q r g) n
  rw[hlen]at f H;rw[j a b f H]at e;have A:=List.idxOf_lt_length_of_mem (mem a b f H);have p:k<(dist t).length:=by unfold wu at e;omega
  have hd:=Qj.mp (aN p);obtain⟨c,d,J,B,L⟩:=Qn o hd.2;have K:at2 (yk t) c d=(k:Int):=by
   rw[j c d J B,L];unfold wu;rw[aM,nd.idxOf_getElem k p]
  obtain⟨_,_,_,x⟩:=JZ (t:=yk t) (λr g=>by rw[hlen];exact q r g) (by omega:c<(yk t).length) (by omega:d<(yk t).length)
  rw[K]at x;exact x
end
noncomputable def kr:Nat->List (bM)
 |0=>[[0,1,2,3,4,3,2,1],[1,0,1,2,3,4,3,2],[2,1,0,1,2,3,4,3],[3,2,1,0,1,2,3,4],[4,3,2,1,0,1,2,3],[3,4,3,2,1,0,1,2],[2,3,4,3,2,1,0,1],[1,2,3,4,3,2,1,0]]|1=>[[0,1,2,3,3,2,1],[1,0,1,2,3,3,2],[2,1,0,1,2,3,3],[3,2,1,0,1,2,3],[3,3,2,1,0,1,2],[2,3,3,2,1,0,1],[1,2,3,3,2,1,0]]|2=>[[0,1,2,3,2,1],[1,0,1,2,3,2],[2,1,0,1,2,3],[3,2,1,0,1,2],[2,3,2,1,0,1],[1,2,3,2,1,0]]|3=>[[0,1,2,2,1],[1,0,1,2,2],[2,1,0,1,2],[2,2,1,0,1],[1,2,2,1,0]]|4=>[[0,1,2,1],[1,0,1,2],[2,1,0,1],[1,2,1,0]]|5=>[[0,1,1],[1,0,1],[1,1,0]]|6=>[[0,1],[1,0]]|7=>[[0]]|8=>[[0,1,1,2,1,2,2,3],[1,0,2,1,2,1,3,2],[1,2,0,1,2,3,1,2],[2,1,1,0,3,2,2,1],[1,2,2,3,0,1,1,2],[2,1,3,2,1,0,2,1],[2,3,1,2,1,2,0,1],[3,2,2,1,2,1,1,0]]|9=>[[0,1,1,2],[1,0,2,1],[1,2,0,1],[2,1,1,0]]|10=>[[0,1],[1,0]]|11=>[[0,1,1,1,1,1,1,1],[1,0,1,1,1,1,1,1],[1,1,0,1,1,1,1,1],[1,1,1,0,1,1,1,1],[1,1,1,1,0,1,1,1],[1,1,1,1,1,0,1,1],[1,1,1,1,1,1,0,1],[1,1,1,1,1,1,1,0]]|12=>[[0,1,1,1,1,1,1],[1,0,1,1,1,1,1],[1,1,0,1,1,1,1],[1,1,1,0,1,1,1],[1,1,1,1,0,1,1],[1,1,1,1,1,0,1],[1,1,1,1,1,1,0]]|13=>[[0,1,1,1,1,1],[1,0,1,1,1,1],[1,1,0,1,1,1],[1,1,1,0,1,1],[1,1,1,1,0,1],[1,1,1,1,1,0]]|14=>[[0,1,1,1,1],[1,0,1,1,1],[1,1,0,1,1],[1,1,1,0,1],[1,1,1,1,0]]|15=>[[0,1,1,1],[1,0,1,1],[1,1,0,1],[1,1,1,0]]|16=>[[0,1,1],[1,0,1],[1,1,0]]|17=>[[0,1],[1,0]]|18=>[[0]]|19=>[[0,1,2,2,2,2,2,2],[1,0,2,2,2,2,2,2],[2,2,0,1,2,2,2,2],[2,2,1,0,2,2,2,2],[2,2,2,2,0,1,2,2],[2,2,2,2,1,0,2,2],[2,2,2,2,2,2,0,1],[2,2,2,2,2,2,1,0]]|20=>[[0,1,1,1,2,2,2,2],[1,0,1,1,2,2,2,2],[1,1,0,1,2,2,2,2],[1,1,1,0,2,2,2,2],[2,2,2,2,0,1,1,1],[2,2,2,2,1,0,1,1],[2,2,2,2,1,1,0,1],[2,2,2,2,1,1,1,0]]|21=>[[0,1,2,2,2,2],[1,0,2,2,2,2],[2,2,0,1,2,2],[2,2,1,0,2,2],[2,2,2,2,0,1],[2,2,2,2,1,0]]|22=>[[0,1,1,2,2,2],[1,0,1,2,2,2],[1,1,0,2,2,2],[2,2,2,0,1,1],[2,2,2,1,0,1],[2,2,2,1,1,0]]|23=>[[0,1,2,2],[1,0,2,2],[2,2,0,1],[2,2,1,0]]|24=>[[0,1,1,1,1,2],[1,0,1,1,2,1],[1,1,0,2,1,1],[1,1,2,0,1,1],[1,2,1,1,0,1],[2,1,1,1,1,0]]|25=>[[0,1,2,3],[1,0,3,2],[2,3,0,1],[3,2,1,0]]|26=>[[0,1,2,3,4,5,6,7],[1,0,3,2,5,4,7,6],[2,3,0,1,6,7,4,5],[3,2,1,0,7,6,5,4],[4,5,6,7,0,1,2,3],[5,4,7,6,1,0,3,2],[6,7,4,5,2,3,0,1],[7,6,5,4,3,2,1,0]]|27=>[[0,1],[1,0]]|28=>[[0,1,2,1,3,4,5,4],[1,0,1,2,4,3,4,5],[2,1,0,1,5,4,3,4],[1,2,1,0,4,5,4,3],[3,4,5,4,0,1,2,1],[4,3,4,5,1,0,1,2],[5,4,3,4,2,1,0,1],[4,5,4,3,1,2,1,0]]|29=>[[0,1,1,3,4,4],[1,0,1,4,3,4],[1,1,0,4,4,3],[3,4,4,0,1,1],[4,3,4,1,0,1],[4,4,3,1,1,0]]|30=>[[0,1,3,4],[1,0,4,3],[3,4,0,1],[4,3,1,0]]|31=>[[0,1,2,1,3,3,3,3],[1,0,1,2,3,3,3,3],[2,1,0,1,3,3,3,3],[1,2,1,0,3,3,3,3],[3,3,3,3,0,1,2,1],[3,3,3,3,1,0,1,2],[3,3,3,3,2,1,0,1],[3,3,3,3,1,2,1,0]]|32=>[[0,1,1,3,3,3],[1,0,1,3,3,3],[1,1,0,3,3,3],[3,3,3,0,1,1],[3,3,3,1,0,1],[3,3,3,1,1,0]]|33=>[[0,1,3,3],[1,0,3,3],[3,3,0,1],[3,3,1,0]]|_=>[]
def Eu:((List.range 34).all λi=>XY (yk (kr i))&&((kr i).all λr=>r.length==(kr i).length)&&((kr i).flatten.all λv=>decide (0<=v)&&decide (v<8)))=true:=by decide +kernel
def Fj (h:i<34):qW (yk (kr i))/\G.Sq (kr i)/\∀v∈(kr i).flatten,0<=v/\v<8:=by
 have:=cm.mp Eu i (ck.mpr h)
 rw[aj,aj]at this;refine⟨Fd this.1.1,λr a=>?_,λv H=>?_⟩
 ·exact eq_of_beq (cm.mp this.1.2 r a)
 ·have:=cm.mp this.2 v H
  rw[aj,ak,ak]at this;exact this
theorem Sf:∀{us:List W}{w:List (List W)},wJ A us=some w->∃K:bQ,us=K.map W.ref/\K.length=w.length/\∀i,i<w.length->A[K.getD i 0]? =some (.lst (w.getD i []))
 |[],w,e=>by
  cases e;exact⟨[],rfl,rfl,λi H=>by cases H⟩
 |.ref k::us,w,e=>by
  unfold wJ at e;cases h:A[k]? with
  |none=>rw[h]at e;cases e|some o=>
   rw[h]at e;cases o with
   |lst ws=>
    dsimp only at e;cases a:wJ A us with
    |none=>rw[a]at e;cases e|some v=>
     rw[a]at e;cases e;obtain⟨K,rfl,l,b⟩:=Sf a;refine⟨k::K,rfl,by simp[l],λi H=>?_⟩
     cases i with
     |zero=>exact h|succ i=>exact b i (by simpa using H)
   |_=>cases e
 |.non::_,_,e=>by cases e|.bl _::_,_,e=>by cases e|.int _::_,_,e=>by cases e|.str _::_,_,e=>by cases e|.tup _::_,_,e=>by cases e|.clo _ _ _::_,_,e=>by cases e|.xc _::_,_,e=>by cases e
def XQ (x:R Fl):Option (Option O×Option (List (List W))):=match x with
 |.ok (.rt (.ref r)) B=>some (B[0]?,match B[r]? with
  |some (.lst us)=>wJ B us|_=>none)
 |_=>none
def HJ {x:R Fl}(h:XQ x=some (some o,some (t.map λr=>r.map W.int))):∃r B,x=.ok (.rt (.ref r)) B/\B[0]? =some o/\LL t r B:=by
 unfold XQ at h
 split at h
 ·rename_i r B
  injection h with h
  injection h with c H
  cases a:B[r]? with
  |none=>rw[a]at H;cases H|some o'=>
   rw[a]at H;cases o' with
   |lst us=>
    dsimp only at H;obtain⟨K,rfl,l,k⟩:=Sf H;rw[ah]at l k;refine⟨r,B,rfl,c,K,a,l,λi b=>(k i b).trans ?_⟩;rw[ae,aw,ae,aa b]
    rfl
   |_=>cases H
 ·cases h
def Plain (X:Ex)(ρ:En)(A:Hx):Prop:=∃i,i<34/\∃r B,X ρ A=.ok (.rt (.ref r)) B/\qL 0 B/\LL (kr i) r B
section
variable {m1 m2:Ex}{ρ1:En}{L:Hx}{c:Ev}
def wL (h:m1 ρ A=.ok (.nx ρ1) A1)(q:Plain m2 ρ1 A1):Plain (zl m1 m2) ρ A:=by
 unfold Plain;rw[zK h];exact q
def Jm (q:Plain m1 ρ A):Plain (zl m1 m2) ρ A:=by
 obtain⟨i,h,r,B,e,s,l⟩:=q;exact⟨i,h,r,B,qm e,s,l⟩
def Jw (h:c ρ A=.ok (.bl true) A1)(q:Plain m1 ρ A1):Plain (qB c m1 m2) ρ A:=by
 unfold Plain;rw[yH h];exact q
def jS {m:Ex}(h:c ρ A=.ok (.bl false) A)(q:Plain m ρ A):Plain (zl (qB c m1 zB) m) ρ A:=wL ((yd h).trans jM) q
def Du {l:Hx}(s:qL 0 (o::L)):qL 0 (o::l):=s
def je (i:Nat)(H:i<34)(s:qL 0 (o::L))(h:XQ (m1 ρ A)=some (some o,some ((kr i).map λr=>r.map W.int))):Plain m1 ρ A:=by
 obtain⟨r,B,e,h0,l⟩:=HJ h;obtain⟨c,b,a,q⟩:=s;have E:some o=some (O.lst [.int c,.bl b]):=a;exact⟨i,H,r,B,e,⟨c,b,by rw[h0];exact E,q⟩,l⟩
def take1 (s:qL 0 (o::L)){m:Int}(H:0<m)(h:m<1000000000000000):∃(r:Nat) (o':O),yb [.ref 0,.int m] (o::L)=.ok (.int (r:Int)) (o'::L)/\(r:Int)<m/\qL 0 (o'::L):=by
 obtain⟨r,o',e,a,b,s'⟩:=Rb s H h;exact⟨r.toNat,o',by rw[e,a6 a];rfl,by omega,s'⟩
def QX {a:Ea}{vs:List W}(s:qL 0 (o::L))(h0:ρ[0]? =some (some (.ref 0)))(b:∀A,a ρ A=.ok vs A)(d:vs.length=k)(k1:0<k)(k2:k<1000):∃(j:Nat) (w:W) (o':O),zc zA (z8 a) (zQ yb (zi zm (zi (zy (.int (k:Int))) zo))) ρ (o::L)=.ok w (o'::(L++[.lst vs]))/\j<k/\vs[j]? =some w/\qL 0 (o'::(L++[.lst vs])):=by
 obtain⟨r,o',e,c,s'⟩:=take1 (L:=L++[.lst vs]) (m:=(k:Int)) (Du s) (by omega) (by omega)
 have h:r<vs.length:=by omega
 refine⟨r,vs[r],o',?_,by omega,aa h,s'⟩
 refine(zJ (jX (b _)) ((jq (qg (zq h0) (qg qb qK))).trans e)).trans ?_;have H:(o'::(L++[O.lst vs]))[(o::L).length]? =some (.lst vs):=by
  show(L++[O.lst vs])[L.length]? =_;exact qJ
 exact wb H (aa h)
end
def three (h:j<3):j=0∨j=1∨j=2:=by omega
def XM (h:j<5):j=0∨j=1∨j=2∨j=3∨j=4:=by omega
def XA (h:j<8):j=0∨j=1∨j=2∨j=3∨j=4∨j=5∨j=6∨j=7:=by omega
def IP (s:qL 0 [o]):Plain (WN yb) [some (.ref 0),none,none,none,none,none,none,none,none,none,none] [o]:=by
 unfold WN;obtain⟨way,p,n,hw,s1⟩:=take1 s (m:=8) (by decide) (by decide)
 refine wL (ρ1:=[some (.ref 0),some (.int (way:Int)),none,none,none,none,none,none,none,none,none]) (A1:=[p]) ((qw ((jq (ws:=[.ref 0,.int 8]) (A1:=[o]) rfl).trans n)).trans rfl) ?_;obtain⟨j,w,c,E,l,f,s2⟩:=QX (k:=8) (ρ:=[some (.ref 0),some (.int (way:Int)),none,none,none,none,none,none,none,none,none]) (a:=zi km (zi Zw (zi X6 (zi Wf (zi kq (zi jT (zi qU (zi qj zo)))))))) (vs:=[.int 8,.int 7,.int 6,.int 5,.int 4,.int 3,.int 2,.int 1]) s1 rfl (λ_=>rfl) rfl (by decide) (by decide)
 refine wL (ρ1:=[some (.ref 0),some (.int (way:Int)),some w,none,none,none,none,none,none,none,none]) (A1:=[c,.lst [.int 8,.int 7,.int 6,.int 5,.int 4,.int 3,.int 2,.int 1]]) ((qw E).trans rfl) ?_;have y:way<8:=by omega
 clear n E hw s s1;rcases XA y with rfl|rfl|rfl|rfl|rfl|rfl|rfl|rfl
 ·refine Jm (Jw (A1:=[c,.lst [.int 8,.int 7,.int 6,.int 5,.int 4,.int 3,.int 2,.int 1]]) (by kernel_rfl) ?_)
  rcases XA l with rfl|rfl|rfl|rfl|rfl|rfl|rfl|rfl<;>cases f
  ·exact je 0 (by decide) s2 (by kernel_rfl)
  ·exact je 1 (by decide) s2 (by kernel_rfl)
  ·exact je 2 (by decide) s2 (by kernel_rfl)
  ·exact je 3 (by decide) s2 (by kernel_rfl)
  ·exact je 4 (by decide) s2 (by kernel_rfl)
  ·exact je 5 (by decide) s2 (by kernel_rfl)
  ·exact je 6 (by decide) s2 (by kernel_rfl)
  ·exact je 7 (by decide) s2 (by kernel_rfl)
 ·refine jS (by kernel_rfl) (Jm (Jw (A1:=[c,.lst [.int 8,.int 7,.int 6,.int 5,.int 4,.int 3,.int 2,.int 1]]) (by kernel_rfl) ?_))
  obtain⟨J,g,i,e,b,H,s3⟩:=QX (k:=3) (ρ:=[some (.ref 0),some (.int ((1:Nat):Int)),some w,none,none,none,none,none,none,none,none]) (a:=zi km (zi kq (zi qU zo))) (vs:=[.int 8,.int 4,.int 2]) s2 rfl (λ_=>rfl) rfl (by decide) (by decide)
  refine wL ((qw e).trans rfl) ?_;rcases three b with rfl|rfl|rfl<;>cases H
  ·exact je 8 (by decide) s3 (by kernel_rfl)
  ·exact je 9 (by decide) s3 (by kernel_rfl)
  ·exact je 10 (by decide) s3 (by kernel_rfl)
 ·refine jS (by kernel_rfl) (jS (by kernel_rfl) (Jm (Jw (A1:=[c,.lst [.int 8,.int 7,.int 6,.int 5,.int 4,.int 3,.int 2,.int 1]]) (by kernel_rfl) ?_)))
  rcases XA l with rfl|rfl|rfl|rfl|rfl|rfl|rfl|rfl<;>cases f
  ·exact je 11 (by decide) s2 (by kernel_rfl)
  ·exact je 12 (by decide) s2 (by kernel_rfl)
  ·exact je 13 (by decide) s2 (by kernel_rfl)
  ·exact je 14 (by decide) s2 (by kernel_rfl)
  ·exact je 15 (by decide) s2 (by kernel_rfl)
  ·exact je 16 (by decide) s2 (by kernel_rfl)
  ·exact je 17 (by decide) s2 (by kernel_rfl)
  ·exact je 18 (by decide) s2 (by kernel_rfl)
 ·refine jS (by kernel_rfl) (jS (by kernel_rfl) (jS (by kernel_rfl) (Jm (Jw (A1:=[c,.lst [.int 8,.int 7,.int 6,.int 5,.int 4,.int 3,.int 2,.int 1]]) (by kernel_rfl) ?_))))
  obtain⟨J,g,i,e,b,H,s3⟩:=QX (k:=5) (ρ:=[some (.ref 0),some (.int ((3:Nat):Int)),some w,none,none,none,none,none,none,none,none]) (a:=zi (jL (zi qU (zi kq zo))) (zi (jL (zi kq (zi qU zo))) (zi (jL (zi qU (zi jT zo))) (zi (jL (zi jT (zi qU zo))) (zi (jL (zi qU (zi qU zo))) zo))))) (vs:=[.tup [.int 2,.int 4],.tup [.int 4,.int 2],.tup [.int 2,.int 3],.tup [.int 3,.int 2],.tup [.int 2,.int 2]]) s2 rfl (λ_=>rfl) rfl (by decide) (by decide)
  have asg:∀{m:Ev}{tw:Tg}{ρ d:En}{A A1:Hx}{w:W},m ρ A=.ok w A1->tw w ρ=some d->K9 m tw ρ A=.ok (.nx d) A1:=λh h'=>by
   unfold K9;rw[h,zD,h']
  rcases XM b with rfl|rfl|rfl|rfl|rfl<;>cases H
  ·exact wL (asg e rfl) (je 19 (by decide) s3 (by kernel_rfl))
  ·exact wL (asg e rfl) (je 20 (by decide) s3 (by kernel_rfl))
  ·exact wL (asg e rfl) (je 21 (by decide) s3 (by kernel_rfl))
  ·exact wL (asg e rfl) (je 22 (by decide) s3 (by kernel_rfl))
  ·exact wL (asg e rfl) (je 23 (by decide) s3 (by kernel_rfl))
 ·exact jS (by kernel_rfl) (jS (by kernel_rfl) (jS (by kernel_rfl) (jS (by kernel_rfl) (Jm (Jw (A1:=[c,.lst [.int 8,.int 7,.int 6,.int 5,.int 4,.int 3,.int 2,.int 1]]) (by kernel_rfl) (je 24 (by decide) s2 (by kernel_rfl)))))))
 ·refine jS (by kernel_rfl) (jS (by kernel_rfl) (jS (by kernel_rfl) (jS (by kernel_rfl) (jS (by kernel_rfl) (Jm (Jw (A1:=[c,.lst [.int 8,.int 7,.int 6,.int 5,.int 4,.int 3,.int 2,.int 1]]) (by kernel_rfl) ?_))))))
  obtain⟨J,g,i,e,b,H,s3⟩:=QX (k:=3) (ρ:=[some (.ref 0),some (.int ((5:Nat):Int)),some w,none,none,none,none,none,none,none,none]) (a:=zi kq (zi km (zi qU zo))) (vs:=[.int 4,.int 8,.int 2]) s2 rfl (λ_=>rfl) rfl (by decide) (by decide)
  refine wL ((qw e).trans rfl) ?_;rcases three b with rfl|rfl|rfl<;>cases H
  ·exact je 25 (by decide) s3 (by kernel_rfl)
  ·exact je 26 (by decide) s3 (by kernel_rfl)
  ·exact je 27 (by decide) s3 (by kernel_rfl)
 ·refine jS (by kernel_rfl) (jS (by kernel_rfl) (jS (by kernel_rfl) (jS (by kernel_rfl) (jS (by kernel_rfl) (jS (by kernel_rfl) ?_)))))
  obtain⟨J,g,i,e,b,H,s3⟩:=QX (k:=3) (ρ:=[some (.ref 0),some (.int ((6:Nat):Int)),some w,none,none,none,none,none,none,none,none]) (a:=zi kq (zi jT (zi qU zo))) (vs:=[.int 4,.int 3,.int 2]) s2 rfl (λ_=>rfl) rfl (by decide) (by decide)
  refine wL ((qw e).trans rfl) ?_;rcases three b with rfl|rfl|rfl<;>cases H
  ·exact je 28 (by decide) s3 (by kernel_rfl)
  ·exact je 29 (by decide) s3 (by kernel_rfl)
  ·exact je 30 (by decide) s3 (by kernel_rfl)
 ·refine jS (by kernel_rfl) (jS (by kernel_rfl) (jS (by kernel_rfl) (jS (by kernel_rfl) (jS (by kernel_rfl) (jS (by kernel_rfl) ?_)))))
  obtain⟨J,g,i,e,b,H,s3⟩:=QX (k:=3) (ρ:=[some (.ref 0),some (.int ((7:Nat):Int)),some w,none,none,none,none,none,none,none,none]) (a:=zi kq (zi jT (zi qU zo))) (vs:=[.int 4,.int 3,.int 2]) s2 rfl (λ_=>rfl) rfl (by decide) (by decide)
  refine wL ((qw e).trans rfl) ?_;rcases three b with rfl|rfl|rfl<;>cases H
  ·exact je 31 (by decide) s3 (by kernel_rfl)
  ·exact je 32 (by decide) s3 (by kernel_rfl)
  ·exact je 33 (by decide) s3 (by kernel_rfl)
def Hl (s:qL 0 [o]):∃i,i<34/\∃r B,YH [.ref 0] [o]=.ok (.ref r) B/\qL 0 B/\LL (kr i) r B:=by
 obtain⟨i,h,r,B,e,q⟩:=IP s;refine⟨i,h,r,B,?_,q⟩;unfold YH WR;exact ji e
noncomputable def Vg (g:Nat->W):W->W
 |.int v=>g v.toNat|w=>w
def Sd (g:Nat->W)(o:bQ):((o.map λ(a:Nat)=>(a:Int)).map W.int).map (Vg g)=o.map g:=by
 rw[aO,aO]
 apply bI
 intro a _;show g (Int.toNat (a:Int))=g a;rw[aM]
def UZ {fd:bM}{M:Nat}{s:Int}(h:fd.Perm ((List.range M).map λ(k:Nat)=>s+(k:Int))):∃p:bQ,fd=p.map (λ(k:Nat)=>s+(k:Int))/\p.Perm (List.range M):=by
 refine⟨fd.map λv=>(v-s).toNat,?_,?_⟩
 ·rw[aO]
  conv=>lhs;rw[<- map_id fd]
  apply bI
  intro v H;obtain⟨k,_,rfl⟩:=cf.mp (h.mem_iff.mp H);show s+(k:Int)=s+(((s+(k:Int)-s).toNat:Nat):Int);omega
 ·have:=h.map λv=>(v-s).toNat
  rw[aO]at this;have e:(List.range M).map ((λv:Int=>(v-s).toNat) ∘ λ(k:Nat)=>s+(k:Int))=List.range M:=by
   conv=>rhs;rw[<- map_id (List.range M)]
   apply bI
   intro k _;show(s+(k:Int)-s).toNat=k;omega
  rw[e]at this;exact this
section
variable {B:Hx}
def Hj (h:qW t)(a:ρ[i]? =some (some (zI t))):mQ yK (zO 1 [] (qo (zH i)) (zF 0) zY (zL (mQ yK (qi zm)))) ρ A=.ok (.int (yC t-1)) A:=by
 have n8:=h.n8;have e:=Tq (cap:=[]) (A:=A) (ρ:=ρ) (o:=t) (f:=zU) (m:=zH i) (me:=mQ yK (qi zm)) (G:=λr=>.int (kS r)) (zq a) (by unfold qa;omega) (λr H=>(yG (kA (w:=zU r) (ws:=r.map W.int) (A1:=A) (zq rfl) rfl)).trans (Sh (h.row_ne H)))
 have em:(t.map λr=>W.int (kS r))=(t.map kS).map W.int:=by rw[aO];rfl
 rw[em]at e;refine((yG e).trans (Sh h.map_ne)).trans ?_
 have:yC t-1=kS (t.map kS):=by unfold yC;omega
 rw[this]
def NN {ma mb:Ev}{M:Nat}(H:ma ρ A=.ok (.int 1) A)(h:mb ρ A=.ok (.int (1+(M:Int))) A)(a:M<=100):JX ma mb ρ A=.ok (.ref A.length) (A++[.lst (((List.range M).map λ(k:Nat)=>1+(k:Int)).map W.int)]):=by
 unfold JX;rw[H,zD,h,zD];dsimp only;have e:(1+(M:Int)-1).toNat=M:=by omega
 rw[ag (by
  have s1:jN 1=true:=by decide
  have s2:jN (1+(M:Int))=true:=by unfold jN;simp;omega
  rw[s1,s2,e,ax (by unfold qa;omega)];rfl),e,aO]
 rfl
def Known (t:bL):Prop:=∃i p o,i<34/\p.Perm (List.range (yC (yk (kr i))-1).toNat)/\o.Perm (List.range (yk (kr i)).length)/\t=ZX (yk (kr i)) p o
def HG (s:qL 0 [o]):∃t B,YQ [.ref 0] [o]=.ok (zI t) B/\qL 0 B/\qW t/\Known t:=by
 obtain⟨i,hi,r,B0,e0,s0,Y⟩:=Hl s;obtain⟨tt,sq,q⟩:=Fj hi;have hlen:(yk (kr i)).length=(kr i).length:=by unfold yk;rw[ah]
 have m1:=tt.n1;have m8:=tt.n8;obtain⟨B1,e1,x1⟩:=Se (by omega) (by omega) sq q Y
 have s1:=s0.ext x1;generalize K:yk (kr i)=u at*;clear hlen Y;have n1:=tt.n1;have n8:=tt.n8;have kb:=Ru tt;obtain⟨M,hM⟩:=a8 (show 0<=yC u-1 by omega)
 have el:=KI (ws:=u.map zU) (ρ:=[some (.ref 0),some (zI u),none,none]) (i:=1) (A:=B1) rfl;rw[ah]at el;have e2:=Ur el (by omega)
 have S:iL (List.range u.length)=((List.range u.length).map λ(a:Nat)=>0+(a:Int)).map W.int:=by
  rw[aO]
  apply bI
  intro a _;show W.int (a:Int)=W.int (0+(a:Int));rw[bD]
 rw[S]at e2;have s2:=s1.ext (Ext.one (o:=.lst (((List.range u.length).map λ(a:Nat)=>0+(a:Int)).map W.int)));obtain⟨j,h,fd,e3,U,p2,k2,N⟩:=TH s2 qJ (by simp;omega)
 obtain⟨d,rfl,po⟩:=UZ p2;have Q:(d.map λ(k:Nat)=>(0:Int)+(k:Int))=d.map λ(k:Nat)=>(k:Int):=bI λa _=>by omega
 rw[Q]at U;have X:zQ QQ (zi zm (zi (Qm (mQ qG (qi zu))) zo)) [some (.ref 0),some (zI u),none,none] B1=.ok (.ref j) h:=(jq (qg (zq (i:=0) rfl) (qg e2 qK))).trans e3;have hr20:0<j:=by have:=s1.lt;simp at N;omega
 have e4:z8 (zi qO zo) [some (.ref 0),some (zI u),some (.ref j),none] h=.ok (.ref h.length) (h++[.lst [.int 0]]):=jX (qg qb qK);have s3:=k2.st.ext (Ext.one (o:=.lst [.int 0]));have C:=jx (u:=.lst [.int 0]) U;have Z:(h++[.lst [.int 0]])[h.length]? =some (.lst [.int 0]):=qJ;have h2l:=Za U;have hB2:0<h.length:=by omega
 generalize h++[.lst [.int 0]]=B3 at e4 s3 C Z;have D:=Hj tt (ρ:=[some (.ref 0),some (zI u),some (.ref j),none]) (i:=1) (A:=B3) rfl;rw[hM]at D;have e5:=NN (ρ:=[some (.ref 0),some (zI u),some (.ref j),none]) (A:=B3) (M:=M) (ma:=zy (.int 1)) (mb:=zc qf qj (mQ yK (zO 1 [] (qo zu) (zF 0) zY (zL (mQ yK (qi zm)))))) qb ((zJ qb D).trans rfl) (by omega)
 have s4:=s3.ext (Ext.one (o:=.lst (((List.range M).map λ(k:Nat)=>1+(k:Int)).map W.int)));obtain⟨r3,f,fd3,e6,h3,p3,k3,nw3⟩:=TH s4 qJ (by simp;omega)
 obtain⟨P,rfl,pp⟩:=UZ p3;have z:=k3.kp.get (jx C) (by omega)
 have J:=k3.kp.get (jx Z) (by omega)
 have E:zc qf (z8 (zi qO zo)) (zQ QQ (zi zm (zi (JX qj (zc qf qj (mQ yK (zO 1 [] (qo zu) (zF 0) zY (zL (mQ yK (qi zm))))))) zo))) [some (.ref 0),some (zI u),some (.ref j),none] h=.ok (.ref f.length) (f++[.lst ((j8 P).map W.int)]):=by
  refine(zJ e4 ((jq (qg (zq (i:=0) rfl) (qg e5 qK))).trans e6)).trans ((JQ J h3 ?_).trans rfl)
  have:=pp.length_eq
  rw[bf]at this;rw[ah,ah,this];unfold qa;simp;omega
 have T:=jx (u:=.lst ((j8 P).map W.int)) z;have h6:(f++[.lst ((j8 P).map W.int)])[f.length]? =some (.lst ((j8 P).map W.int)):=qJ;have s5:=k3.st.ext (Ext.one (o:=.lst ((j8 P).map W.int)));generalize hB5:f++[.lst ((j8 P).map W.int)]=c at E T h6 s5;have hol:d.length=u.length:=by rw[po.length_eq,bf]
 have n:∀a∈d,a<u.length:=λa x=>ck.mp (po.mem_iff.mp x);have hpl:P.length=M:=by rw[pp.length_eq,bf]
 have y:(yC u-1).toNat=M:=by omega
 have res:=Ml tt (p:=P) (o:=d) (by rw[y];exact pp) po
 refine⟨ZX u P d,c,?_,s5,res.1,i,P,d,hi,by rw[K,y];exact pp,by rw[K];exact po,by rw[K]⟩
 unfold YQ;refine ji ?_;unfold VT;refine(zK ((qw ((jq (qg ((jq (qg (zq (i:=0) rfl) qK)).trans e0) qK)).trans e1)).trans rfl)).trans ((zK ((qw X).trans rfl)).trans ((zK ((qw E).trans rfl)).trans (qm (ja ?_))));have inner:∀a,a∈d->∀b,b∈d->zc zA zZ (zc zA (zc zA zW zu) zm) [some (.int (b:Int)),some (.int (a:Int)),some (zI u),some (.ref f.length)] c=.ok (.int ((j8 P).getD (at2 u a b).toNat 0)) c:=λa x b q=>by
  have L:=n a x;have I:=n b q;have bd:=RK tt L I;have kg:=SK tt L I;obtain⟨v,H⟩:=a8 bd.1;have e:zc zA (zc zA zW zu) zm [some (.int (b:Int)),some (.int (a:Int)),some (zI u),some (.ref f.length)] c=.ok (.int (v:Int)) c:=by
   rw[<- H];exact(zJ ((zJ (zq rfl) (zq rfl)).trans (Kr L)) (zq rfl)).trans (Km (by rw[tt.sq _ (kK L)];exact I))
  have l:v<(j8 P).length:=by
   show v<(P.map _).length+1;rw[ah];omega
  refine(zJ (zq (i:=3) rfl) e).trans (wb h6 ?_);rw[H,aM,aw,aa l,ae,aa l]
  rfl
 have ec:=GA (cap:=[1,2,3]) (m:=zH 2) (me:=mQ yN (zO 1 [0,1,3] (qo zW) (zF 0) zY (zL (zc zA zZ (zc zA (zc zA zW zu) zm))))) (ρ:=[some (.ref 0),some (zI u),some (.ref j),some (.ref f.length)]) (A:=c) (g:=Vg λa=>zU (d.map λb=>(j8 P).getD (at2 u a b).toNat 0)) (zq rfl) T (by simp;unfold qa;omega) (λw hw=>by
  obtain⟨v,H,rfl⟩:=cf.mp hw;obtain⟨a,x,rfl⟩:=cf.mp H;have ei:=GA (cap:=[0,1,3]) (m:=zH 2) (me:=zc zA zZ (zc zA (zc zA zW zu) zm)) (ρ:=[some (.int (a:Int)),some (zI u),some (.ref j),some (.ref f.length)]) (A:=c) (g:=Vg λb=>.int ((j8 P).getD (at2 u a b).toNat 0)) (zq rfl) T (by simp;unfold qa;omega) (λw hw=>by
   obtain⟨v,H,rfl⟩:=cf.mp hw;obtain⟨b,q,rfl⟩:=cf.mp H;refine(inner a x b q).trans ?_;show _=R.ok (W.int ((j8 P).getD (at2 u a (Int.toNat (b:Int))).toNat 0)) c;rw[aM])
  rw[Sd]at ei;refine(Jc ei).trans ?_;show _=R.ok (zU (d.map λb=>(j8 P).getD (at2 u (Int.toNat (a:Int)) b).toNat 0)) c;rw[aM];unfold zU;rw[aO]
  rfl)
 rw[Sd]at ec;refine(Jc ec).trans ?_;unfold zI ZX;rw[aO]
 rfl
def II (s:qL n A):∃t B,QV [.ref n] A=.ok (zI t) B/\qW t/\Known t/\Kn n A B/\B.length=A.length:=by
 obtain⟨c,b,a,f,g⟩:=s;have hm:=Za a;obtain⟨t,A1,e,⟨C,d,E,h,H⟩,T,kn⟩:=HG (o:=.lst [.int c,.bl b]) ⟨c,b,rfl,f,g⟩;refine⟨t,A.set n (.lst [.int C,.bl d]),?_,T,kn,⟨Kp.set,C,d,aH hm,h,H⟩,length_set ..⟩;unfold QV;exact TR a rfl e E (Q8 t)
end
structure LM (N b0 r:Nat)(μ:Nat->Nat->Int)(C:Hx):Prop where
 top:C[r]? =some (.lst ((List.range N).map λi=>W.ref (b0+i)))
 row:∀i,i<N->C[b0+i]? =some (.lst ((List.range N).map λj=>W.int (μ i j)))
 lt:b0+N<=r
 pos:0<b0
 st:qL 0 C
structure Sy (N:Nat)(μ:Nat->Nat->Int):Prop where
 dg:∀a b,a<N->b<N->(μ a b=0↔a=b)
 sy:∀a b,a<N->b<N->μ a b=μ b a
 lo:∀a b,a<N->b<N->0<=μ a b/\μ a b<(N:Int)
section
variable {N b0 r a b:Nat}{C:Hx}
def Sy.step (h:Sy N μ)(l:a<N)(g:b<N)(f:a≠b){k:Int}(k1:1<=k)(k2:k<(N:Int)):Sy N (gT (gT μ a b k) b a k):=by
 have at_:∀i j,gT (gT μ a b k) b a k i j=if (i=b/\j=a)∨(i=a/\j=b) then k else μ i j:=λi j=>by
  unfold gT
  by_cases e:i=b/\j=a
  ·rw[ag e,ag (.inl e)]
  ·rw[ar e]
   by_cases Q:i=a/\j=b
   ·rw[ag Q,ag (.inr Q)]
   ·rw[ar Q,ar (by rintro(z|z);exact e z;exact Q z)]
 refine⟨λi j d H=>?_,λi j d H=>?_,λi j d H=>?_⟩
 ·rw[at_]
  by_cases q:(i=b/\j=a)∨(i=a/\j=b)
  ·rw[ag q]
   constructor
   ·intro z;omega
   ·intro z;omega
  ·rw[ar q];exact h.dg i j d H
 ·rw[at_,at_]
  by_cases q:(i=b/\j=a)∨(i=a/\j=b)
  ·rw[ag q,ag (by rcases q with ⟨c,Z⟩|⟨c,Z⟩;exact .inr ⟨Z,c⟩;exact .inl ⟨Z,c⟩)]
  ·rw[ar q,ar (by rintro(⟨c,Z⟩|⟨c,Z⟩);exact q (.inr ⟨Z,c⟩);exact q (.inl ⟨Z,c⟩))]
   exact h.sy i j d H
 ·rw[at_]
  by_cases q:(i=b/\j=a)∨(i=a/\j=b)
  ·rw[ag q];omega
  ·rw[ar q];exact h.lo i j d H
def Fy {g:Nat->Int}{k:Int}(h:b<N):((List.range N).map λj=>W.int (g j)).set b (.int k)=(List.range N).map λj=>W.int (if j=b then k else g j):=by
 apply ext_getElem?
 intro i
 by_cases hi:i<N
 ·by_cases q:b=i
  ·subst q
   rw[aH (by simpa using hi),aw,ba hi]
   simp
  ·rw[aJ q,aw,aw,ba hi]
   simp[Ne.symm q]
 ·rw[aL (by simp;omega),aL (by simp;omega)]
theorem LM.put (h:LM N b0 r μ C)(g:a<N)(f:b<N)(k:Int):∃d,ki (.ref (b0+a)) (.int (b:Int)) (.int k) C=.ok () d/\LM N b0 r (gT μ a b k) d:=by
 have c:=h.row a g;have H:=Za c;have n:=h.lt;have l:=h.pos;refine⟨_,Hz c (by simp;omega),?_,λi e=>?_,n,l,h.st.put (by omega)⟩
 ·rw[aJ (by omega)];exact h.top
 ·by_cases q:i=a
  ·subst q
   rw[aH H,Fy f]
   congr 3
   funext j
   unfold gT
   by_cases z:j=b
   ·rw[ag z,ag ⟨rfl,z⟩]
   ·rw[ar z,ar (by rintro⟨_,w⟩;exact z w)]
  ·rw[aJ (by omega),h.row i e]
   congr 3
   funext j
   unfold gT;rw[ar (by rintro⟨w,_⟩;exact q w)]
def LM.kn {c:Hx}(h:LM N b0 r μ C)(k:Kn 0 C c):LM N b0 r μ c:=by
 have b:=h.lt;have a:=h.pos;exact⟨k.kp.get h.top (by omega),λi H=>k.kp.get (h.row i H) (by omega),b,a,k.st⟩
def LM.ix (h:LM N b0 r μ C){m:Ev}(hm:m ρ C=.ok (.ref r) C)(H:ρ[i]? =some (some (.int (a:Int))))(b:a<N):zc zA m (zH i) ρ C=.ok (.ref (b0+a)) C:=
 (zJ hm (zq H)).trans (wb h.top (by rw[aw,ba b];rfl))
def LM.ix2 (h:LM N b0 r μ C){m:Ev}(hm:m ρ C=.ok (.ref r) C)(d:ρ[i]? =some (some (.int (a:Int))))(c:ρ[j]? =some (some (.int (b:Int))))(H:a<N)(e:b<N):zc zA (zc zA m (zH i)) (zH j) ρ C=.ok (.int (μ a b)) C:=
 (zJ (h.ix hm d H) (zq c)).trans (wb (h.row a H) (by rw[aw,ba e];rfl))
abbrev Vh (me:Ev)(rest:Ex):Ex:=zl (kN ki (zc qf qj (zQ yb (zi zm (zi me zo)))) (zc zA zW qT) jF) (zl (kN ki (zc zA (zc zA zW qT) jF) (zc zA zW jF) qT) rest)
def TK (h:LM N b0 r μ C)(q:Sy N μ)(d:a<N)(H:b<N)(f:a≠b)(h0:ρ[0]? =some (some (.ref 0)))(j:ρ[2]? =some (some (.ref r)))(i:ρ[4]? =some (some (.int (a:Int))))(g:ρ[5]? =some (some (.int (b:Int)))){m:Int}(hm:me ρ C=.ok (.int m) C)(m1:0<m)(m2:m<(N:Int))(x:N<=8)(rest:Ex):
  ∃c p,Vh me rest ρ C=rest ρ p/\LM N b0 r c p/\Sy N c:=by
 obtain⟨k,e,u,v,k1,_⟩:=wa h.st h0 hm m1 (by omega)
 have L:=h.kn k1;obtain⟨n,t,l⟩:=L.put d H (1+(k:Int));obtain⟨o,E,s⟩:=l.put H d (1+(k:Int));refine⟨_,o,?_,s,q.step d H f (by omega) (by omega)⟩
 refine(zK (ρ1:=ρ) (A1:=n) ?_).trans (zK (ρ1:=ρ) (A1:=o) ?_)
 ·unfold kN
  rw[(zJ (qb (w:=.int 1)) u).trans (show qf (.int 1) (.int (k:Int)) e=.ok (.int (1+(k:Int))) e from rfl),zD,L.ix (zq j) i d,zD,(show jF ρ e=.ok (.int (b:Int)) e from zq g),zD,t,zD]
 ·have ev:gT μ a b (1+(k:Int)) a b=1+(k:Int):=by unfold gT;rw[ag ⟨rfl,rfl⟩]
  unfold kN;rw[l.ix2 (zq j) i g d H,zD,l.ix (zq j) g H,zD,(show qT ρ n=.ok (.int (a:Int)) n from zq i),zD,ev,E,zD]
def LM.ll (h:LM N b0 r μ C):LL (yz N μ) r C:=by
 refine⟨(List.range N).map λi=>b0+i,by rw[h.top,aO];rfl,by rw[Y1];simp,λi H=>?_⟩
 rw[Y1]at H;have E:((List.range N).map λi=>b0+i).getD i 0=b0+i:=by rw[ae,aw,ba H];rfl
 have e:(yz N μ).getD i []=(List.range N).map (μ i):=by unfold yz;rw[ae,aw,ba H];rfl
 rw[E,e,h.row i H,aO]
 rfl
def LM.fin (h:LM N b0 r μ C)(q:Sy N μ)(n1:1<=N)(n8:N<=8)(f:ρ[2]? =some (some (.ref r))):∃u B,zQ Qc (zi zW zo) ρ C=.ok (zI u) B/\qW u/\qL 0 B:=by
 have l:=Y1 (n:=N) (μ:=μ);have H:∀v∈(yz N μ).flatten,0<=v/\v<(N:Int):=λv d=>by
  obtain⟨a,b,c,H,rfl⟩:=Qn GK d;rw[l]at c H;rw[ZK c H];exact q.lo a b c H
 obtain⟨B,e,x⟩:=Se (t:=yz N μ) (by omega) (by omega) GK (λv d=>by have:=H v d;omega) h.ll
 refine⟨_,B,(jq (qg (zq f) qK)).trans e,Ms (by omega) (by omega) GK ?_ ?_ ?_,h.st.ext x⟩
 ·intro a b c H;rw[l]at c H;rw[ZK c H];exact q.dg a b c H
 ·intro a b c H;rw[l]at c H;rw[ZK c H,ZK H c];exact q.sy a b c H
 ·intro a b c H;rw[l]at c H ⊢;rw[ZK c H];exact q.lo a b c H
def Fv {B:Hx}(h:qW t)(s:qL 0 B):LM t.length B.length (B.length+t.length) (at2 t) (B++(t.map λr=>O.lst (r.map W.int))++[O.lst ((List.range t.length).map λi=>W.ref (B.length+i))])/\Sy t.length (at2 t):=by
 refine⟨⟨Gw,λi H=>?_,au _,s.lt,s.ext ⟨(t.map λr=>O.lst (r.map W.int))++[O.lst ((List.range t.length).map λi=>W.ref (B.length+i))],by rw[aP]⟩⟩,h.dg,h.sy,λa b f e=>?_⟩
 ·rw[GU H]
  congr 2
  have d:=h.sq _ (kK H)
  have:=Qa (t.getD i []) 0 W.int
  rw[this,d]
  rfl
 ·obtain⟨c,j,g,_⟩:=JZ h.sq f e
  exact h.lo c j _ g
noncomputable abbrev eW (w r N:Nat)(l:En):En:=some (.ref 0)::some (.int (w:Int))::some (.ref r)::some (.int (N:Int))::l
def HI (s:qL 0 [o]):∃t B,YI [.ref 0] [o]=.ok (zI t) B/\qL 0 B/\qW t:=by
 unfold YI;unfold VN;obtain⟨way,Q,e0,hw,k0,_⟩:=wa (ρ:=[some (.ref 0),none,none,none,none,none,none]) (me:=zy (.int 3)) s rfl qb (by decide:(0:Int)<3) (by decide)
 have go:∀m2:Ex,zl (zN 1 (zQ yb (zi zm (zi jT zo)))) m2 [some (.ref 0),none,none,none,none,none,none] [o]=m2 [some (.ref 0),some (.int (way:Int)),none,none,none,none,none] Q:=λm2=>zK ((qw e0).trans rfl);obtain⟨t,x,e1,E,_,k1,_⟩:=II k0.st;have n1:=E.n1;have n8:=E.n8;have M:zc qX zu qO [some (.ref 0),some (.int (way:Int)),none,none,none,none,none] Q=.ok (.bl (decide ((way:Int)=0))) Q:=(zJ (zq rfl) qb).trans (Z5 _ _ _);have ek:zQ QV (zi zm zo) [some (.ref 0),some (.int (way:Int)),none,none,none,none,none] Q=.ok (zI t) x:=(jq (qg (zq rfl) qK)).trans e1
 by_cases q0:(way:Int)=0
 ·rw[ax q0]at M
  exact⟨t,x,ji ((go _).trans (qm ((yH M).trans (qm (ja ek))))),k1.st,E⟩
 ·rw[ay q0]at M
  have er:=Um (B:=x) n8 E.sq ek;obtain⟨lm,sy⟩:=Fv E k1.st;generalize x++(t.map λr=>O.lst (r.map W.int))++[O.lst ((List.range t.length).map λi=>W.ref (x.length+i))]=C at er lm;generalize x.length+t.length=r at er lm;generalize x.length=b0 at lm;generalize at2 t=μ at lm sy;generalize hN:t.length=N at lm sy n1 n8;have J:mQ qG (qi zW) [some (.ref 0),some (.int (way:Int)),some (.ref r),none,none,none,none] C=.ok (.int (N:Int)) C:=by
   rw[yG (kA (w:=.ref r) (A1:=C) (zq rfl) (by unfold zS;dsimp only;rw[lm.top]))]
   unfold qG;simp
  have go2:∀m1 m2:Ex,zl (zN 1 (zQ yb (zi zm (zi jT zo)))) (zl (qB (zc qX zu qO) m1 zB) (zl (zN 2 (qh (zO 1 [] (qo (zQ QV (zi zm zo))) (zF 0) zY (zL (qh (qi zm)))))) (zl (zN 3 (mQ qG (qi zW))) m2))) [some (.ref 0),none,none,none,none,none,none] [o]=m2 (eW way r N [none,none,none]) C:=λm1 m2=>
   (go _).trans ((zK ((yd M).trans jM)).trans ((zK ((qw er).trans rfl)).trans (zK ((qw J).trans rfl))))
  have P:kh (zc qX zu qj) (zc Jz zZ qj) (eW way r N [none,none,none]) C=.ok (.bl (decide ((way:Int)=1)&&decide ((1:Int)<(N:Int)))) C:=by
   have e:zc qX zu qj (eW way r N [none,none,none]) C=.ok (.bl (decide ((way:Int)=1))) C:=(zJ (zq rfl) qb).trans (Z5 _ _ _)
   by_cases z:(way:Int)=1
   ·rw[ax z]at e ⊢
    exact(Ze e).trans ((zJ (zq rfl) qb).trans rfl)
   ·rw[ay z]at e ⊢
    exact Jd e
  cases hd:(decide ((way:Int)=1)&&decide ((1:Int)<(N:Int))) with
  |true=>
   rw[hd]at P;have hN2:2<=N:=by
    rw[aj,ak,ak]at hd;omega
   obtain⟨a,d,K,ha,k2,_⟩:=wa (ρ:=(eW way r N [none,none,none])) (me:=zH 3) lm.st rfl (zq rfl) (by omega:(0:Int)<(N:Int)) (by omega)
   obtain⟨q,C2,e3,hq,k3,_⟩:=wa (ρ:=(eW way r N [some (.int (a:Int)),none,none])) (me:=zc yS zZ qj) (m:=(N:Int)-1) k2.st rfl ((zJ (zq rfl) qb).trans rfl) (by omega) (by omega)
   have U:=(lm.kn k2).kn k3;have hb:(a+1+q)%N<N:=Nat.mod_lt _ (by omega)
   have hab:a≠(a+1+q)%N:=by
    intro z
    by_cases g:a+1+q<N
    ·rw[Nat.mod_eq_of_lt g]at z;omega
    ·rw[Nat.mod_eq_sub_mod (by omega),Nat.mod_eq_of_lt (by omega)]at z
     omega
   have e4:zc kF (zc qf (zc qf qT qj) (zQ yb (zi zm (zi (zc yS zZ qj) zo)))) zZ (eW way r N [some (.int (a:Int)),none,none]) d=.ok (.int (((a+1+q)%N:Nat):Int)) C2:=by
    refine(zJ ((zJ ((zJ (zq rfl) qb).trans (show qf (.int (a:Int)) (.int 1) d=.ok (.int ((a:Int)+1)) d from rfl)) e3).trans (show qf (.int ((a:Int)+1)) (.int (q:Int)) C2=.ok (.int ((a:Int)+1+(q:Int))) C2 from rfl)) (zq (i:=3) rfl)).trans ((Qr (by omega)).trans ?_)
    congr 2
   obtain⟨c,C3,e5,L,S⟩:=TK (ρ:=(eW way r N [some (.int (a:Int)),some (.int (((a+1+q)%N:Nat):Int)),none])) (me:=zc yS zZ qj) (m:=(N:Int)-1) U sy (by omega) hb hab rfl rfl rfl rfl ((zJ (zq rfl) qb).trans rfl) (by omega) (by omega) n8 (zl (qF (zQ Qc (zi zW zo))) zB)
   obtain⟨u,B,e6,Y,sB⟩:=L.fin S n1 n8 (ρ:=(eW way r N [some (.int (a:Int)),some (.int (((a+1+q)%N:Nat):Int)),none])) rfl;refine⟨u,B,ji ((go2 _ _).trans (qm ((yH P).trans ?_))),sB,Y⟩;exact(zK ((qw K).trans rfl)).trans ((zK ((qw e4).trans rfl)).trans (e5.trans (qm (ja e6))))
  |false=>
   rw[hd]at P;have xo:Ext C (C++[.lst [.int 2,.int 3,.int 1]]):=Ext.one;obtain⟨j,d,K,hj,k2,_⟩:=wa (ρ:=(eW way r N [none,none,none])) (me:=zy (.int 3)) (lm.st.ext xo) rfl qb (by decide:(0:Int)<3) (by decide)
   have X:LM N b0 r μ d:=(lm.kn (Kn.ext lm.st xo)).kn k2;obtain⟨f,hf1,ef⟩:∃f:Int,1<=f/\zc zA (z8 (zi qU (zi jT (zi qj zo)))) (zQ yb (zi zm (zi jT zo))) (eW way r N [none,none,none]) C=.ok (.int f) d:=by
    have v:=k2.kp.get (qJ (A:=C)) (by have:=lm.st.lt;omega)
    have Z:j<3:=by omega
    rcases three Z with rfl|rfl|rfl
    ·exact⟨2,by decide,(zJ (jX rfl) K).trans (wb v rfl)⟩
    ·exact⟨3,by decide,(zJ (jX rfl) K).trans (wb v rfl)⟩
    ·exact⟨1,by decide,(zJ (jX rfl) K).trans (wb v rfl)⟩
   have rng:∀(i:Nat)(ρ:En)(D:Hx)(k:Nat),k<=8->ρ[i]? =some (some (.int (k:Int)))->jg (zH i) ρ D=.ok (yP 0 k) D:=λi ρ D k hk h=>by
    have:=JU (m:=zH i) (A:=D) (zq h) (Gf (n:=k) (by omega))
    rw[aM]at this;exact this
   obtain⟨T,D,e3,⟨c,L,S⟩,y4,y5,H⟩:=YS (j:=yP 0 N) (st:=turn (zF 4) (zl (yT (jg qT) (zF 5) (Vh (zc ZW yg (zc yS zZ qj)) zB)) zB)) (N:=N)
    (I:=λ_ ρ D=>(∃μ,LM N b0 r μ D/\Sy N μ)/\∃y4 y5,ρ=(eW way r N [y4,y5,some (.int f)]))
    (λa ρ D ha ⟨⟨μ,lm,sy⟩,y4,y5,H⟩=>by
     subst H;obtain⟨T,D',e,⟨c,p,l⟩,y5',y⟩:=YS (j:=yP 0 a) (st:=turn (zF 5) (Vh (zc ZW yg (zc yS zZ qj)) zB)) (N:=a)
      (I:=λ_ ρ D=>(∃μ,LM N b0 r μ D/\Sy N μ)/\∃y5,ρ=(eW way r N [some (.int (a:Int)),y5,some (.int f)]))
      (λb ρ D hb ⟨⟨μ,lm,sy⟩,y5,H⟩=>by
       subst H;have em:zc ZW yg (zc yS zZ qj) (eW way r N [some (.int (a:Int)),some (.int (b:Int)),some (.int f)]) D=.ok (.int (if (N:Int)-1<f then(N:Int)-1 else f)) D:=(zJ (zq rfl) ((zJ (zq rfl) qb).trans rfl)).trans rfl;obtain⟨c,D',e,p,l⟩:=TK (ρ:=(eW way r N [some (.int (a:Int)),some (.int (b:Int)),some (.int f)])) lm sy ha (by omega:b<N) (by omega) rfl rfl rfl rfl em (by split<;>omega) (by split<;>omega) n8 zB
       refine⟨_,_,D',ZV hb,(kM (ρ1:=(eW way r N [some (.int (a:Int)),some (.int (b:Int)),some (.int f)])) ?_).trans e,⟨c,p,l⟩,_,rfl⟩;rw[bD];rfl)
      (λρ D _=>ZJ (by omega)) a 0 (eW way r N [some (.int (a:Int)),y5,some (.int f)]) D (by omega) ⟨⟨μ,lm,sy⟩,_,rfl⟩
     subst y;refine⟨_,_,D',ZV ha,(kM (ρ1:=(eW way r N [some (.int (a:Int)),y5,some (.int f)])) ?_).trans ((zK ((wG (rng 4 _ D a (by omega) rfl)).trans e)).trans jM),⟨c,p,l⟩,_,_,rfl⟩
     rw[bD];rfl)
    (λρ D _=>ZJ (by omega)) N 0 (eW way r N [none,none,some (.int f)]) d (by omega) ⟨⟨μ,X,sy⟩,_,_,rfl⟩
   subst H;obtain⟨u,B,e6,Y,sB⟩:=L.fin S n1 n8 (ρ:=(eW way r N [y4,y5,some (.int f)])) rfl;refine⟨u,B,ji ((go2 _ _).trans ((zK ((yd P).trans jM)).trans ((zK ((qw ef).trans rfl)).trans ((zK ((wG (rng 3 _ d N n8 rfl)).trans e3)).trans (qm (ja e6)))))),sB,Y⟩
def F4 (s:qL n A):∃t B,Qb [.ref n] A=.ok (zI t) B/\qW t/\Kn n A B:=by
 obtain⟨c,b,a,f,g⟩:=s;have hm:=Za a;obtain⟨t,A1,e,⟨C,d,E,h,H⟩,T⟩:=HI (o:=.lst [.int c,.bl b]) ⟨c,b,rfl,f,g⟩;refine⟨t,A.set n (.lst [.int C,.bl d]),?_,T,⟨Kp.set,C,d,aH hm,h,H⟩⟩;unfold Qb;exact TR a rfl e E (Q8 t)
end
def Me {c:En}{j:jv}{N:Nat}{u v g:Nat->W}(t:∀i,i<N->j.at_ A i=some (some (.tup [u i,v i])))(H:j.at_ A N=some none)(he:∀i,i<N->me (some (u i)::some (v i)::c) A=.ok (g i) A):
  ∀(f i:Nat)(x y:Option W)(acc:List W),i+f=N->acc.length+f<=qa->∃ρ,ju j (wN 0 1) (zy (.bl true)) (zL me) f i (x::y::c) acc A=.ok (ρ,acc++(List.range' i f).map g) A:=by
 intro f
 induction f with
 |zero=>
  intro i x y acc h l
  have:i=N:=by omega
  subst this;refine⟨x::y::c,?_⟩;unfold ju;rw[H];simp
 |succ f I=>
  intro i x y acc h l;obtain⟨ρ,e⟩:=I (i+1) (some (u i)) (some (v i)) (acc++[g i]) (by omega) (by rw[aD,a5];omega)
  refine⟨ρ,?_⟩;rw[ju,t i (by omega)]
  dsimp only;rw[show wN 0 1 (.tup [u i,v i]) (x::y::c)=some (some (u i)::some (v i)::c) from rfl]
  dsimp only[zy];rw[zD];dsimp only;have E:zL me (some (u i)::some (v i)::c) acc A=.ok (some (u i)::some (v i)::c,acc++[g i]) A:=by
   unfold zL;rw[he i (by omega),zD,ag (by omega)]
  rw[E,zD];rw[e,aP,range'_succ,aU]
  rfl
def O3 {j:jv}{N:Nat}{u v g:Nat->W}(hm:mi ρ A=.ok j A)(b:j.len=N)(d:N<=1000)(H:∀i,i<N->j.at_ A i=some (some (.tup [u i,v i])))(h:j.at_ A N=some none)
  (he:∀i,i<N->me (some (u i)::some (v i)::cap.map λi=>(ρ[i]?).join) A=.ok (g i) A):zO 2 cap mi (wN 0 1) zY (zL me) ρ A=.ok ((List.range N).map g) A:=by
 obtain⟨a,e⟩:=Me (A:=A) (c:=cap.map λi=>(ρ[i]?).join) H h he N 0 none none [] (by omega) (by unfold qa;simp;omega)
 unfold zO;rw[hm,zD,b];show R.bind (R.nox (ju j _ _ _ N 0 (none::none::cap.map λi=>(ρ[i]?).join) [] A)) _=_;rw[e,<- range_eq_range',nil_append]
 rfl
def Qs {r:R α}{a:α}(h:r=.ok a A):r.nox=.ok a A:=by rw[h];rfl
def Hk {m:Ex}{w:W}(h:m (ws.map some++List.replicate (n-ws.length) none) A=.ok (.rt w) A1):Jq n m ws A=.ok w A1:=by unfold Jq;rw[h];rfl
def Y2 {m1 m2:Ex}(h:m1 ρ A=.exc x A1):zl m1 m2 ρ A=.exc x A1:=by unfold zl;rw[h,LB]
def UW {m:Ex}(h:m (ws.map some++List.replicate (n-ws.length) none) A=.exc x A1):Jq n m ws A=.exc x A1:=by unfold Jq;rw[h];rfl
def NI {a:Ea}{xs ys:List W}{r:Nat}{u e:Option W}(H:A[r]? =some (.lst xs))(h:a [u,e,none,some (.ref r)] A=.ok ys A)(l:xs.length+ys.length<=100):
  zN 3 (zc qf zZ (z8 a)) [u,e,none,some (.ref r)] A=.ok (.nx [u,e,none,some (.ref (A.length+1))]) (A++[.lst ys]++[.lst (xs++ys)]):=by
 refine(qw ((zJ (zq (i:=3) rfl) (jX h)).trans (JQ (jx H) qJ (by unfold qa;omega)))).trans ?_
 rw[aD,a5]
 rfl
def Kb {a:Ea}{xs ys zs:List W}{L:Hx}{u e:Option W}(c:L[j]? =some (.lst xs))(b:∀m A,a [u,e,none,m] A=.ok ys A)(H:xs.length+ys.length<=100)(h:xs++ys=zs):
  zN 3 (zc qf zZ (z8 a)) [u,e,none,some (.ref (A.length+j))] (A++L)=.ok (.nx [u,e,none,some (.ref (A.length+(L.length+1)))]) (A++(L++[.lst ys,.lst zs])):=by
 have d:(A++L)[A.length+j]? =some (.lst xs):=by rw[av (by omega),show A.length+j-A.length=j by omega];exact c
 rw[NI d (b _ _) H,h,aD,aP,aP,Nat.add_assoc]
 rfl
noncomputable def qd (i a n:Nat):List W:=(List.range' a n).map λk=>W.bl (decide (k=i))
section
def V0 (h:n<1000000):jN (n:Int)=true:=by
 unfold jN;rw[aj,ak,ak];omega
end
section
def Er (a:A[0]? =some (.ro (ns.map W.int)))(k:Nat):∃x:Int,YF [.ref 0,.int k] A=.ok (.int x) A:=by
 have H:zS (.ref 0) A=some (ns.map W.int):=by unfold zS;dsimp only;rw[a]
 have l:mQ qG (qi zm) [some (.ref 0),some (.int k)] A=.ok (.int ns.length) A:=by
  rw[yG (kA (w:=.ref 0) (A1:=A) (zq rfl) H)];unfold qG;rw[ah]
 have e:zc Zp zu (mQ qG (qi zm)) [some (.ref 0),some (.int k)] A=.ok (.bl (decide ((k:Int)<ns.length))) A:=(zJ (zq (w:=.int k) rfl) l).trans rfl
 by_cases h:k<ns.length
 ·refine⟨ns[k],ji ?_⟩
  unfold WH;rw[ax (by omega)]at e
  refine qm ((yH e).trans (qm (ja ?_)));refine(zJ (x:=.ref 0) (y:=.int k) (A1:=A) (A2:=A) (zq rfl) (zq rfl)).trans ?_;unfold zA;rw[H];dsimp only;rw[Kg (v:=.int ns[k]) (by rw[aw,aa h];rfl)]
 ·refine⟨0,ji ?_⟩
  unfold WH;rw[ay (by omega)]at e
  exact(zK ((yd e).trans rfl)).trans rfl
def HZ (H:A[0]? =some (.ro (ns.map W.int)))(k:Nat):∃o,QT [.ref 0,.int k] A=.ok (.ref A.length) (A++[o])/\qL A.length (A++[o]):=by
 obtain⟨x,e⟩:=Er H k;have a:zN 2 (zQ YF (zi zm (zi zu zo))) [some (.ref 0),some (.int k),none] A=.ok (.nx [some (.ref 0),some (.int k),some (.int x)]) A:=by
  refine(qw (w:=.int x) (A1:=A) ?_).trans rfl;rw[jq (ws:=[.ref 0,.int k]) (A1:=A) rfl];exact e
 have E:zc Va zW (zc We X2 (zy (.int 18))) [some (.ref 0),some (.int k),some (.int x)] A=.ok (.bl (decide ((1000000000000000000:Int)<=x))) A:=(zJ (x:=.int x) (y:=.int 1000000000000000000) (A1:=A) (A2:=A) (zq rfl) rfl).trans rfl
 by_cases h:(1000000000000000000:Int)<=x
 ·refine⟨.lst [.int (x-1000000000000000000),.bl true],ji ?_,x-1000000000000000000,true,qJ,by omega,λz=>nomatch z⟩
  unfold WO;rw[ax h]at E;refine(zK a).trans (qm ((yH E).trans (qm (ja (jX ?_)))))
  rfl
 ·refine⟨.lst [.int (x%2147483647),.bl false],ji ?_,x%2147483647,false,qJ,emod_nonneg _ (by decide),λ_=>bG _ (by decide)⟩
  unfold WO;rw[ay h]at E;refine(zK a).trans ((zK ((yd E).trans rfl)).trans (qm (ja (jX ?_))));refine qg (A1:=A) (A2:=A) ((zJ (x:=.int x) (y:=.int 2147483647) (A1:=A) (A2:=A) (zq rfl) rfl).trans (Qr (by decide))) rfl
end
def GX (i:Nat):Hx:=[.lst (qd i 0 3),.lst (qd i 3 3),.lst (qd i 0 6),.lst (qd i 6 3),.lst (qd i 0 9),.lst (qd i 9 3),.lst (qd i 0 12),.lst (qd i 12 3),.lst (qd i 0 15),.lst [.int i]]
noncomputable def gn (x:Str):Option Nat:=if x = "NoText" then some 12 else none
def Uj (h:gn x=some i):(x = "NoText" /\ i=12):=by
 unfold gn at h
 by_cases h0:x = "NoText"
 ·rw[ag h0]at h;cases h;exact⟨h0,rfl⟩
 ·rw[ar h0]at h;cases h
def Ib (a:gn x=some i)(u:W)(A:Hx):WE [some u,some (.xc x),none,none] A=.ok (.rt (.ref (A.length+9))) (A++GX i):=by
 have two:=Uj a;unfold WE;have d:∀(m:Option W)(A:Hx),(zi (qQ (jc qE "NoTable") zu) (zi (qQ (jc qE "NotSteady") zu) (zi (qQ (jc qE "NoPlace") zu) zo))) [some u,some (.xc x),none,m] A=.ok (qd i 0 3) A:=λm A=>by
  rcases two with ⟨rfl,rfl⟩<;>kernel_rfl
 have a1:∀(m:Option W)(A:Hx),(zi (qQ (jc qE "NoKind") zu) (zi (qQ (jc qE "NoMix") zu) (zi (qQ (jc qE "NoNumber") zu) zo))) [some u,some (.xc x),none,m] A=.ok (qd i 3 3) A:=λm A=>by
  rcases two with ⟨rfl,rfl⟩<;>kernel_rfl
 have a2:∀(m:Option W)(A:Hx),(zi (qQ (jc qE "NoLot") zu) (zi (qQ (jc qE "NoKinds") zu) (zi (qQ (jc qE "NoPaper") zu) zo))) [some u,some (.xc x),none,m] A=.ok (qd i 6 3) A:=λm A=>by
  rcases two with ⟨rfl,rfl⟩<;>kernel_rfl
 have c:∀(m:Option W)(A:Hx),(zi (qQ (jc qE "NoParting") zu) (zi (qQ (jc qE "NoClosed") zu) (zi (qQ (jc qE "TooMany") zu) zo))) [some u,some (.xc x),none,m] A=.ok (qd i 9 3) A:=λm A=>by
  rcases two with ⟨rfl,rfl⟩<;>kernel_rfl
 have b:∀(m:Option W)(A:Hx),(zi (qQ (jc qE "NoText") zu) (zi (qQ (jc qE "NoLine") zu) (zi (qQ (jc qE "NoDeed") zu) zo))) [some u,some (.xc x),none,m] A=.ok (qd i 12 3) A:=λm A=>by
  rcases two with ⟨rfl,rfl⟩<;>kernel_rfl
 have ap:∀n,qd i 0 n++qd i n 3=qd i 0 (n+3):=λn=>by
  unfold qd;rw[<- aX]
  congr 1
  have:=List.range'_append_1 (s:=0) (m:=n) (n:=3)
  rw[Nat.zero_add]at this;exact this
 have E:zN 3 (z8 (zi (qQ (jc qE "NoTable") zu) (zi (qQ (jc qE "NotSteady") zu) (zi (qQ (jc qE "NoPlace") zu) zo)))) [some u,some (.xc x),none,none] A=.ok (.nx [some u,some (.xc x),none,some (.ref (A.length+0))]) (A++[.lst (qd i 0 3)]):=(qw (jX (d _ A))).trans rfl;refine(zK E).trans ?_;refine(zK (Kb (A:=A) (L:=[.lst (qd i 0 3)]) (j:=0) (xs:=qd i 0 3) (ys:=qd i 3 3) (zs:=qd i 0 6) rfl a1 (by simp[qd]) (ap 3))).trans ?_
 refine(zK (Kb (A:=A) (L:=[.lst (qd i 0 3),.lst (qd i 3 3),.lst (qd i 0 6)]) (j:=2) (xs:=qd i 0 6) (ys:=qd i 6 3) (zs:=qd i 0 9) rfl a2 (by simp[qd]) (ap 6))).trans ?_
 refine(zK (Kb (A:=A) (L:=[.lst (qd i 0 3),.lst (qd i 3 3),.lst (qd i 0 6),.lst (qd i 6 3),.lst (qd i 0 9)]) (j:=4) (xs:=qd i 0 9) (ys:=qd i 9 3) (zs:=qd i 0 12) rfl c (by simp[qd]) (ap 9))).trans ?_
 refine(zK (Kb (A:=A) (L:=[.lst (qd i 0 3),.lst (qd i 3 3),.lst (qd i 0 6),.lst (qd i 6 3),.lst (qd i 0 9),.lst (qd i 9 3),.lst (qd i 0 12)]) (j:=6) (xs:=qd i 0 12) (ys:=qd i 12 3) (zs:=qd i 0 15) rfl b (by simp[qd]) (ap 12))).trans ?_
 generalize H:A++([.lst (qd i 0 3),.lst (qd i 3 3),.lst (qd i 0 6),.lst (qd i 6 3),.lst (qd i 0 9),.lst (qd i 9 3),.lst (qd i 0 12)]++[.lst (qd i 12 3),.lst (qd i 0 15)])=B;have l:B.length=A.length+9:=by rw[<- H];simp
 have hm:B[A.length+8]? =some (.lst (qd i 0 15)):=by rw[<- H,av (by omega),show A.length+8-A.length=8 by omega];rfl
 refine(zK (ρ1:=[some u,some (.xc x),none,some (.ref (A.length+8))]) (A1:=B) ((yd (A1:=B) (gh (k:=true) ?_)).trans rfl)).trans (qm (ja ?_))
 ·rcases two with ⟨rfl,rfl⟩<;>kernel_rfl
 have e:=Ug (cap:=[3]) (mi:=jg (zy (.int 15))) (j:=yP 0 15) (ifs:=zc zA zu zm) (me:=zH 0) (ρ:=[some u,some (.xc x),none,some (.ref (A.length+8))]) (A:=B) (N:=15) (item:=λk=>.int (0+(k:Int))) (g:=λk=>.int (0+(k:Int))) (keep:=λk=>decide (k=i)) rfl rfl (by unfold qa;omega) (λk h=>ZV h) (ZJ (by omega))
  (λk h=>by
   refine(zJ (zq (i:=1) (w:=.ref (A.length+8)) rfl) (zq (i:=0) (w:=.int (0+(k:Int))) rfl)).trans ?_;rw[bD];refine wb hm ?_;unfold qd;rw[aw,List.getElem?_range' (by omega)]
   simp) (λk h _=>rfl)
 rw[gf e,l];have hf:((List.range 15).filter λk=>decide (k=i)).map (λk:Nat=>W.int (0+(k:Int)))=[.int i]:=by
  rcases two with ⟨rfl,rfl⟩<;>rfl
 rw[hf,<- H,aP]
 rfl
def DZ (h:gn x=some i):qE.contains x=true:=by
 rcases Uj h with ⟨rfl,_⟩<;>decide +kernel
abbrev LS:List Lm:=gk ku
def RF (k:Nat)(ws:List W)(A:Hx):R W:=match yL LS k ws A with
 |.exc x A1=>(match gn x with
  |some i=>.ok (.ref (A1.length+9)) (A1++GX i)|none=>.bad)
 |_=>.bad
def Fu {PG:jy}(H:yL LS k ws A=.exc x A1)(h:gn x=some i):
  jk 4 (JG PG (yL LS)) [.clo k ws (PG k)] A=.ok (.ref (A1.length+9)) (A1++GX i):=by
 have E:K0 0 PG (yL LS) [some (.clo k ws (PG k)),some .non,none,none] A=.exc x A1:=by
  unfold K0;refine(ag rfl).trans H
 have e:Ym 0 1 2 qE PG (yL LS) [some (.clo k ws (PG k)),some .non,none,none] A=.ok (.nx [some (.clo k ws (PG k)),some (.xc x),none,none]) A1:=by
  unfold Ym;rw[E];dsimp only;rw[ag (DZ h)]
  rfl
 refine ji ?_;unfold JG;refine(zK (ρ1:=[some (.clo k ws (PG k)),some .non,none,none]) (A1:=A) rfl).trans ?_;exact(zK e).trans (Ib h _ A1)
def Xq (H:yL LS k ws A=.exc x A1)(h:gn x=some i):RF k ws A=.ok (.ref (A1.length+9)) (A1++GX i):=by
 unfold RF;rw[H];dsimp only;rw[h]
def ED {PG:jy}(us:List W)(A:Hx):Z2 PG RF us A=.bad∨jk 4 (JG PG (yL LS)) us A=Z2 PG RF us A:=by
 by_cases H:Z2 PG RF us A=.bad
 ·exact .inl H
 right
 unfold Z2 at H ⊢
 split
 ·rename_i k ws P
  dsimp only at H
  by_cases a:P=PG k
  ·subst a
   rw[ag rfl]at H ⊢;cases e:yL LS k ws A with
   |exc x A1=>
    cases hm:gn x with
    |none=>exfalso;apply H;unfold RF;rw[e];dsimp only;rw[hm]|some i=>rw[Fu e hm,Xq e hm]
   |ok w A1=>exfalso;apply H;unfold RF;rw[e]|bad=>exfalso;apply H;unfold RF;rw[e]
  ·rw[ar a]at H;exact absurd rfl H
 ·rename_i h
  exfalso
  apply H
  split
  ·rename_i k ws P
   exact(h k ws P rfl).elim
  ·rfl
section
def T4 {t:Lm}(h:ls[k]? =some t):yL ls k ws A=t.m (ws.map some) A:=by unfold yL;rw[h]
end
def V2:gn "NoText"=some 12:=by decide +kernel
section
variable {g:Nat}{t:Lm}{PF:jy}
def Tu (h:A[1]? =some (.tab jj Pt))(k:Nat):wm 1 jj Pt k (PF k) ρ A=.ok (.clo k [] (PF k)) A:=by
 unfold wm;rw[h];dsimp only;rw[ag ⟨rfl,rfl⟩]
def Nx (d:A[1]? =some (.tab jj Pt))(H:LS[k]? =some t)(c:gQ t.idx ρ=some ws)(a:yL LS k ws A=.exc x A)(h:gn x=some g):∃B,zc qx (gm LS PF (gN RF) (zi (wm 1 jj Pt k (PF k)) zo)) (z8 (zi (zy (.int (g:Int))) zo)) ρ A=.ok (.bl false) B/\Ext A B:=by
 have e:gm LS PF (gN RF) (zi (wm 1 jj Pt k (PF k)) zo) ρ A=.ok (.ref (A.length+9)) (A++GX g):=by
  unfold gm;rw[qg (Tu d k) qK,zD]
  have:wM LS PF ρ [.clo k [] (PF k)]=some [.clo k ws (PF k)]:=by
   unfold wM Jt;dsimp only;rw[ag rfl,H];dsimp only;rw[c]
   rfl
  rw[this];exact Xq a h
 have x1:Ext A (A++GX g):=⟨_,rfl⟩;have b:(A++GX g)[A.length+9]? =some (.lst [.int (g:Int)]):=by rw[av (by omega),show A.length+9-A.length=9 by omega];rfl
 refine⟨A++GX g++[.lst [.int (g:Int)]],(zJ e (jX (qg qb qK))).trans ((QM (l:=[(g:Int)]) (m:=[(g:Int)]) (jx b) qJ).trans ?_),x1.app⟩;rw[ax rfl]<;>rfl
end
section
variable {f:Fn}{us:List W}
def Mc (v:Int)(A:Hx):jk 2 (ZC f) [.int v,.int v] A=.ok (.bl true) A:=by
 refine ji ?_;unfold ZC;refine(zK (ρ1:=[some (.int v),some (.int v)]) (A1:=A) ((yd (A1:=A) rfl).trans rfl)).trans (qm (ja ?_));exact(Ze (A1:=A) ((zJ (zq (i:=0) rfl) (zq (i:=1) rfl)).trans ((Z5 _ _ _).trans (by rw[ax rfl])))).trans rfl
def Uz {x y:W}{ty:Ty}(H:zS x A=some ws)(h:zS y A=some ws)(T:jE x A=some ty)(t:jE y A=some ty)(b:ty=.tup∨ty=.lst)(l:ws.length<=1000)(hf:∀w∈ws,f [w,w] A=.ok (.bl true) A):jk 2 (ZC f) [x,y] A=.ok (.bl true) A:=by
 refine ji ?_;unfold ZC;have d:mQ qG (qi (zH 0)) [some x,some y] A=.ok (.int ws.length) A:=yG (kA (w:=x) (A1:=A) (zq rfl) H);have E:mQ qG (qi (zH 1)) [some x,some y] A=.ok (.int ws.length) A:=yG (kA (w:=y) (A1:=A) (zq rfl) h);have I:Wa .tup .lst (zH 1) [some x,some y] A=.ok (.bl true) A:=by
  unfold Wa;rw[zq (w:=y) rfl,zD,t];rcases b with rfl|rfl<;>rfl
 have n1:∀c,zc qx (yo c (zH 0)) (yo c (zH 1)) [some x,some y] A=.ok (.bl false) A:=λc=>(zJ (Jn (w:=x) (zq rfl) T) (Jn (w:=y) (zq rfl) t)).trans ((X8 _ _ _).trans (by rw[bz];rfl))
 refine qm ((yH (A1:=A) I).trans ?_);refine(zK (ρ1:=[some x,some y]) (A1:=A) ((yd (A1:=A) ((Zh (A1:=A) (n1 .tup)).trans (n1 .lst))).trans jM)).trans ?_;refine(zK (ρ1:=[some x,some y]) (A1:=A) ((yd (A1:=A) ((zJ d E).trans ((Wy _ _ _).trans (by rw[ax rfl];rfl)))).trans jM)).trans (qm (ja ?_))
 have z:KU (zH 0) (zH 1) [some x,some y] A=.ok (Wd x y ws.length) A:=by
  unfold KU;rw[zq (w:=x) rfl,zD,zq (w:=y) rfl,zD,H,h]
 have j:=O3 (A:=A) (cap:=[]) (ρ:=[some x,some y]) (me:=zQ f (zi (zH 0) (zi (zH 1) zo))) (N:=ws.length) (u:=λi=>ws.getD i .non) (v:=λi=>ws.getD i .non) (g:=λ_=>.bl true) z rfl l
  (λi a=>by
   show(match zS x A,zS y A with|some us,some vs=>some (zip2 us[i]? vs[i]?)|_,_=>none)=_
   rw[H,h];show some (zip2 ws[i]? ws[i]?)=_;rw[ae,aa a];rfl)
  (by
   show(match zS x A,zS y A with|some us,some vs=>some (zip2 us[ws.length]? vs[ws.length]?)|_,_=>none)=_
   rw[H,h];show some (zip2 ws[ws.length]? ws[ws.length]?)=_;rw[aL (au _)];rfl)
  (λi a=>by
   have e:ws.getD i .non=ws[i]:=by rw[ae,aa a];rfl
   rw[e];exact(jq (ws:=[ws[i],ws[i]]) (A1:=A) rfl).trans (hf _ (aN a)))
 exact(yG j).trans (HL (p:=λ_=>true) λ_ _=>rfl)
def Mg {r:bM}(h:r.length<=100)(A:Hx):WS [zU r,zU r] A=.ok (.bl true) A:=
 Uz (ws:=r.map W.int) (ty:=.tup) rfl rfl rfl rfl (.inl rfl) (by simp;omega) λw hw=>by
  obtain⟨v,_,rfl⟩:=cf.mp hw;exact Mc v A
def LI (h:t.length<=100)(a:∀r∈t,r.length<=100)(A:Hx):ZA [zI t,zI t] A=.ok (.bl true) A:=
 Uz (ws:=t.map zU) (ty:=.tup) rfl rfl rfl rfl (.inl rfl) (by simp;omega) λw hw=>by
  obtain⟨r,H,rfl⟩:=cf.mp hw;exact Mg (a r H) A
variable {a:Ea}
def RS {a:W}(h:ρ[i]? =some (some a)):gQ [i] ρ=some [a]:=by
 unfold gQ;rw[h]
 rfl
end
end G
namespace Mi
open PySem L2
structure Part (w:W):Prop where
 ty:∃ty,∀A,jE w A=some ty
 dt:∃d,∀A,qk A 7 w=some d
inductive K5 (A:Hx)(w:W):Prop
 |tup (ws:List W) (e:w=.tup ws) (hl:ws.length<=2000) (h:∀x∈ws,Part x)
 |oth (ty:Ty) (h:jE w A=some ty) (hn:ty≠.tup)
inductive Pc (A:Hx)(w:W):Prop
 |tup (ws:List W) (e:w=.tup ws) (hl:ws.length<=2000) (h:∀x∈ws,K5 A x)
 |oth (ty:Ty) (h:jE w A=some ty) (hn:ty≠.tup)
def D2 (n:Nat)(w:W):Prop:=∃r:bM,w=zU r/\r.length=n
def Yv (n:Nat)(w:W):Prop:=∃r:bM,w=zU r/\r.length=n/\∀v∈r,0<=v/\v<(n:Int)
theorem all_ints:∀{ws:List W},ws.all JD=true->∃r:bM,ws=r.map W.int
 |[],_=>⟨[],rfl⟩|w::ws,h=>by
  rw[List.all_cons,aj]at h;obtain⟨r,rfl⟩:=all_ints h.2;cases w with
  |int i=>exact⟨i::r,rfl⟩|_=>cases h.1
def Ly (r:bM):(r.map W.int).all JD=true:=by
 rw[all_map];exact cm.mpr λ_ _=>rfl
def Ke (p:α->Bool)(l:List α):Z3 (l.map λx=>W.bl (p x)) A=.ok (.bl (l.all p)) A:=by
 show Zm (λk=>k.all id) _ A=_;unfold Zm;rw[Gb];dsimp only;rw[all_map]
 rfl
def Tp {r s:bM}(h:zU r=zU s):r=s:=by
 unfold zU at h;injection h with h
 induction r generalizing s with
 |nil=>cases s with
  |nil=>rfl|cons _ _=>cases h
 |cons a r i=>cases s with
  |nil=>cases h|cons b s=>
   simp only[aU,List.cons.injEq]at h;injection h.1 with H
   rw[H,i h.2]
def YV {j:jv}{st:W->Ex}{N:Nat}{I:Nat->En->Hx->Prop}{p:Nat->Prop}{J:Hx->Prop}{w:W}
  (t:∀i ρ A,i<N->I i ρ A->∃x,j.at_ A i=some (some x)/\((p i/\∃a b,st x ρ A=.ok (.nx a) b/\I (i+1) a b)∨(¬p i/\∃b,st x ρ A=.ok (.rt w) b/\J b)))
  (H:∀ρ A,I N ρ A->j.at_ A N=some none):
  ∀(f i:Nat)(ρ:En)(A:Hx),i+f=N->I i ρ A->((∀k,i<=k->k<N->p k)/\∃a b,j5 j st f i ρ A=.ok (.nx a) b/\I N a b)∨((∃k,i<=k/\k<N/\¬p k)/\∃b,j5 j st f i ρ A=.ok (.rt w) b/\J b):=by
 intro f
 induction f with
 |zero=>
  intro i ρ A h c
  have:i=N:=by omega
  subst this;exact .inl ⟨λk l n=>by omega,ρ,A,Ud (H _ _ c),c⟩
 |succ f s=>
  intro i ρ A h c;obtain⟨x,l,n⟩:=t i ρ A (by omega) c
  rcases n with ⟨d,a,b,e,g⟩|⟨d,b,e,u⟩
  ·rw[Tj l e]
   rcases s (i+1) a b (by omega) g with ⟨q,r⟩|⟨⟨k,v,o,Q⟩,r⟩
   ·refine .inl ⟨λk k1 k2=>?_,r⟩
    by_cases z:k=i
    ·rw[z];exact d
    ·exact q k (by omega) k2
   ·exact .inr ⟨⟨k,by omega,o,Q⟩,r⟩
  ·exact .inr ⟨⟨i,au _,by omega,d⟩,b,L7 l e,u⟩
def QL (t:bL):Prop:=∀a,a<t.length->∀b,b<t.length->(at2 t a b=0↔a=b)/\at2 t a b=at2 t b a
def Yz (t:bL):Prop:=∀k:Nat,(∃v∈t.flatten,(k:Int)<v)->(k:Int)∈t.flatten
structure QC (t:bL):Prop where
 n1:1<=t.length
 n8:t.length<=8
 sq:∀r∈t,r.length=t.length
 lo:∀r∈t,∀v∈r,0<=v/\v<(t.length:Int)
def IsT (w:W):Prop:=∃t,qW t/\w=zI t
def QC.tab (h:QC t)(e:QL t)(f:Yz t):qW t:=⟨h.n1,h.n8,h.sq,h.lo,λa b c H=>(e a c b H).1,λa b c H=>(e a c b H).2,f⟩
def Tf {s:bL}(h:zI s=zI t):s=t:=by
 unfold zI at h;injection h with h
 induction s generalizing t with
 |nil=>cases t with
  |nil=>rfl|cons _ _=>cases h
 |cons a r i=>cases t with
  |nil=>cases h|cons b s=>
   simp only[aU,List.cons.injEq]at h;rw[Tp h.1,i h.2]
def HC (h:QC t):IsT (zI t)↔QL t/\Yz t:=by
 constructor
 ·rintro⟨s,H,e⟩
  obtain rfl:=Tf e;exact⟨λa d b c=>⟨H.dg a b d c,H.sy a b d c⟩,H.fu⟩
 ·rintro⟨e,f⟩
  exact⟨t,h.tab e f,rfl⟩
def HB (d:1<=ws.length)(c:ws.length<=8)(h:∀w∈ws,Yv ws.length w):∃t,QC t/\ws=t.map zU:=by
 have:∀(n:Nat)(ws:List W),(∀w∈ws,Yv n w)->∃t:bL,ws=t.map zU/\∀r∈t,r.length=n/\∀v∈r,0<=v/\v<(n:Int):=by
  intro n ws
  induction ws with
  |nil=>intro _;exact⟨[],rfl,λ_ h=>by cases h⟩|cons w ws i=>
   intro h;obtain⟨r,e,l,g⟩:=h w (az ..);obtain⟨t,E,H⟩:=i λx f=>h x (ao _ f);refine⟨r::t,by rw[e,E];rfl,λs a=>?_⟩
   rcases cc.mp a with rfl|a
   ·exact⟨l,g⟩
   ·exact H s a
 obtain⟨t,e,H⟩:=this ws.length ws h;have l:ws.length=t.length:=by rw[e,ah]
 rw[l]at d c H;exact⟨t,⟨d,c,λr b=>(H r b).1,λr b=>(H r b).2⟩,e⟩
def Gu (h:IsT (.tup ws)):1<=ws.length/\ws.length<=8/\∀w∈ws,Yv ws.length w:=by
 obtain⟨t,H,e⟩:=h;unfold zI at e;injection e with e
 subst e;rw[ah];refine⟨H.n1,H.n8,λw hw=>?_⟩;obtain⟨r,a,rfl⟩:=cf.mp hw;exact⟨r,rfl,H.sq r a,H.lo r a⟩
end Mi
namespace G
open PySem L2 Mi
def Fz {w:W}(h:Part w)(A:Hx):JL [w] A=.ok (.bl (JD w)) A:=by
 obtain⟨ty,h⟩:=h.ty;unfold JL W6;cases w with
 |ref n=>have:=h [];simp[jE]at this|clo _ _ _=>have:=h [];simp[jE]at this|xc _=>have:=h [];simp[jE]at this|_=>exact ji (A1:=A) rfl
def LF {w:W}(h:K5 A w)(n:Nat):∃b,JJ [w,.int n] A=.ok (.bl b) A/\(b=true↔D2 n w):=by
 unfold JJ WZ;unfold V5;cases h with
 |oth ty H hn=>
  refine⟨false,ji (qm (ja (Jd ((Jn (A1:=A) (zq (i:=0) rfl) H).trans (by rw[Rz hn]))))),?_⟩
  refine⟨λz=>(by cases z),?_⟩
  rintro⟨r,rfl,_⟩
  simp[zU,jE]at H;exact absurd H.symm hn
 |tup ws e f p=>
  subst e;have l:=KI (ws:=ws) (ρ:=[some (.tup ws),some (.int n)]) (i:=0) (A:=A) rfl;have E:=(zJ l (zq (ρ:=[some (.tup ws),some (.int n)]) (A:=A) (i:=1) rfl)).trans (Z5 _ _ _);have a:yo .tup (zH 0) [some (.tup ws),some (.int n)] A=.ok (.bl true) A:=rfl
  by_cases q:ws.length=n
  ·have d:=Gr (cap:=[]) (A:=A) (ρ:=[some (.tup ws),some (.int n)]) (ws:=ws) (me:=zQ JL (zi (zH 0) zo)) (g:=λw=>.bl (JD w)) (zq (i:=0) rfl) (by unfold qa;omega) (λw hw=>(jq (ws:=[w]) (A1:=A) rfl).trans (Fz (p w hw) A))
   refine⟨ws.all JD,ji (qm (ja ((Ze a).trans ((Ze (E.trans (by rw[ax (by omega)]))).trans ((yG d).trans (Ke JD ws)))))),?_⟩
   constructor
   ·intro z
    obtain⟨r,rfl⟩:=all_ints z;rw[ah]at q;exact⟨r,rfl,q⟩
   ·rintro⟨r,e,_⟩
    unfold zU at e;injection e with e
    rw[e];exact Ly r
  ·refine⟨false,ji (qm (ja ((Ze a).trans (Jd (E.trans (by rw[ay (by omega)])))))),?_⟩
   refine⟨λz=>(by cases z),?_⟩
   rintro⟨r,e,c⟩
   unfold zU at e;injection e with e
   rw[e,ah]at q;exact absurd c q
def HX {w:W}(h:K5 A w)(n:Nat):∃b,JF [w,.int n,.int n] A=.ok (.bl b) A/\(b=true↔Yv n w):=by
 obtain⟨b,e,a⟩:=LF h n;unfold JF WB;unfold Vq;have E:zQ JJ (zi (zH 0) (zi (zH 1) zo)) [some w,some (.int n),some (.int n)] A=.ok (.bl b) A:=(jq (ws:=[w,.int n]) (A1:=A) rfl).trans e;cases b with
 |false=>
  refine⟨false,ji (qm (ja (Jd E))),λz=>(by cases z),?_⟩
  rintro⟨r,k,j,_⟩
  exact a.mpr ⟨r,k,j⟩
 |true=>
  obtain⟨r,rfl,d⟩:=a.mp rfl;have l:r.length<=2000:=by
   cases h with
   |tup ws e l _=>unfold zU at e;injection e with e;rw[<- e,ah]at l;exact l
   |oth ty t hn=>simp[zU,jE]at t;exact absurd t.symm hn
  have g:=Tq (cap:=[2]) (A:=A) (ρ:=[some (zU r),some (.int n),some (.int n)]) (o:=r) (f:=W.int) (m:=zH 0) (me:=yO k8 Zp (zy (.int 0)) (zH 0) (zH 1)) (G:=λv=>.bl (decide (0<=v)&&decide (v<(n:Int)))) (zq (i:=0) rfl) (by unfold qa;omega) (λv H=>IA rfl (zq rfl))
  refine⟨_,ji (qm (ja ((Ze E).trans ((yG g).trans (Ke (λv=>decide (0<=v)&&decide (v<(n:Int))) r))))),?_⟩;rw[bK]
  constructor
  ·intro z
   exact⟨r,rfl,d,λv H=>by have:=z v H;simp at this;exact this⟩
  ·rintro⟨s,e,_,c⟩ v H
   obtain rfl:=Tp e
   have:=c v H
   simp;exact this
def Hy {p q:Prop}{a b:Bool}(H:a=true↔p)(h:b=true↔q):(a&&b)=true↔p/\q:=by
 rw[aj,H,h]
def F6 (h:QC t)(A:Hx):∃b,Gh [zI t] A=.ok (.bl b) A/\(b=true↔QL t):=by
 suffices z:∃b A1,W9 [zI t] []=.ok (.bl b) A1/\(b=true↔QL t) by
  obtain⟨b,A1,e,g⟩:=z;exact⟨b,Jg (by show((zI t).nr&&true)=true;rw[Q8];rfl) rfl e,g⟩
 have hlen:(t.map zU).length=t.length:=ah ..;rcases YV (N:=t.length) (p:=λa=>∀b,b<t.length->(at2 t a b=0↔a=b)/\at2 t a b=at2 t b a) (J:=λ_=>True) (w:=.bl false) (I:=λ_ ρ A=>A=[]/\∃y1 Y y y4,ρ=[some (zI t),y1,Y,y,y4])
  (j:=wR (zI t) (t.map zU).length) (st:=turn (wN 1 2) (zl (yT (Jk (zH 2)) (wN 3 4) (zl (qB (y8 (zc qx (zc qX (zH 4) (zy (.int 0))) (zc qX (zH 1) (zH 3))) (zc qx (zc zA (zc zA (zH 0) (zH 3)) (zH 1)) (zH 4))) (zl (qF (zy (.bl false))) zB) zB) zB)) zB))
  (λa ρ A r ⟨v,H⟩=>by
   subst v;obtain⟨y1,Y,y,y4,rfl⟩:=H;have u:=h.sq _ (kK r);have c:((t.getD a []).map W.int).length=t.length:=by rw[ah,u]
   refine⟨_,RC (G7 r),?_⟩;rcases YV (N:=t.length) (p:=λb=>(at2 t a b=0↔a=b)/\at2 t a b=at2 t b a) (J:=λ_=>True) (w:=.bl false) (I:=λ_ ρ A=>A=[]/\∃y y4,ρ=[some (zI t),some (.int a),some (zU (t.getD a [])),y,y4])
    (j:=wR (zU (t.getD a [])) ((t.getD a []).map W.int).length) (st:=turn (wN 3 4) (zl (qB (y8 (zc qx (zc qX (zH 4) (zy (.int 0))) (zc qX (zH 1) (zH 3))) (zc qx (zc zA (zc zA (zH 0) (zH 3)) (zH 1)) (zH 4))) (zl (qF (zy (.bl false))) zB) zB) zB))
    (λb ρ A g ⟨v,H⟩=>by
     subst v;obtain⟨y,y4,rfl⟩:=H;have C:=h.sq _ (kK g);refine⟨_,RC (int_at (by omega)),?_⟩
     have n:zc qx (zc qX (zH 4) (zy (.int 0))) (zc qX (zH 1) (zH 3)) [some (zI t),some (.int a),some (zU (t.getD a [])),some (.int b),some (.int ((t.getD a []).getD b 0))] []=.ok (.bl (!(decide (at2 t a b=0)==decide ((a:Int)=b)))) []:=
      (zJ ((zJ (zq (i:=4) rfl) (qb (w:=.int 0))).trans (Z5 _ _ _)) ((zJ (zq (i:=1) rfl) (zq (i:=3) rfl)).trans (Z5 _ _ _))).trans (X8 _ _ _)
     have s:zc qx (zc zA (zc zA (zH 0) (zH 3)) (zH 1)) (zH 4) [some (zI t),some (.int a),some (zU (t.getD a [])),some (.int b),some (.int ((t.getD a []).getD b 0))] []=.ok (.bl (!decide (at2 t b a=at2 t a b))) []:=
      (zJ ((zJ ((zJ (zq (i:=0) rfl) (zq (i:=3) rfl)).trans (Kr g)) (zq (i:=1) rfl)).trans (Km (by omega))) (zq (i:=4) rfl)).trans (Wy _ _ _)
     by_cases o:at2 t a b=0↔a=b
     ·have d:(!(decide (at2 t a b=0)==decide ((a:Int)=b)))=false:=by
       have:decide (at2 t a b=0)=decide ((a:Int)=b):=decide_eq_decide.mpr (o.trans ⟨λz=>by omega,λz=>by omega⟩)
       rw[this];simp
      rw[d]at n
      by_cases Q:at2 t a b=at2 t b a
      ·have E:(!decide (at2 t b a=at2 t a b))=false:=by rw[ax Q.symm];rfl
       rw[E]at s;exact .inl ⟨⟨o,Q⟩,_,[],(kM rfl).trans ((zK ((yd (A1:=[]) ((Zh n).trans s)).trans jM)).trans jM),rfl,_,_,rfl⟩
      ·have E:(!decide (at2 t b a=at2 t a b))=true:=by rw[ay (λz=>Q z.symm)];rfl
       rw[E]at s;exact .inr ⟨λz=>Q z.2,[],(kM rfl).trans (qm ((yH (A1:=[]) ((Zh n).trans s)).trans (qm (ja qb)))),trivial⟩
     ·have d:(!(decide (at2 t a b=0)==decide ((a:Int)=b)))=true:=by
       have:decide (at2 t a b=0)≠decide ((a:Int)=b):=λz=>o ((decide_eq_decide.mp z).trans ⟨λz=>by omega,λz=>by omega⟩)
       rw[br,beq_eq_false_iff_ne];exact this
      rw[d]at n;exact .inr ⟨λz=>o z.1,[],(kM rfl).trans (qm ((yH (A1:=[]) (KC n)).trans (qm (ja qb)))),trivial⟩)
    (λρ A _=>by have:=Rl (A:=A) (ws:=(t.getD a []).map W.int);rw[c]at this ⊢;exact this) t.length 0 [some (zI t),some (.int a),some (zU (t.getD a [])),y,y4] [] (by omega) ⟨rfl,_,_,rfl⟩ with ⟨q,l,f,e,rfl,x,Z,B⟩|⟨⟨k,_,k2,k3⟩,f,e,_⟩
   ·rw[B]at e
    refine .inl ⟨λb g=>q b (zero_le _) g,[some (zI t),some (.int a),some (zU (t.getD a [])),x,Z],[],(kM rfl).trans ((zK ((wG (YX (zq (i:=2) rfl))).trans ?_)).trans jM),rfl,_,_,_,_,rfl⟩
    ·show j5 (wR (zU (t.getD a [])) ((t.getD a []).map W.int).length) _ ((t.getD a []).map W.int).length 0 _ _=_
     rw[c]at e ⊢;exact e
   ·refine .inr ⟨λz=>k3 (z k k2),f,(kM rfl).trans (qm ((wG (YX (zq (i:=2) rfl))).trans ?_)),trivial⟩
    show j5 (wR (zU (t.getD a [])) ((t.getD a []).map W.int).length) _ ((t.getD a []).map W.int).length 0 _ _=_;rw[c]at e ⊢;exact e)
  (λρ A _=>by have:=Rl (A:=A) (ws:=t.map zU);rw[hlen]at this ⊢;exact this) t.length 0 [some (zI t),none,none,none,none] [] (by omega) ⟨rfl,_,_,_,_,rfl⟩ with ⟨q,l,f,e,_⟩|⟨⟨k,_,k2,k3⟩,f,e,_⟩
 ·refine⟨true,f,ji ?_,λ_=>λa r=>q a (zero_le _) r,λ_=>rfl⟩
  unfold Gj;refine(zK (ρ1:=l) (A1:=f) ((wG (YX (zq (i:=0) rfl))).trans ?_)).trans (qm (ja qb));show j5 (wR (zI t) (t.map zU).length) _ (t.map zU).length 0 _ _=_;rw[hlen]at e ⊢;exact e
 ·refine⟨false,f,ji ?_,λz=>(by cases z),λz=>absurd (z k k2) k3⟩
  unfold Gj;refine qm ((wG (YX (zq (i:=0) rfl))).trans ?_);show j5 (wR (zI t) (t.map zU).length) _ (t.map zU).length 0 _ _=_;rw[hlen]at e ⊢;exact e
theorem UR:∀{ws:List W},(∀x∈ws,Part x)->∃ds,yy (qk A 7) ws=some ds/\ds.length=ws.length
 |[],_=>⟨[],rfl,rfl⟩|w::ws,h=>by
  obtain⟨d,hd⟩:=(h w (az ..)).dt;obtain⟨ds,e,l⟩:∃ds,yy (qk A 7) ws=some ds/\ds.length=ws.length:=UR λx H=>h x (ao _ H);refine⟨d::ds,?_,by simp[l]⟩
  show(match qk A 7 w,yy (qk A 7) ws with|some d,some ds=>some (d::ds)|_,_=>none)=_
  rw[hd,e]
def TF {r s:Nat}(h:A[r]? =some (.lst ws))(p:∀x∈ws,Part x)(b:A[s]? =some (.lst [])):qx (.ref r) (.ref s) A=.ok (.bl (!ws.isEmpty)) A:=by
 obtain⟨ds,e,H⟩:=UR (A:=A) p;have E:qk A 8 (.ref r)=some (.list ds):=by
  show(match zS (.ref r) A with|some ws=>(yy (qk A 7) ws).map PyData.list|none=>none)=_
  have:zS (.ref r) A=some ws:=by unfold zS;dsimp only;rw[h]
  rw[this];dsimp only;rw[e]
  rfl
 show kT true _ _ A=_;unfold kT;rw[E,Jb (l:=[]) b];dsimp only;rw[ag rfl]
 congr 2
 rw[PyData.eqv];cases ws with
 |nil=>
  cases ds with
  |nil=>simp[PyData.eqvAll]|cons _ _=>simp at H
 |cons a l=>
  cases ds with
  |nil=>simp at H|cons d ds=>simp[PyData.eqvAll]
def NY (h:QC t):t.flatten.length<=64:=by
 have:∀l:bL,(∀r∈l,r.length<=8)->l.flatten.length<=8 * l.length:=by
  intro l
  induction l with
  |nil=>intro _;simp|cons r l i=>
   intro H;have e:=H r (az ..);have d:=i λb a=>H b (ao _ a);rw[aS,aD,bc];omega
 have c:=h.n8
 have:=this t λr H=>by rw[h.sq r H];exact h.n8
 omega
def Fx (h:QC t)(A:Hx):∃b,WA [zI t] A=.ok (.bl b) A/\(b=true↔Yz t):=by
 have B:=NY h;have o:t.flatten≠[]:=by
  intro e;have D:=h.n1;have f:=h.sq _ (kK (t:=t) (a:=0) (by omega))
  have:t.getD 0 []=[]:=by
   have:=List.flatten_eq_nil_iff.mp e _ (kK (t:=t) (a:=0) (by omega))
   exact this
  rw[this]at f;simp at f;omega
 obtain⟨v0,l,E⟩:=List.exists_cons_of_ne_nil o
 suffices z:∃b,Wz [zI t] []=.ok (.bl b) [.lst (t.flatten.map W.int)]/\(b=true↔Yz t) by
  obtain⟨b,e,n⟩:=z;exact⟨b,Jg (by show((zI t).nr&&true)=true;rw[Q8];rfl) rfl e,n⟩
 have H:jZ l v0∈t.flatten:=by
  rw[E];rcases GB l v0 with e|e
  ·rw[e];exact az ..
  ·exact ao _ e
 have d:∀v∈t.flatten,v<=jZ l v0:=by
  rw[E];intro v c
  have:=J0 l v0
  rcases cc.mp c with rfl|c
  ·exact this.1
  ·exact this.2 v c
 have n:0<=jZ l v0/\jZ l v0<8:=by
  obtain⟨r,f,c⟩:=List.mem_flatten.mp H
  have:=h.lo r f _ c
  have:=h.n8
  omega
 have em:mQ yK (qi (zH 1)) [some (zI t),some (.ref 0)] [.lst (t.flatten.map W.int)]=.ok (.int (jZ l v0)) [.lst (t.flatten.map W.int)]:=by
  rw[yG (kA (w:=.ref 0) (A1:=[.lst (t.flatten.map W.int)]) (ws:=t.flatten.map W.int) (zq rfl) rfl)];unfold yK;rw[JI,E]
 generalize jZ l v0=M at em H n d;obtain⟨K,rfl⟩:=a8 n.1;have C:=Qd (cap:=[1]) (me:=zc Wi (zH 0) (zH 1)) (ρ:=[some (zI t),some (.ref 0)]) (A:=[.lst (t.flatten.map W.int)]) (N:=K) (j:=yP 0 K) (item:=λi=>.int (0+i)) (g:=λ(i:Nat)=>.bl (decide ((i:Int)∈t.flatten)))
  ((JU em (by unfold jN;simp;omega)).trans (by rw[aM])) rfl (by unfold qa;omega) (λi s=>ZV s) (ZJ (by omega))
  (λi s=>by
   refine(zJ (zq (i:=0) (w:=.int (0+i)) rfl) (zq (i:=1) (w:=.ref 0) rfl)).trans ?_;show QB false _ _ _=_;unfold QB;have y:zS (.ref 0) [O.lst (t.flatten.map W.int)]=some (t.flatten.map W.int):=rfl;rw[y];dsimp only;have hf:(wK (.int (0+(i:Int)))&&(t.flatten.map W.int).all wK)=true:=by
    have:(t.flatten.map W.int).all wK=true:=cm.mpr λw hw=>by obtain⟨x,_,rfl⟩:=cf.mp hw;rfl
    rw[this];rfl
   rw[ag hf];have p:JA (.int (0+(i:Int))) (t.flatten.map W.int)=decide ((i:Int)∈t.flatten):=by
    rw[Bool.eq_iff_iff,ak];unfold JA;rw[List.any_eq_true]
    constructor
    ·rintro⟨w,hw,e⟩
     obtain⟨x,u,rfl⟩:=cf.mp hw
     have:(x==0+(i:Int))=true:=e
     have:x=0+(i:Int):=eq_of_beq this
     rw[bD]at this;exact this ▸ u
    ·intro z
     refine⟨.int i,cf.mpr ⟨(i:Int),z,rfl⟩,?_⟩;show((i:Int)==0+(i:Int))=true;rw[bD];exact bz _
   rw[p]
   rfl)
 refine⟨(List.range K).all λ(i:Nat)=>decide ((i:Int)∈t.flatten),ji ?_,?_⟩
 ·unfold Vm
  refine(zK (ρ1:=[some (zI t),some (.ref 0)]) (A1:=[.lst (t.flatten.map W.int)]) ((qw (gf (HP (zq rfl) (by unfold qa;omega)))).trans rfl)).trans (qm (ja ?_))
  exact(yG C).trans (Ke _ _)
 ·rw[bK]
  constructor
  ·rintro z k ⟨v,c,q⟩
   have:=d v c
   exact of_decide_eq_true (z k (ck.mpr (by omega)))
  ·intro z k q
   have:=ck.mp q
   exact ax (z k ⟨_,H,by omega⟩)
def Iv (hn:me ρ A=.ok (.int n) A):yO k8 k8 (zy (.int 1)) me (zy (.int 8)) ρ A=.ok (.bl (decide (1<=n)&&decide (n<=8))) A:=by
 unfold yO;rw[qb,zD,hn,zD];show R.bind (R.ok (W.bl (decide ((1:Int)<=n))) A) _=_
 by_cases h:1<=n
 ·rw[ax (show(1:Int)<=n by omega),zD,ax h]
  dsimp only;rw[qb,zD];show R.ok (W.bl (decide ((n:Int)<=8))) A=_;rw[Bool.true_and]
  congr 2
  exact decide_eq_decide.mpr ⟨λz=>by omega,λz=>by omega⟩
 ·rw[ay (show ¬(1:Int)<=n by omega),zD,ay h]
  rfl
def HR {w:W}(h:Pc A w)(h0:ρ[0]? =some (some w)):(y8 (yw (yo .tup (zH 0))) (yw (yO k8 k8 (zy (.int 1)) (mQ qG (qi (zH 0))) (zy (.int 8)))) ρ A=.ok (.bl true) A/\¬IsT w)∨
  (∃ws,w=.tup ws/\1<=ws.length/\ws.length<=8/\(∀x∈ws,K5 A x)/\y8 (yw (yo .tup (zH 0))) (yw (yO k8 k8 (zy (.int 1)) (mQ qG (qi (zH 0))) (zy (.int 8)))) ρ A=.ok (.bl false) A):=by
 cases h with
 |oth ty H hn=>
  refine .inl ⟨KC (gh (k:=false) ((Jn (zq h0) H).trans (by rw[Rz hn]))),?_⟩
  rintro⟨t,_,rfl⟩
  simp[zI,jE]at H;exact absurd H.symm hn
 |tup ws e l r=>
  subst e;have a:yw (yo .tup (zH 0)) ρ A=.ok (.bl false) A:=gh (k:=true) ((Jn (zq h0) rfl).trans rfl);have E:=gh (Iv (KI (A:=A) h0))
  by_cases q:1<=ws.length/\ws.length<=8
  ·refine .inr ⟨ws,rfl,q.1,q.2,r,(Zh a).trans (E.trans ?_)⟩
   rw[ax q.1,ax q.2];rfl
  ·refine .inl ⟨(Zh a).trans (E.trans ?_),λz=>q ⟨(Gu z).1,(Gu z).2.1⟩⟩
   by_cases Q:1<=ws.length
   ·rw[ax Q,ay λz=>q ⟨Q,z⟩];rfl
   ·rw[ay Q];rfl
def pick {P:α->Bool->Prop}{l:List α}(h:∀x∈l,∃b,P x b):∃f:α->Bool,∀x∈l,P x (f x):=by
 classical
 refine⟨λx=>if H:x∈l then(h x H).choose else false,λx H=>?_⟩
 have:(if H:x∈l then(h x H).choose else false)=(h x H).choose:=dif_pos H
 show P x (if H:x∈l then(h x H).choose else false);rw[this];exact(h x H).choose_spec
def Hd {w:W}(h:Pc A w):∃b,JM [w] A=.ok (.bl b) A/\(b=true↔IsT w):=by
 unfold JM W4;unfold Ua;rcases HR (ρ:=[some w,none]) h rfl with ⟨e,hn⟩|⟨ws,rfl,l,k,r,e⟩
 ·exact⟨false,ji (qm ((yH e).trans (qm (ja qb)))),λz=>(by cases z),λz=>absurd z hn⟩
 ·obtain⟨f,hf⟩:=pick λx H=>HX (r x H) ws.length
  have o:=Gr (cap:=[1]) (A:=A) (ρ:=[some (.tup ws),some (.int ws.length)]) (ws:=ws) (me:=zQ JF (zi (zH 0) (zi (zH 1) (zi (zH 1) zo)))) (g:=λx=>.bl (f x)) (zq (i:=0) rfl) (by unfold qa;omega) (λx H=>(jq (ws:=[x,.int ws.length,.int ws.length]) (A1:=A) rfl).trans (hf x H).1)
  have E:=gh ((yG o).trans (Ke f ws));have go:∀(m1 m2 M:Ex)(c:Ev),zl (qB (y8 (yw (yo .tup (zH 0))) (yw (yO k8 k8 (zy (.int 1)) (mQ qG (qi (zH 0))) (zy (.int 8))))) m1 zB) (zl (zN 1 (mQ qG (qi (zH 0)))) m2) [some (.tup ws),none] A=m2 [some (.tup ws),some (.int ws.length)] A:=λm1 m2 M c=>
   (zK ((yd e).trans jM)).trans (zK ((qw (KI rfl)).trans rfl))
  by_cases q:ws.all f=true
  ·rw[q]at E
   have j:∀x∈ws,Yv ws.length x:=λx H=>(hf x H).2.mp (cm.mp q x H);obtain⟨t,gt,n⟩:=HB l k j;have a:W.tup ws=zI t:=by rw[n];rfl
   obtain⟨B,d,k1⟩:=F6 gt A;obtain⟨s,p,k2⟩:=Fx gt A;refine⟨B&&s,ji ((go _ _ zB Jv).trans ((zK ((yd E).trans jM)).trans (qm (ja ?_)))),?_⟩
   ·rw[a]
    cases B with
    |true=>exact(Ze ((jq (ws:=[zI t]) (A1:=A) rfl).trans d)).trans ((jq (ws:=[zI t]) (A1:=A) rfl).trans p)|false=>exact Jd ((jq (ws:=[zI t]) (A1:=A) rfl).trans d)
   ·rw[a,HC gt]
    exact Hy k1 k2
  ·have Q:ws.all f=false:=by cases h:ws.all f<;>simp_all
   rw[Q]at E;refine⟨false,ji ((go _ _ zB Jv).trans (qm ((yH E).trans (qm (ja qb))))),λz=>(by cases z),λz=>?_⟩
   exact absurd (cm.mpr λx H=>(hf x H).2.mpr ((Gu z).2.2 x H)) q
noncomputable def jl (s:bQ):List (bQ)->List Nat
 |[]=>[]|[x]=>x|x::y::r=>x++s++jl s (y::r)
theorem J3 (sep:Str):∀ps:bR,(Str.join sep ps).cps.toList=jl sep.cps.toList (ps.map λp=>p.cps.toList)
 |[]=>rfl|[x]=>rfl|x::y::r=>by
  show((x++sep++Str.join sep (y::r)).cps).toList=x.cps.toList++sep.cps.toList++jl sep.cps.toList ((y::r).map λp=>p.cps.toList);rw[<- J3 sep (y::r)];show(x.cps++sep.cps++(Str.join sep (y::r)).cps).toList=_;rw[toList_append,toList_append]
def Iy {y:Str}(h:x.cps.toList=y.cps.toList):x=y:=by
 cases x with
 |mk a=>cases y with
  |mk b=>rw[show a=b from Array.toList_inj.mp h]
noncomputable def XF (r:bM):bQ:=r.map λv=>48+v.toNat
def Z1 (r:bM):Str:=Txt.join "" (r.map wU)
def txt (t:bL):Str:=Txt.join "/" (t.map Z1)
def Ha:∀v:Nat,v<8->wU (v:Int)=⟨#[48+v]⟩:=by decide +kernel
def TZ {v:Int}(h0:0<=v)(h:v<8):wU v=⟨#[48+v.toNat]⟩:=by
 obtain⟨k,rfl⟩:=a8 h0;exact Ha k (by omega)
theorem SD:∀l:List (bQ),jl [] l=l.flatten
 |[]=>rfl|[x]=>by simp[jl]|x::y::r=>by
  show x++[]++jl [] (y::r)=x++(y::r).flatten;rw[SD (y::r),bg]
def U8 {r:bM}(h:∀v∈r,0<=v/\v<8):(Z1 r).cps.toList=XF r:=by
 have e:Z1 r=Str.join "" (r.map wU):=StrLaws.glued_eq_join _ _;rw[e,J3];show jl [] _=_;rw[SD,aO];unfold XF
 induction r with
 |nil=>rfl|cons v r i=>
  have:=h v (az ..)
  rw[aU,aU,aS,i (λx H=>h x (ao _ H)) (StrLaws.glued_eq_join _ _)];show(wU v).cps.toList++_=_;rw[TZ this.1 this.2]
  rfl
def U6 {r:bM}(h:∀v∈r,0<=v/\v<8):(Z1 r).length=r.length:=by
 show(Z1 r).cps.size=_;rw[<- aG,U8 h];unfold XF;exact ah ..
section
variable {r:bM}
def _root_.Mi.qW.lo8 (h:qW t):∀r∈t,∀v∈r,0<=v/\v<8:=λr a v H=>by
 have:=h.lo r a v H
 have:=h.n8
 omega
def RH {sep:Str}{l:bR}{b:Nat}(a:∀y∈l,y.length<=b)(h:l.length<=8)(c:b<=8)(H:sep.length<=1):JoinOk sep l=true:=by
 unfold JoinOk;rw[br];refine StrLaws.joinFits a ?_;have e:l.length * b<=8 * 8:=Nat.mul_le_mul h c;have d:l.length * sep.length<=8 * 1:=Nat.mul_le_mul h H;omega
theorem SX {c:Nat}:∀{l:List (bQ)}{x:Nat},x∈jl [c] l->x=c∨∃a∈l,x∈a
 |[],x,h=>by cases h|[a],x,h=>.inr ⟨a,cn.mpr rfl,h⟩|a::b::r,x,h=>by
  have h':x∈a++[c]++jl [c] (b::r):=h;rcases List.mem_append.mp h' with h'|h'
  ·rcases List.mem_append.mp h' with h'|h'
   ·exact .inr ⟨a,az ..,h'⟩
   ·exact .inl (cn.mp h')
  ·rcases SX h' with e|⟨y,H,d⟩
   ·exact .inl e
   ·exact .inr ⟨y,ao _ H,d⟩
end
def j7 (x:Str):Prop:=∀c∈x.cps.toList,c<128
noncomputable abbrev zC (x:Str):bR:=Txt.split x "/"
theorem Rt {s:bQ}:∀{l:List (bQ)}{a:bQ}{c:Nat},a∈l->c∈a->c∈jl s l
 |[],_,_,h,_=>by cases h|[x],_,_,h,H=>by rw[cn.mp h]at H;exact H|x::y::r,a,c,h,H=>by
  show c∈x++s++jl s (y::r);rcases cc.mp h with rfl|h
  ·exact mem_append_left _ (mem_append_left _ H)
  ·exact aR _ (Rt h H)
def ZO {p:Str}(h:j7 x)(H:p∈zC x):j7 p:=λc a=>by
 refine h c ?_;have e:Str.join "/" (zC x)=x:=StrLaws.join_split _ _;have E:=congrArg (λy:Str=>y.cps.toList) e;rw[J3]at E;rw[<- E];exact Rt (cf.mpr ⟨p,H,rfl⟩) a
def J1 {p:Str}(h:p∈zC x):p.length<=x.length:=PyProof.Rows.part_short h
def S8 (h:j7 x):PyData.strOk x=true:=by
 unfold PyData.strOk;rw[Array.all_eq_true'];intro c H
 have:=h c (Array.mem_toList_iff.mpr H)
 exact ax (by omega)
def CN (h:j7 x):Yq x=true:=by
 unfold Yq;rw[Array.all_eq_true'];intro c H;exact ax (h c (Array.mem_toList_iff.mpr H))
noncomputable def fg (c:Nat):Int:=Txt.find "0123456789" ⟨#[c]⟩
def Sw:∀c:Nat,c<128->fg c=if 48<=c/\c<58 then(c:Int)-48 else -1:=by decide +kernel
def XU (p:Str):bM:=p.cps.toList.map fg
def Mx (x:Str):bL:=(zC x).map XU
def Gx (p:Str):(XU p).length=p.length:=by
 unfold XU;rw[ah];exact aG
section
variable {r:bM}{B:Hx}{w v:W}{p:Str}
def Rw (c:Nat)(A:Hx):WK [.str ⟨#[c]⟩] A=.ok (.int (fg c)) A:=by
 refine Jg (A1:=[]) rfl rfl (ji ?_);unfold VD;refine qm (ja ((RD (A1:=[]) ?_).trans ?_))
 ·rfl
 ·rfl
def Cz (h:j7 p)(l:p.length<=1000)(h0:ρ[0]? =some (some (.str p))){f:Nat->Int}(hf:∀(c:Nat)(A:Hx),c∈p.cps.toList->me [some (.str ⟨#[c]⟩)] A=.ok (.int (f c)) A)(A:Hx):mQ yN (zO 1 [] (Zi zm) (zF 0) zY (zL me)) ρ A=.ok (zU (p.cps.toList.map f)) A:=by
 have z:p.cps.toList.length=p.length:=aG;have hm:Zi zm ρ A=.ok (XI p) A:=by
  unfold Zi;rw[show zm ρ A=.ok (.str p) A from zq h0,zD]
  dsimp only;exact ag (CN h)
 have H:∀i (hi:i<p.cps.toList.length),p.cps[i]? =some (p.cps.toList.getD i 0):=λi hi=>by
  rw[<- bh,ae,aa hi]
  rfl
 have e:=Qd (cap:=[]) (mi:=Zi zm) (j:=XI p) (me:=me) (ρ:=ρ) (A:=A) (N:=p.cps.toList.length) (item:=λi=>.str ⟨#[p.cps.toList.getD i 0]⟩) (g:=λi=>.int (f (p.cps.toList.getD i 0))) hm Array.length_toList.symm (by unfold qa;omega)
  (λi hi=>by
   show some ((p.cps[i]?).map λc=>W.str ⟨#[c]⟩)=_;rw[H i hi]
   rfl)
  (by show some ((p.cps[p.cps.toList.length]?).map λc=>W.str ⟨#[c]⟩)=_;rw[Array.getElem?_eq_none (by rw[aG];exact au _)];rfl)
  (λi hi=>hf _ A (by rw[ae,aa hi];exact aN hi))
 refine(Jc e).trans ?_;unfold zU;rw[aO,Qa p.cps.toList 0 (W.int ∘ f)]
 rfl
abbrev Vd (me:Ev)(ms:Ev):Ev:=mQ yN (zO 1 [] (qo ms) (zF 0) zY (zL (mQ yN (zO 1 [] (Zi zm) (zF 0) zY (zL me)))))
def Xw {ms:Ev}{f:Nat->Int}{q:Nat}(l:j7 x)(o:x.length<=900)(hm:ms ρ A=.ok (.ref q) B)(g:B[q]? =some (.lst ((zC x).map W.str)))(hf:∀(p:Str),p∈zC x->∀(c:Nat)(A:Hx),c∈p.cps.toList->me [some (.str ⟨#[c]⟩)] A=.ok (.int (f c)) A):Vd me ms ρ A=.ok (zI ((zC x).map λp=>p.cps.toList.map f)) B:=by
 have hn:(zC x).length<=x.length+2:=by have:=PyProof.Rows.split_le x "/";omega
 obtain⟨k,acc,D,e,_,a,b⟩:=JK (nl:=1) (cap:=[]) (mi:=qo ms) (tw:=zF 0) (ifs:=zY) (em:=zL (mQ yN (zO 1 [] (Zi zm) (zF 0) zY (zL me)))) (N:=(zC x).length) (ρ:=ρ) (A:=A)
  (I:=λi ρ acc D=>(∃y,ρ=[y])/\D=B/\acc=((zC x).take i).map λp=>zU (p.cps.toList.map f)) (J4 hm g) (ah ..)
  (λi ρ acc D j ⟨⟨y,d⟩,a,b⟩=>by
   subst d a b;have H:=aN j;have n:=J1 H;refine⟨.str (zC x)[i],[some (.str (zC x)[i])],S7 g (by rw[aw,aa j];rfl),rfl,.inl ⟨_,_,_,_,rfl,JT (Cz (ZO l H) (by omega) rfl (hf _ H) _) (by rw[ah,bo];unfold qa;omega),⟨_,rfl⟩,rfl,?_⟩⟩
   rw[take_succ j,aX]
   rfl)
  (λρ acc D h=>by obtain⟨_,a,_⟩:=h;subst a;exact SH g (by rw[ah];omega)) ⟨⟨none,rfl⟩,rfl,rfl⟩
 rw[take_length]at b;subst a b;refine(Jc e).trans ?_;unfold zI;rw[aO]
 rfl
def YY {ms:Ev}(h:ms ρ A=.ok (.str x) A1)(H:x.length<=100000):jm wI ms (zy (.str "/")) ρ A=.ok (.ref A1.length) (A1++[.lst ((zC x).map W.str)]):=by
 unfold jm;rw[h,zD];show wI (.str x) (.str "/") A1=_;unfold wI;dsimp only;rw[ag ⟨by decide +kernel,H⟩]
def Rk (g:j7 x)(l:x.length<=900)(A:Hx):∃b,JM [zI (Mx x)] A=.ok (.bl b) A/\(b=true↔qW (Mx x)):=by
 have hn:(zC x).length<=x.length+2:=by have:=PyProof.Rows.split_le x "/";omega
 obtain⟨b,e,f⟩:=Hd (w:=zI (Mx x)) (A:=A) (.tup _ rfl (by unfold Mx;rw[ah,ah];omega) λy a=>by
  obtain⟨r,c,rfl⟩:=cf.mp a;obtain⟨p,d,rfl⟩:=cf.mp c
  have:=J1 d
  refine .tup _ rfl (by rw[ah,Gx];omega) λz H=>?_
  obtain⟨v,_,rfl⟩:=cf.mp H;exact⟨⟨.int,λ_=>rfl⟩,⟨.int v,λ_=>rfl⟩⟩)
 exact⟨b,e,f.trans ⟨λ⟨t,h,E⟩=>Tf E ▸ h,λh=>⟨_,h,rfl⟩⟩⟩
def EX (h:j7 x)(H:x.length<=900)(t:qW (Mx x))(A:Hx):QS [.str x] A=.ok (zI (Mx x)) A:=by
 obtain⟨b,e,a⟩:=Rk h H [.lst ((zC x).map W.str)];rw[a.mpr t]at e;refine Jg (A1:=[.lst ((zC x).map W.str)]) rfl (Q8 _) (Qs (Hk ?_));unfold YL;refine(zK ((yd (A1:=[]) (Qs (gh (k:=true) rfl))).trans jM)).trans ?_;refine(zK (qw (Xw (f:=fg) h H (YY (zq rfl) (by omega)) rfl λp _ c A _=>(jq (qg (zq rfl) qK)).trans (Rw c A)))).trans ?_
 refine(zK ((yd (Qs (gh (k:=true) ((jq (qg (zq rfl) qK)).trans e)))).trans jM)).trans ?_;exact Qs (qm (ja (zq rfl)))
def Dt (H:j7 x)(l:x.length<=900)(t:¬qW (Mx x))(A:Hx):ku [.str x] A=.exc "NoText" (A++[.lst ((zC x).map W.str)]):=by
 obtain⟨b,e,a⟩:=Rk H l (A++[.lst ((zC x).map W.str)]);have h:b=false:=by
  cases b with
  |false=>rfl|true=>exact absurd (a.mp rfl) t
 subst h;refine UW ?_;unfold YL;refine(zK ((yd (A1:=A) (Qs (gh (k:=true) rfl))).trans jM)).trans ?_;refine(zK (qw (Xw (f:=fg) H l (YY (zq rfl) (by omega)) qJ λp _ c A _=>(jq (qg (zq rfl) qK)).trans (Rw c A)))).trans ?_
 exact Y2 ((yH (Qs (gh (k:=false) ((jq (qg (zq rfl) qK)).trans e)))).trans (Y2 rfl))
end
def P4 (p:α->Bool)(l:List α)(i:Nat):((l.take i).filter p).length<=l.length:=aQ (length_filter_le ..) (by rw[bo];omega)
def O2 (p:α->Bool){l:List α}(h:i<l.length):(l.take (i+1)).filter p=(l.take i).filter p++(if p l[i] then [l[i]] else []):=by
 rw[take_succ h,List.filter_append]
 congr 1
 rw[List.filter_cons,List.filter_nil]
section
variable {B C:Hx}{v:W}{p:Str}
def U5 {mi:Ev}{ifs:Ev}{f g:α->W}{L:List α}{P:α->Bool}{r:Nat}(hm:mi ρ A=.ok (.ref r) A)(j:A[r]? =some (.lst (L.map f)))(p:L.length<=1000)(n:∀x∈L,ifs (some (f x)::cap.map λi=>(ρ[i]?).join) A=.ok (.bl (P x)) A)(he:∀x∈L,P x=true->me (some (f x)::cap.map λi=>(ρ[i]?).join) A=.ok (g x) A):
  zO 1 cap (qo mi) (zF 0) ifs (zL me) ρ A=.ok ((L.filter P).map g) A:=by
 obtain⟨a,acc,C,e,_,o,H⟩:=JK (nl:=1) (cap:=cap) (mi:=qo mi) (tw:=zF 0) (ifs:=ifs) (em:=zL me) (N:=L.length) (ρ:=ρ) (A:=A)
  (I:=λi a acc D=>(∃y,a=y::cap.map λi=>(ρ[i]?).join)/\D=A/\acc=((L.take i).filter P).map g) (J4 hm j) (ah ..)
  (λi a acc D b ⟨⟨y,d⟩,k,H⟩=>by
   subst d k H;have l:=aN b;refine⟨f L[i],some (f L[i])::cap.map λi=>(ρ[i]?).join,S7 j (by rw[aw,aa b];rfl),rfl,?_⟩
   have hf:=O2 P b;have E:=n _ l;cases c:P L[i] with
   |true=>
    rw[c]at E;refine .inl ⟨D,_,_,D,E,JT (he _ l c) ?_,⟨_,rfl⟩,rfl,?_⟩
    ·rw[ah]
     have:=P4 P L i
     unfold qa;omega
    ·rw[hf,ag c,aX]
     rfl
   |false=>
    rw[c]at E;refine .inr ⟨D,E,⟨_,rfl⟩,rfl,?_⟩;rw[hf,ar (by rw[c];simp),bg])
  (λa acc D h=>by obtain⟨_,k,_⟩:=h;subst k;exact SH j (by rw[ah];omega)) ⟨⟨none,rfl⟩,rfl,rfl⟩
 subst o H;rw[take_length]at e;exact e
def LJ {m:Ev}(C:1<=t.length)(o:t.length<=8)(q:Sq t)(n:∀v∈t.flatten,0<=v/\v<8)(hm:m ρ A=.ok (zI t) A):∃B r,Qg (zc we (qh (zO 1 [] (qo m) (zF 0) zY (zL (qh (qi zm))))) (z8 zo)) ρ A=.ok (.ref r) B/\B[r]? =some (.lst (((dist t).map λ(i:Nat)=>(i:Int)).map W.int)):=by
 have y:t.flatten.length<=64:=by
  have:∀l:bL,(∀r∈l,r.length<=8)->l.flatten.length<=8 * l.length:=by
   intro l
   induction l with
   |nil=>intro _;simp|cons r l I=>
    intro c;have C:=c r (az ..);have D:=I λw d=>c w (ao _ d);rw[aS,aD,bc];omega
  have:=this t λr c=>by rw[q r c];exact o
  omega
 have s:=Um (ρ:=ρ) o q hm;have H:∀i,i<t.length->_:=λi j=>GU (B:=A) (t:=t) (i:=i) j;have h:=Gw (B:=A) (t:=t);generalize A++(t.map λr=>O.lst (r.map W.int))++[O.lst ((List.range t.length).map λi=>W.ref (A.length+i))]=b at s H h;have E:zc we (qh (zO 1 [] (qo m) (zF 0) zY (zL (qh (qi zm))))) (z8 zo) ρ A=.ok (.ref (b.length+1)) (b++[.lst []]++[.lst (t.flatten.map W.int)]):=by
  refine(zJ s (jX qK)).trans ?_;have g:=Gg (A:=b++[.lst []]) (kws:=(List.range t.length).map λi=>(A.length+i,(t.getD i []).map W.int)) (λp x=>by
   obtain⟨i,j,rfl⟩:=cf.mp x;exact jx (H i (ck.mp j)))
  rw[aO,aO]at g;have f:((λp:Nat×List W=>W.ref p.1) ∘ λi=>(A.length+i,(t.getD i []).map W.int))=λi=>W.ref (A.length+i):=rfl;have e:((λp:Nat×List W=>p.2) ∘ λi=>(A.length+i,(t.getD i []).map W.int))=λi=>(t.getD i []).map W.int:=rfl;rw[f,e,<- Qa t [] λr=>r.map W.int]at g;have hf:(t.map λr=>r.map W.int).flatten=t.flatten.map W.int:=by rw[List.map_flatten]
  unfold we;dsimp only;rw[jx h,qJ];dsimp only;rw[g];dsimp only;rw[ag ⟨λz=>(by have:=congrArg List.length z;rw[ah,bf]at this;exact absurd this (by rw[length_nil];omega)),by rw[hf,ah];unfold qa;omega⟩,hf]
  simp
 have a:(b++[.lst []]++[.lst (t.flatten.map W.int)])[b.length+1]? =some (.lst (t.flatten.map W.int)):=by
  have:b.length+1=(b++[O.lst []]).length:=by simp
  rw[this,qJ]
 generalize b++[.lst []]++[.lst (t.flatten.map W.int)]=u at E a;refine⟨u++[.lst (((dist t).map λ(i:Nat)=>(i:Int)).map W.int)],u.length,?_,qJ⟩;unfold Qg;rw[E,zD];unfold Y8;dsimp only;rw[a];dsimp only;rw[JI];dsimp only;rw[Ge n];dsimp only
 have:((List.range 8).filter λi=>decide (i∈t.flatten.map Int.toNat))=dist t:=by
  unfold dist
  apply List.filter_congr
  intro i _;rw[decide_eq_decide]
  constructor
  ·intro z
   obtain⟨v,k,rfl⟩:=cf.mp z;rw[a6 (n v k).1];exact k
  ·intro z
   exact cf.mpr ⟨_,z,rfl⟩
 rw[this,aO]
 rfl
noncomputable abbrev fS:Str := "01234567"
def Sx:∀c:Nat,c<128->(fS.cps.contains c=true↔48<=c/\c<56):=by decide +kernel
def int_tab:∀c:Nat,c<56->48<=c->PySem.intText? ⟨#[c]⟩=some (fg c):=by decide +kernel
def Uu (h:j7 p):Txt.stripChars p fS = "" ↔ ∀c∈p.cps.toList,48<=c/\c<56:=by
 have o:p.cps.toList.length=p.length:=aG;have n:∀k,k<p.length->p.cps.getD k 0∈p.cps.toList:=λk b=>by
  rw[<- PyProof.Rows.getD_list,ae,aa (by omega)]
  exact aN _
 unfold Txt.stripChars;rw[PyProof.Rows.stripBy_eq];obtain⟨a,L,l⟩:=PyProof.Rows.lo_facts fS.cps.contains p;obtain⟨i,g,H,f⟩:=PyProof.Rows.hi_facts fS.cps.contains p _ a;generalize stripLo fS.cps.contains true p=lo at a L l i g H f ⊢;generalize stripHi fS.cps.contains true p lo=hi at i g H f ⊢;have s:Builtin.Str.strSub p lo hi = "" ↔ lo=hi:=by
  constructor
  ·intro z
   have j:=congrArg (λy:Str=>y.cps.size) z;have Z:(p.cps.extract lo hi).size=0:=j.trans (by decide +kernel)
   rw[Array.size_extract]at Z
   have:p.cps.size=p.length:=rfl
   omega
  ·rintro rfl
   unfold Builtin.Str.strSub;refine Iy ?_;rw[show(("":Str)).cps.toList=[] by decide +kernel]
   show(p.cps.extract lo lo).toList=[];rw[List.eq_nil_iff_length_eq_zero,aG,Array.size_extract];omega
 rw[s]
 constructor
 ·rintro rfl c d
  obtain⟨k,b,rfl⟩:=bA d;have e:p.cps.toList[k]=p.cps.getD k 0:=by rw[<- PyProof.Rows.getD_list,ae,aa b];rfl
  refine(Sx _ (h _ d)).mp ?_;rw[e]
  by_cases q:k<lo
  ·exact L k q
  ·exact H k (by omega) (by omega)
 ·intro z
  rcases l with q|q
  ·omega
  ·rcases Nat.lt_or_ge lo p.length with c|c
   ·have:=n _ c
    rw[(Sx _ (h _ this)).mpr (z _ this)]at q;cases q
   ·omega
def FP {p:Str}(h:j7 p):Part (.str p):=⟨⟨_,λ_=>rfl⟩,⟨.str p,λA=>by show(if PyData.strOk p=true then some (PyData.str p) else none)=_;rw[ag (S8 h)]⟩⟩
def YA {a b:Str}(c:j7 a)(H:j7 b)(A:Hx):qx (.str a) (.str b) A=.ok (.bl (!(a==b))) A:=by
 show kT true _ _ A=_;unfold kT;have t:∀{y:Str},j7 y->qk A 8 (.str y)=some (.str y):=λ {y} h=>by
  show(if PyData.strOk y=true then some (PyData.str y) else none)=_;rw[ag (S8 h)]
 rw[t c,t H];dsimp only;rw[PyData.eqv]
 rfl
variable {w u:W}
theorem down {q:Nat->Bool}:∀n:Nat,(∀i j,i<j->j<n->q j=true->q i=true)->(List.range n).filter q=List.range ((List.range n).filter q).length
 |0,_=>rfl|n+1,h=>by
  have I:=down n λi j a b c=>h i j a (by omega) c
  rw[range_succ,List.filter_append,List.filter_cons,List.filter_nil]
  by_cases c:q n=true
  ·have e:(List.range n).filter q=List.range n:=List.filter_eq_self.mpr λi H=>h i n (ck.mp H) (by omega) c
   rw[e,ag c];simp[range_succ]
  ·rw[ar c,bg]
   exact I
def Sa (h:p.length<1000000):gr (.str p) A=.ok (.int (p.length:Int)) A:=ag h
def IG {r:Nat}{w:W}(h:A[r]? =some (.lst (ws++[w]))):zA (.ref r) (.int (-1)) A=.ok w A:=by
 unfold zA;have H:zS (.ref r) A=some (ws++[w]):=by unfold zS;dsimp only;rw[h]
 have e:ko (ws++[w]) (-1)=some w:=by
  unfold ko wx;simp only[aD,a5];rw[ar (by omega),ag (by omega)]
  have j:((-1:Int)+((ws.length+1:Nat):Int)).toNat=ws.length:=by omega
  show(ws++[w])[((-1:Int)+((ws.length+1:Nat):Int)).toNat]? =_;rw[j];simp
 rw[H];dsimp only;rw[e]
abbrev X3:Ex:=zl (qB (y8 (zc qx (zc qX (zc zA (zc zA zZ qT) jF) qO) (zc qX qT jF)) (zc qx (zc zA (zc zA zZ qT) jF) (zc zA (zc zA zZ jF) qT))) (zl (qF wy) zB) zB) zB
abbrev R7:Ex:=yT (jg zW) (zF 4) (zl (yT (jg zW) (zF 5) X3) zB)
def KY (h:ρ[i]? =some (some (.int (n:Int))))(hn:n<1000):jg (zH i) ρ A=.ok (yP 0 n) A:=(JU (zq h) (V0 (by omega))).trans (by rw[aM])
def HW (B:t.length<=8)(s:Sq t){y0 y1:Option W}:(QL t/\∃y4 y5,R7 [y0,y1,some (.int (t.length:Int)),some (zI t),none,none,none] A=.ok (.nx [y0,y1,some (.int (t.length:Int)),some (zI t),y4,y5,none]) A)∨(¬QL t/\∃c,R7 [y0,y1,some (.int (t.length:Int)),some (zI t),none,none,none] A=.ok (.rt .non) c):=by
 rcases YV (N:=t.length) (p:=λa=>∀b,b<t.length->(at2 t a b=0↔a=b)/\at2 t a b=at2 t b a) (J:=λ_=>True) (w:=.non) (I:=λ_ ρ c=>c=A/\∃y4 y5,ρ=[y0,y1,some (.int (t.length:Int)),some (zI t),y4,y5,none])
  (j:=yP 0 t.length) (st:=turn (zF 4) (zl (yT (jg zW) (zF 5) X3) zB))
  (λa ρ c d ⟨f,h⟩=>by
   subst f;obtain⟨y4,y5,rfl⟩:=h;have x:=s _ (kK d);refine⟨.int (a:Int),(ZV d).trans (by rw[bD]),?_⟩
   rcases YV (N:=t.length) (p:=λb=>(at2 t a b=0↔a=b)/\at2 t a b=at2 t b a) (J:=λ_=>True) (w:=.non) (I:=λ_ ρ A=>A=c/\∃y5,ρ=[y0,y1,some (.int (t.length:Int)),some (zI t),some (.int (a:Int)),y5,none])
    (j:=yP 0 t.length) (st:=turn (zF 5) X3)
    (λb ρ A H ⟨f,h⟩=>by
     subst f;obtain⟨y5,rfl⟩:=h;have y:=s _ (kK H);refine⟨.int (b:Int),(ZV H).trans (by rw[bD]),?_⟩
     have r:zc zA (zc zA zZ qT) jF [y0,y1,some (.int (t.length:Int)),some (zI t),some (.int (a:Int)),some (.int (b:Int)),none] A=.ok (.int (at2 t a b)) A:=(zJ ((zJ (zq rfl) (zq rfl)).trans (Kr d)) (zq rfl)).trans (Km (by omega))
     have u:zc zA (zc zA zZ jF) qT [y0,y1,some (.int (t.length:Int)),some (zI t),some (.int (a:Int)),some (.int (b:Int)),none] A=.ok (.int (at2 t b a)) A:=(zJ ((zJ (zq rfl) (zq rfl)).trans (Kr H)) (zq rfl)).trans (Km (by omega))
     have g:zc qx (zc qX (zc zA (zc zA zZ qT) jF) qO) (zc qX qT jF) [y0,y1,some (.int (t.length:Int)),some (zI t),some (.int (a:Int)),some (.int (b:Int)),none] A=.ok (.bl (!(decide (at2 t a b=0)==decide ((a:Int)=b)))) A:=
      (zJ ((zJ r (qb (w:=.int 0))).trans (Z5 _ _ _)) ((zJ (zq rfl) (zq rfl)).trans (Z5 _ _ _))).trans (X8 _ _ _)
     have l:zc qx (zc zA (zc zA zZ qT) jF) (zc zA (zc zA zZ jF) qT) [y0,y1,some (.int (t.length:Int)),some (zI t),some (.int (a:Int)),some (.int (b:Int)),none] A=.ok (.bl (!decide (at2 t a b=at2 t b a))) A:=
      (zJ r u).trans (Wy _ _ _)
     by_cases i:at2 t a b=0↔a=b
     ·have E:(!(decide (at2 t a b=0)==decide ((a:Int)=b)))=false:=by
       have:decide (at2 t a b=0)=decide ((a:Int)=b):=decide_eq_decide.mpr (i.trans ⟨λz=>by omega,λz=>by omega⟩)
       rw[this];simp
      rw[E]at g
      by_cases Q:at2 t a b=at2 t b a
      ·rw[ax Q]at l
       exact .inl ⟨⟨i,Q⟩,_,A,(kM rfl).trans ((zK ((yd ((Zh g).trans l)).trans jM)).trans jM),rfl,_,rfl⟩
      ·rw[ay Q]at l
       exact .inr ⟨λz=>Q z.2,A,(kM rfl).trans (qm ((yH ((Zh g).trans l)).trans (qm (ja qb)))),trivial⟩
     ·have E:(!(decide (at2 t a b=0)==decide ((a:Int)=b)))=true:=by
       have:decide (at2 t a b=0)≠decide ((a:Int)=b):=λz=>i ((decide_eq_decide.mp z).trans ⟨λz=>by omega,λz=>by omega⟩)
       rw[br,beq_eq_false_iff_ne];exact this
      rw[E]at g;exact .inr ⟨λz=>i z.1,A,(kM rfl).trans (qm ((yH (KC g)).trans (qm (ja qb)))),trivial⟩)
    (λρ A _=>ZJ (by omega)) t.length 0 [y0,y1,some (.int (t.length:Int)),some (zI t),some (.int (a:Int)),y5,none] c (by omega) ⟨rfl,_,rfl⟩ with ⟨q,n,A1,e,o,Z,v⟩|⟨⟨k,_,k2,k3⟩,A1,e,_⟩
   ·subst v o
    exact .inl ⟨λb H=>q b (zero_le _) H,_,_,(kM rfl).trans ((zK ((wG (KY rfl (by omega))).trans e)).trans jM),rfl,_,_,rfl⟩
   ·exact .inr ⟨λz=>k3 (z k k2),A1,(kM rfl).trans (qm ((wG (KY rfl (by omega))).trans e)),trivial⟩)
  (λρ A _=>ZJ (by omega)) t.length 0 [y0,y1,some (.int (t.length:Int)),some (zI t),none,none,none] A (by omega) ⟨rfl,_,_,rfl⟩ with ⟨q,n,c,e,f,y4,y5,h⟩|⟨⟨k,_,k2,k3⟩,c,e,_⟩
 ·subst h f
  exact .inl ⟨λa d=>q a (zero_le _) d,y4,y5,(wG (KY rfl (by omega))).trans e⟩
 ·exact .inr ⟨λz=>k3 (z k k2),c,(wG (KY rfl (by omega))).trans e⟩
abbrev RW:Ev:=Zr (kh (zc qX yg (Qm (mQ qG (qi yg)))) (zc Zp (zc zA yg (qP Jp qj)) zW)) zZ wy
def Y9 (H:∀v∈t.flatten,0<=v/\v<8){v:Int}:v∈t.flatten↔0<=v/\v.toNat∈dist t:=by
 rw[Qj]
 constructor
 ·intro h
  have:=H v h
  exact⟨this.1,by omega,by rwa[a6 this.1]⟩
 ·rintro⟨h0,_,h⟩
  rwa[a6 h0]at h
def Ek (P:1<=t.length)(N:t.length<=8)(I:Sq t)(H:∀v∈t.flatten,0<=v/\v<8)(ev:QL t){r:Nat}{y0 y1 y4 y5:Option W}(e:B[r]? =some (.lst (((dist t).map λ(i:Nat)=>(i:Int)).map W.int))):
  ∃J,(qW t/\RW [y0,y1,some (.int (t.length:Int)),some (zI t),y4,y5,some (.ref r)] B=.ok (zI t) J)∨(¬qW t/\RW [y0,y1,some (.int (t.length:Int)),some (zI t),y4,y5,some (.ref r)] B=.ok .non J):=by
 have Y:(dist t).length<=8:=by unfold dist;exact aQ (length_filter_le _ _) (by simp)
 have Q:mQ qG (qi yg) [y0,y1,some (.int (t.length:Int)),some (zI t),y4,y5,some (.ref r)] B=.ok (.int ((dist t).length:Int)) B:=by
  rw[yG (kA (w:=.ref r) (A1:=B) (ws:=((dist t).map λ(i:Nat)=>(i:Int)).map W.int) (zq rfl) (by unfold zS;dsimp only;rw[e]))]
  unfold qG;rw[ah,ah]
 have S:=Ur Q (by omega)
 have hn:(B++[.lst (iL (List.range (dist t).length))])[B.length]? =some (.lst (((List.range (dist t).length).map λ(i:Nat)=>(i:Int)).map W.int)):=qJ.trans (by unfold iL;rw[aO];rfl)
 have E:=(zJ (zq (ρ:=[y0,y1,some (.int (t.length:Int)),some (zI t),y4,y5,some (.ref r)]) (A:=B) (i:=6) rfl) S).trans (BE (jx e) hn);have l:=jx (u:=.lst (iL (List.range (dist t).length))) e;generalize B++[.lst (iL (List.range (dist t).length))]=p at E l;refine⟨p,?_⟩;have Z:(0:Nat)∈dist t:=by
  obtain⟨_,_,_,D⟩:=JZ (t:=t) I (a:=0) (b:=0) (by omega) (by omega)
  rw[(ev 0 (by omega) 0 (by omega)).1.mpr rfl]at D
  exact Qj.mpr ⟨by decide,D⟩
 by_cases c:dist t=List.range (dist t).length
 ·have C:(dist t).map (λ(i:Nat)=>(i:Int))=(List.range (dist t).length).map λ(i:Nat)=>(i:Int):=congrArg _ c
  rw[ax C]at E;obtain⟨M,L⟩:∃M,(dist t).length=M+1:=⟨(dist t).length-1,by have:=List.length_pos_of_mem Z;omega⟩
  rw[L]at c;have fu:Yz t:=λk ⟨v,g,T⟩=>by
   have n:=((Y9 H).mp g).2;rw[c]at n;have X:=ck.mp n;refine(Y9 H).mpr ⟨by omega,?_⟩
   rw[c];exact ck.mpr (by omega)
  have s:p[r]? =some (.lst (((List.range M).map λ(i:Nat)=>(i:Int)).map W.int++[.int (M:Int)])):=by
   rw[l,c,range_succ,aX,aX]
   rfl
  have o:zc Zp (zc zA yg (qP Jp qj)) zW [y0,y1,some (.int (t.length:Int)),some (zI t),y4,y5,some (.ref r)] p=.ok (.bl (decide ((M:Int)<(t.length:Int)))) p:=(zJ ((zJ (zq rfl) ((Ki qb).trans rfl)).trans (IG s)) (zq rfl)).trans rfl;have y:(M:Int)∈t.flatten:=(Y9 H).mpr ⟨by omega,by rw[c];exact ck.mpr (by omega)⟩
  by_cases d:(M:Int)<(t.length:Int)
  ·rw[ax d]at o
   refine .inl ⟨⟨P,N,I,λr e v g=>?_,λa b x H=>(ev a x b H).1,λa b x H=>(ev a x b H).2,fu⟩,(RD ((Ze E).trans o)).trans (zq rfl)⟩;have q:v∈t.flatten:=List.mem_flatten.mpr ⟨r,e,g⟩;have n:=(Y9 H).mp q;rw[c]at n
   have:=ck.mp n.2
   omega
  ·rw[ay d]at o
   refine .inr ⟨λz=>d ?_,(Rv ((Ze E).trans o)).trans qb⟩;obtain⟨r,e,g⟩:=List.mem_flatten.mp y;exact(z.lo r e _ g).2
 ·have C:¬(dist t).map (λ(i:Nat)=>(i:Int))=(List.range (dist t).length).map λ(i:Nat)=>(i:Int):=λz=>c ((List.map_inj_right (f:=λ(i:Nat)=>(i:Int)) λa b (h:(a:Int)=(b:Int))=>by omega).mp z)
  rw[ay C]at E;refine .inr ⟨λz=>c ?_,(Rv (Jd E)).trans qb⟩;refine down 8 λi j K U h=>?_;exact ax (z.fu i ⟨_,of_decide_eq_true h,by omega⟩)
def Lf (s:j7 x)(hl:x.length<=900)(A:Hx):(qW (Mx x)/\Z9 [.str x] A=.ok (zI (Mx x)) A)∨(¬qW (Mx x)/\Z9 [.str x] A=.ok .non A):=by
 have hn:(zC x).length<=x.length+2:=by have:=PyProof.Rows.split_le x "/";omega
 have hp1:1<=(zC x).length:=PyProof.Rows.split_pos x "/";have k:(Mx x).length=(zC x).length:=ah ..
 suffices z:∃B,(qW (Mx x)/\YE [some (.str x),none,none,none,none,none,none] []=.ok (.rt (zI (Mx x))) B)∨(¬qW (Mx x)/\YE [some (.str x),none,none,none,none,none,none] []=.ok (.rt .non) B) by
  obtain⟨B,z|z⟩:=z
  ·exact .inl ⟨z.1,Jg (A1:=B) rfl (Q8 _) (ji z.2)⟩
  ·exact .inr ⟨z.1,Jg (A1:=B) rfl rfl (ji z.2)⟩
 have e1:=YY (ms:=zm) (x:=x) (ρ:=[some (.str x),none,none,none,none,none,none]) (A:=[]) (zq rfl) (by omega)
 have Q:([]++[.lst ((zC x).map W.str)]:Hx)[0]? =some (.lst ((zC x).map W.str)):=rfl;generalize ([]++[.lst ((zC x).map W.str)]:Hx)=A1 at e1 Q;have e1':jm wI zm (zy (.str "/")) [some (.str x),none,none,none,none,none,none] []=.ok (.ref 0) A1:=e1;have e2:mQ qG (qi zu) [some (.str x),some (.ref 0),none,none,none,none,none] A1=.ok (.int ((zC x).length:Int)) A1:=by
  rw[yG (kA (w:=.ref 0) (A1:=A1) (ws:=(zC x).map W.str) (zq rfl) (by unfold zS;dsimp only;rw[Q]))]
  unfold qG;rw[ah]
 have go:∀(r:Ex),zl (zN 1 (jm wI zm (zy (.str "/")))) (zl (zN 2 (mQ qG (qi zu))) r) [some (.str x),none,none,none,none,none,none] []=r [some (.str x),some (.ref 0),some (.int ((zC x).length:Int)),none,none,none,none] A1:=λr=>
  (zK (qw e1')).trans (zK (qw e2))
 unfold YE;rw[go];have K:zc Jz zW km [some (.str x),some (.ref 0),some (.int ((zC x).length:Int)),none,none,none,none] A1=.ok (.bl (decide (((zC x).length:Int) > 8))) A1:=(zJ (zq rfl) (qb (w:=.int 8))).trans rfl
 by_cases c8:(zC x).length > 8
 ·rw[ax (by omega)]at K
  exact⟨A1,.inr ⟨λz=>by have:=z.n8;omega,qm ((yH (KC K)).trans (qm (ja qb)))⟩⟩
 rw[ay (by omega)]at K
 have ec1:=U5 (cap:=[2]) (mi:=zu) (ifs:=zc qx (qP gr zm) zu) (me:=zm) (ρ:=[some (.str x),some (.ref 0),some (.int ((zC x).length:Int)),none,none,none,none]) (A:=A1) (f:=W.str) (g:=W.str) (L:=zC x) (P:=λp=>!decide ((p.length:Int)=((zC x).length:Int))) (zq rfl) Q (by omega)
  (λp H=>(zJ (show qP gr zm [some (.str p),some (.int ((zC x).length:Int))] A1=.ok (.int (p.length:Int)) A1 from (Ki (zq rfl)).trans (Sa (by have:=J1 H;omega))) (zq (w:=.int ((zC x).length:Int)) rfl)).trans (Wy _ _ _)) λp _ _=>zq rfl
 have l:∀(P:Str->Bool),∀y∈((zC x).filter P).map W.str,Part y:=λP y hy=>by
  obtain⟨p,H,rfl⟩:=cf.mp hy;exact FP (ZO s (List.mem_filter.mp H).1)
 have j:=(zJ (gf ec1) (jX qK)).trans (TF (jx qJ) (l _) qJ);have a1:=jx (u:=.lst []) (jx (u:=.lst (((zC x).filter λp=>!decide ((p.length:Int)=((zC x).length:Int))).map W.str)) Q);generalize A1++[.lst (((zC x).filter λp=>!decide ((p.length:Int)=((zC x).length:Int))).map W.str)]++[.lst []]=A2 at j a1
 by_cases cl:∀p∈zC x,p.length=(zC x).length
 case neg=>
  obtain⟨p,H,D⟩:∃p∈zC x,p.length≠(zC x).length:=Classical.byContradiction λz=>cl λp H=>Classical.byContradiction λq=>z ⟨p,H,q⟩;have o:(!(((zC x).filter λp=>!decide ((p.length:Int)=((zC x).length:Int))).map W.str).isEmpty)=true:=by
   rw[br,List.isEmpty_eq_false_iff];intro z
   have:=List.map_eq_nil_iff.mp z
   have:=List.filter_eq_nil_iff.mp this p H
   rw[ay (by omega)]at this
   exact this rfl
  rw[o]at j;refine⟨A2,.inr ⟨λz=>D ?_,qm ((yH ((Zh K).trans j)).trans (qm (ja qb)))⟩⟩
  have:=z.sq _ (cf.mpr ⟨p,H,rfl⟩)
  rwa[Gx,k]at this
 have X:(!(((zC x).filter λp=>!decide ((p.length:Int)=((zC x).length:Int))).map W.str).isEmpty)=false:=by
  rw[List.filter_eq_nil_iff.mpr λp H=>by rw[ax (by have:=cl p H;omega)];simp]
  rfl
 rw[X]at j;have e0s:j7 ("":Str):=λc d=>by rw[show(("":Str)).cps.toList=[] by decide +kernel]at d;cases d
 have M:∀p∈zC x,j7 (Txt.stripChars p fS):=λp H c d=>by
  refine ZO s H c ?_;unfold Txt.stripChars at d;rw[PyProof.Rows.stripBy_eq]at d;have I:c∈(p.cps.extract _ _).toList:=d;rw[Array.toList_extract]at I;exact List.mem_of_mem_drop (List.mem_of_mem_take I)
 have ec2:=U5 (cap:=[]) (mi:=zu) (ifs:=zc qx (jm gF zm (zy (.str fS))) (zy (.str ""))) (me:=zm) (ρ:=[some (.str x),some (.ref 0),some (.int ((zC x).length:Int)),none,none,none,none]) (A:=A2) (f:=W.str) (g:=W.str) (L:=zC x) (P:=λp=>!(Txt.stripChars p fS == "")) (zq rfl) a1 (by omega)
  (λp H=>by
   have D:=J1 H;have e:jm gF zm (zy (.str fS)) [some (.str p)] A2=.ok (.str (Txt.stripChars p fS)) A2:=by
    show gF (.str p) (.str fS) A2=_;unfold gF;dsimp only;rw[ag (by omega)]
   exact(zJ e qb).trans (YA (M p H) e0s A2)) λp _ _=>zq rfl
 have E:=(zJ (gf ec2) (jX qK)).trans (TF (jx qJ) (l _) qJ);have a3:=jx (u:=.lst []) (jx (u:=.lst (((zC x).filter λp=>!(Txt.stripChars p fS == "")).map W.str)) a1);generalize A2++[.lst (((zC x).filter λp=>!(Txt.stripChars p fS == "")).map W.str)]++[.lst []]=n at E a3;have go2:∀(r:Ex)(m:Ex),zl (qB (y8 (zc Jz zW km) (zc qx (qh (zO 1 [2] (qo zu) (zF 0) (zc qx (qP gr zm) zu) (zL zm))) (z8 zo))) m zB) r [some (.str x),some (.ref 0),some (.int ((zC x).length:Int)),none,none,none,none] A1=r [some (.str x),some (.ref 0),some (.int ((zC x).length:Int)),none,none,none,none] A2:=λr m=>
  zK ((yd ((Zh K).trans j)).trans jM)
 rw[go2]
 by_cases cs:∀p∈zC x,∀c∈p.cps.toList,48<=c/\c<56
 case neg=>
  obtain⟨p,H,C⟩:∃p∈zC x,¬∀c∈p.cps.toList,48<=c/\c<56:=Classical.byContradiction λz=>cs λp H=>Classical.byContradiction λq=>z ⟨p,H,q⟩;have o:(!(((zC x).filter λp=>!(Txt.stripChars p fS == "")).map W.str).isEmpty)=true:=by
   rw[br,List.isEmpty_eq_false_iff];intro z
   have:=List.map_eq_nil_iff.mp z
   have:=List.filter_eq_nil_iff.mp this p H
   rw[beq_eq_false_iff_ne.mpr λq=>C ((Uu (ZO s H)).mp q)]at this;exact this rfl
  rw[o]at E;refine⟨n,.inr ⟨λz=>C λc d=>?_,qm ((yH E).trans (qm (ja qb)))⟩⟩;have N:=z.lo _ (cf.mpr ⟨p,H,rfl⟩) (fg c) (cf.mpr ⟨c,d,rfl⟩);rw[Sw c (ZO s H c d),k]at N
  by_cases q:48<=c/\c<58
  ·rw[ag q]at N
   omega
  ·rw[ar q]at N
   omega
 have U:(!(((zC x).filter λp=>!(Txt.stripChars p fS == "")).map W.str).isEmpty)=false:=by
  rw[List.filter_eq_nil_iff.mpr λp H=>by rw[aI.mpr ((Uu (ZO s H)).mpr (cs p H))];simp]
  rfl
 rw[U]at E;have Z:∀(r:Ex)(m:Ex),zl (qB (zc qx (qh (zO 1 [] (qo zu) (zF 0) (zc qx (jm gF zm (zy (.str fS))) (zy (.str ""))) (zL zm))) (z8 zo)) m zB) r [some (.str x),some (.ref 0),some (.int ((zC x).length:Int)),none,none,none,none] A2=r [some (.str x),some (.ref 0),some (.int ((zC x).length:Int)),none,none,none,none] n:=λr m=>
  zK ((yd E).trans jM)
 rw[Z];have ef:Vd (qP Jl zm) zu [some (.str x),some (.ref 0),some (.int ((zC x).length:Int)),none,none,none,none] n=.ok (zI (Mx x)) n:=Xw (f:=fg) s hl (zq rfl) a3 λp H c A d=>(Ki (zq rfl)).trans (by
  have:=cs p H c d
  show(if (⟨#[c]⟩:Str).length<=640 then(match PySem.intText? ⟨#[c]⟩ with|some i=>R.ok (W.int i) A|none=>.bad) else .bad)=_
  rw[ag (by show 1<=640;decide),int_tab c this.2 this.1])
 have Y:∀(r:Ex),zl (zN 3 (Vd (qP Jl zm) zu)) r [some (.str x),some (.ref 0),some (.int ((zC x).length:Int)),none,none,none,none] n=r [some (.str x),some (.ref 0),some (.int ((zC x).length:Int)),some (zI (Mx x)),none,none,none] n:=λr=>zK (qw ef);rw[Y];have sq:Sq (Mx x):=λr T=>by
  obtain⟨p,H,rfl⟩:=cf.mp T;rw[Gx,k];exact cl p H
 have J:∀v∈(Mx x).flatten,0<=v/\v<8:=λv S=>by
  obtain⟨r,T,S⟩:=List.mem_flatten.mp S;obtain⟨p,H,rfl⟩:=cf.mp T;obtain⟨c,d,rfl⟩:=cf.mp S;have N:=cs p H c d;rw[Sw c (by omega),ag (by omega)]
  omega
 rw[<- k];rcases HW (t:=Mx x) (A:=n) (y0:=some (.str x)) (y1:=some (.ref 0)) (by omega) sq with ⟨ev,y4,y5,e⟩|⟨ev,A',e⟩
 ·obtain⟨B,r,ek,hk⟩:=LJ (m:=zZ) (ρ:=[some (.str x),some (.ref 0),some (.int ((Mx x).length:Int)),some (zI (Mx x)),y4,y5,none]) (A:=n) (by omega) (by omega) sq J (zq rfl)
  obtain⟨B',hf⟩:=Ek (y0:=some (.str x)) (y1:=some (.ref 0)) (y4:=y4) (y5:=y5) (by omega) (by omega) sq J ev hk
  refine⟨B',hf.imp (λh=>⟨h.1,?_⟩) λh=>⟨h.1,?_⟩⟩<;>exact(zK e).trans ((zK (qw ek)).trans (qm (ja h.2)))
 ·exact⟨A',.inr ⟨λz=>ev λa ha b J=>⟨z.dg a b ha J,z.sy a b ha J⟩,qm e⟩⟩
end
section
variable {r:bM}{B C:Hx}{w v:W}
def strs_map (l:bR):strsOf (l.map W.str)=some l:=by
 induction l with
 |nil=>rfl|cons x l i=>show(strsOf (l.map W.str)).map (x::·)=_;rw[i];rfl
def GI {ma mb:Ev}{A2:Hx}{sep:Str}{p:Nat}{l:bR}(a:ma ρ A=.ok (.str sep) A1)(H:mb ρ A1=.ok (.ref p) A2)(h:A2[p]? =some (.lst (l.map W.str)))(hok:JoinOk sep l=true):jm kP ma mb ρ A=.ok (.str (Txt.join sep l)) A2:=by
 unfold jm;rw[a,zD];dsimp only;rw[H,zD];unfold kP;dsimp only;rw[h];dsimp only;rw[strs_map];dsimp only;rw[ag hok]
abbrev Ve:Ev:=jm kP (zy (.str "")) (qh (zO 1 [] (qo zm) (zF 0) zY (zL (qP QD zm))))
def rw_ok (h:∀v∈r,0<=v/\v<8)(l:r.length<=8)(h0:ρ[0]? =some (some (zU r)))(A:Hx):Ve ρ A=.ok (.str (Z1 r)) (A++[.lst ((r.map wU).map W.str)]):=by
 have e:=Gr (cap:=[]) (A:=A) (ρ:=ρ) (ws:=r.map W.int) (me:=qP QD zm) (g:=λw=>match w with|.int i=>.str (wU i)|_=>.non) (zq h0) (by rw[ah];unfold qa;omega) (λw hw=>by
  obtain⟨v,H,rfl⟩:=cf.mp hw
  have:=h v H
  show(R.ok (W.int v) A).bind (λx A1=>QD x A1)=_;rw[zD];show(if 0<=v/\v<1000 then R.ok (W.str (wU v)) A else R.bad)=R.ok (W.str (wU v)) A;rw[ag (by omega)])
 rw[aO]at e;refine GI qb (gf e) (qJ.trans (by rw[aO];rfl)) (RH (b:=1) (λy a=>?_) (by rw[ah];exact l) (by decide) (by decide +kernel)) |>.trans ?_
 ·obtain⟨v,H,rfl⟩:=cf.mp a
  have:=h v H
  rw[TZ this.1 this.2];exact au _
 ·rw[aO]
  rfl
abbrev Pj (m:Ev):Ev:=jm kP (zy (.str "/")) (qh (zO 1 [] (qo m) (zF 0) zY (zL Ve)))
def DV {m:Ev}(H:qW t)(h:m ρ A=.ok (zI t) A):∃B,Pj m ρ A=.ok (.str (txt t)) B/\Ext A B:=by
 have f:=H.n8;have l:(t.map zU).length=t.length:=ah ..;obtain⟨j,acc,C,e,_,a,x⟩:=JK (nl:=1) (cap:=[]) (mi:=qo m) (tw:=zF 0) (ifs:=zY) (em:=zL Ve) (N:=t.length) (ρ:=ρ) (A:=A)
  (I:=λi ρ acc D=>(∃y,ρ=[y])/\acc=(t.take i).map (λr=>W.str (Z1 r))/\Ext A D) (Qo (ws:=t.map zU) h) l
  (λi ρ acc D d ⟨⟨y,c⟩,a,x⟩=>by
   subst c a;have hm:=aN d;refine⟨zU t[i],[some (zU t[i])],by show some ((t.map zU)[i]?)=_;rw[aw,aa d];rfl,rfl,.inl ⟨D,_,_,_,rfl,JT (rw_ok (H.lo8 _ hm) (by rw[H.sq _ hm];exact f) rfl D) (by rw[ah,bo];unfold qa;omega),⟨_,rfl⟩,?_,x.app⟩⟩
   rw[take_succ d,aX]
   rfl)
  (λρ acc D _=>by show some ((t.map zU)[t.length]?)=_;rw[aL (by omega)]) ⟨⟨none,rfl⟩,rfl,Ext.refl⟩
 rw[take_length]at a;subst a;refine⟨C++[.lst (t.map λr=>W.str (Z1 r))],GI qb (gf e) (qJ.trans (by rw[aO];rfl)) (RH (b:=8) (λy k=>?_) (by rw[ah];exact f) (by decide) (by decide +kernel)),x.app⟩
 obtain⟨r,g,rfl⟩:=cf.mp k;rw[U6 (H.lo8 r g),H.sq r g];exact f
end
structure TX (n:Nat)(x:Str):Prop where
 a:j7 x
 l:x.length<=n
section
variable {B C A0:Hx}{q b:Nat}{y p:Str}{l u:bU}{L M:bR}{m ma mb:Ev}{pl pu:Po}
def TX.mono (h:TX n x)(hn:n<=k):TX k x:=⟨h.a,aQ h.l hn⟩
def TX.add (h:TX n x)(g:TX k y):TX (n+k) (x++y):=by
 have e:(x++y).cps.toList=x.cps.toList++y.cps.toList:=by show(x.cps++y.cps).toList=_;exact toList_append
 refine⟨λc H=>?_,?_⟩
 ·rw[e]at H
  exact(List.mem_append.mp H).elim (h.a c) (g.a c)
 ·have z:(x++y).length=x.length+y.length:=by
   show(x++y).cps.size=x.cps.size+y.cps.size;rw[<- aG,e,aD,aG,aG]
  have:=h.l
  have:=g.l
  omega
def FG:(Txt.slice x l u).length<=(Builtin.Str.strSliceIndices l u 1 x.length).length:=by
 unfold Txt.slice
 split
 ·rename_i h
  rw[aj,aI]at h
  have:=aI.mp h.2
  omega
 ·show(List.filterMap _ _).toArray.size<=_
  rw[aE];exact List.length_filterMap_le _ _
def TX.cut (h:TX n x):TX n (Txt.slice x l u):=by
 refine⟨λc H=>?_,aQ (Txt.slice_le x l u) h.l⟩;unfold Txt.slice at H
 split at H
 ·exact h.a c H
 ·obtain⟨j,_,b⟩:=List.mem_filterMap.mp (show c∈List.filterMap _ _ from H)
  refine h.a c ?_;rw[<- bh]at b;exact bE b
def Bn (n:Nat):(Builtin.Str.strSliceIndices (some 1) (some 2) 1 n).length<=1:=by
 unfold Builtin.Str.strSliceIndices sliceRange;simp only[show(1:Int) > 0 by decide,if_true,ah,bf]
 split<;>(try split)<;>(try split)<;>(try simp only[Int.ediv_one])<;>omega
def Bj (n:Nat):(Builtin.Str.strSliceIndices none (some 1) 1 n).length<=1:=by
 unfold Builtin.Str.strSliceIndices sliceRange;simp only[show(1:Int) > 0 by decide,if_true,ah,bf]
 split<;>(try split)<;>(try split)<;>(try simp only[Int.ediv_one])<;>omega
def DW {c:Nat}(h:c<128):TX 1 ⟨#[c]⟩:=⟨λd hd=>by rw[cn.mp (show d∈[c] from hd)];exact h,au _⟩
def SV (m:Ev)(ρ:En)(n:Nat):Prop:=∃y,(∀A,m ρ A=.ok (.str y) A)/\TX n y
def SV.var (h:ρ[i]? =some (some (.str x)))(g:TX n x):SV (zH i) ρ n:=⟨x,λ_=>zq h,g⟩
def SV.lit (g:TX n x):SV (zy (.str x)) ρ n:=⟨x,λ_=>qb,g⟩
theorem SV.add (h:SV ma ρ n)(g:SV mb ρ k)(H:n+k<=100000):SV (zc yX ma mb) ρ (n+k):=by
 obtain⟨x,E,t1⟩:=h;obtain⟨y,e,t⟩:=g;refine⟨x++y,λA=>(zJ (E A) (e A)).trans ?_,t1.add t⟩;unfold yX;dsimp only
 have:=t1.l
 have:=t.l
 rw[ag (by omega)]
def Sk (h:∀A,m ρ A=.ok (.str x) A)(H:x.length<=100000)(b:∀A,pl ρ A=.ok l A)(a:∀A,pu ρ A=.ok u A)(A:Hx):wO m pl pu ρ A=.ok (.str (Txt.slice x l u)) A:=by
 unfold wO;rw[h,zD,b,zD,a,zD];dsimp only;rw[ag H]
theorem SV.cut (h:SV m ρ n)(H:n<=100000)(b:∀A,pl ρ A=.ok l A)(a:∀A,pu ρ A=.ok u A):SV (wO m pl pu) ρ n:=by
 obtain⟨x,e,t⟩:=h;exact⟨_,Sk e (aQ t.l H) b a,t.cut⟩
def SV.cut1 (h:SV m ρ n)(H:n<=100000)(d:∀A,pl ρ A=.ok l A)(c:∀A,pu ρ A=.ok u A)(b:∀n,(Builtin.Str.strSliceIndices l u 1 n).length<=1):SV (wO m pl pu) ρ 1:=by
 obtain⟨x,e,t⟩:=h;exact⟨_,Sk e (aQ t.l H) d c,t.cut.a,aQ FG (b _)⟩
noncomputable def wt (L:bR):Nat:=(L.map λp=>p.length).sum+L.length
def J8:wt (L++M)=wt L+wt M:=by
 unfold wt;rw[aX,List.sum_append,aD];omega
def ZM:wt (p::L)=p.length+1+wt L:=by
 unfold wt;rw[aU,List.sum_cons,bc];omega
def FI {L M:bR}(h:List.Sublist L M):wt L<=wt M:=by
 induction h with
 |slnil=>exact au _|cons a _ i=>rw[ZM];omega|cons_cons a _ i=>rw[ZM,ZM];omega
def Xk:L.length<=wt L:=by unfold wt;omega
def E6 {L:bR}{p:Str}:p∈L->p.length<=wt L:=by
 induction L with
 |nil=>intro h;cases h|cons a L i=>
  intro h;rw[ZM];rcases cc.mp h with rfl|h
  ·omega
  ·have:=i h
   omega
theorem Xa {c:Nat}:∀{l:bR},l≠[]->(jl [c] (l.map λp=>p.cps.toList)).length+1=wt l
 |[],h=>absurd rfl h|[a],_=>by
  rw[ZM];show a.cps.toList.length+1=_;rw[aG]
  rfl
 |a::b::r,_=>by
  rw[ZM,<- Xa (c:=c) (l:=b::r) (by simp)]
  show(a.cps.toList++[c]++jl [c] ((b::r).map λp=>p.cps.toList)).length+1=_;rw[aD,aD,aG,a5];show a.length+1+_+1=_;omega
def Xf:(("/":Str)).cps.toList=[47]:=by decide +kernel
def F2:wt (zC x)=x.length+1:=by
 have H:=PyProof.Rows.split_pos x "/";have h:zC x≠[]:=λz=>by
  have b:(zC x).length=0:=by rw[z];rfl
  have a:0<(zC x).length:=H;omega
 rw[<- Xa (c:=47) h,<- Xf,<- J3,StrLaws.join_split,aG]
 rfl
def Kl (h:∀p∈L,j7 p)(hw:wt L<=n)(hn:n<=4000):TX n (Txt.join "/" L)/\JoinOk "/" L=true:=by
 have e:Txt.join "/" L=Str.join "/" L:=StrLaws.glued_eq_join _ _;have E:(Txt.join "/" L).cps.toList=jl [47] (L.map λp=>p.cps.toList):=by rw[e,J3,Xf]
 refine⟨⟨λc b=>?_,?_⟩,?_⟩
 ·rw[E]at b
  rcases SX b with rfl|⟨a,g,H⟩
  ·decide
  ·obtain⟨p,f,rfl⟩:=cf.mp g
   exact h p f c H
 ·show(Txt.join "/" L).cps.size<=n
  rw[<- aG,E]
  by_cases q:L=[]
  ·subst q;exact zero_le _
  ·have:=Xa (c:=47) q
   omega
 ·unfold JoinOk
  rw[br];refine StrLaws.joinFits (B:=4000) (λy d=>aQ (E6 d) (by omega)) ?_
  have j:=Xk (L:=L);have i:("/":Str).length=1:=by decide +kernel
  rw[i];omega
def LT (m:Ev)(ρ:En)(a:Hx)(L:bR):Prop:=∀A,Ext a A->∃r B,m ρ A=.ok (.ref r) B/\Ext A B/\B[r]? =some (.lst (L.map W.str))
noncomputable def QG (L:bR)(lo h:bU):bR:=(L.drop (HT.j9 L.length 0 lo)).take (HT.j9 L.length L.length h-HT.j9 L.length 0 lo)
def ZH (a:Nat):QG L none (some (a:Int))=L.take a:=by
 unfold QG;rw[HT.So,show HT.j9 L.length 0 none=0 from rfl,List.drop_zero,Nat.sub_zero,List.take_eq_take_iff]
 omega
def QY (a:Nat):QG L (some (a:Int)) none=L.drop a:=by
 unfold QG;rw[HT.So,show HT.j9 L.length L.length none=L.length from rfl,List.take_of_length_le (by rw[length_drop];omega)]
 by_cases q:a<=L.length
 ·rw[Nat.min_eq_left q]
 ·rw[Nat.min_eq_right (by omega),List.drop_eq_nil_of_le (by omega),List.drop_eq_nil_of_le (by omega)]
def LT.var (h:ρ[i]? =some (some (.ref q)))(H:A0[q]? =some (.lst (L.map W.str))):LT (zH i) ρ A0 L:=λA x=>⟨q,A,zq h,Ext.refl,x.at H⟩
def LT.cut (h:LT m ρ A0 L)(b:∀A,pl ρ A=.ok l A)(a:∀A,pu ρ A=.ok u A):LT (yY m pl pu) ρ A0 (QG L l u):=λA x=>by
 obtain⟨r,B,e,X,H⟩:=h A x;refine⟨B.length,B++[.lst ((QG L l u).map W.str)],?_,X.trans Ext.one,qJ⟩;unfold yY;rw[e,zD,b,zD,a,zD];dsimp only;rw[H];dsimp only
 congr 3
 unfold KW QG;rw[ah,List.map_take,List.map_drop]
def LT.add (h:LT ma ρ A0 L)(g:LT mb ρ A0 M)(l:L.length+M.length<=100000):LT (zc qf ma mb) ρ A0 (L++M):=λA x=>by
 obtain⟨r,B,e,X,a⟩:=h A x;obtain⟨s,C,E,xc,H⟩:=g B (x.trans X);refine⟨C.length,C++[.lst ((L++M).map W.str)],(zJ e E).trans ((JQ (xc.at a) H (by rw[ah,ah];unfold qa;omega)).trans ?_),(X.trans xc).trans Ext.one,qJ⟩
 rw[aX]
theorem LT.one (h:ρ[i]? =some (some (.str p))):LT (z8 (zi (zH i) zo)) ρ A0 [p]:=λA x=>⟨A.length,A++[.lst [.str p]],jX (qg (zq h) qK),Ext.one,qJ⟩
theorem LT.join (h:LT m ρ A0 L)(hok:JoinOk "/" L=true)(x:Ext A0 A):∃B,jm kP (zy (.str "/")) m ρ A=.ok (.str (Txt.join "/" L)) B/\Ext A B:=by
 obtain⟨r,B,e,X,H⟩:=h A x;exact⟨B,GI qb e H hok,X⟩
end
noncomputable abbrev yf:Str := " !\"#$&'()*+,-./0123456789:;<=>?@ABCDEFGHIJKLMNOPQRSTUVWXYZ[\\]^_`abcdefghijklmnopqrstuvwxyz{|}~"
noncomputable abbrev Pr:Str := "0123456/"
noncomputable def Wj (s:Str)(j:Nat):Bool:=match s.cps[j]? with
 |some c=>decide (c<128)|none=>false
def D7:∀j:Nat,j<94->Wj yf j=true:=by decide +kernel
def Cq:∀j:Nat,j<8->Wj Pr j=true:=by decide +kernel
section
variable {B:Hx}{q:Nat}{y p:Str}{L M:bR}{ma mb:Ev}
def Ss {s:Str}(h:Wj s j=true)(a:j<1000)(A:Hx):∃c,c<128/\gR (W.str s) (.int (j:Int)) A=.ok (W.str ⟨#[c]⟩) A:=by
 unfold Wj at h
 split at h
 ·rename_i c H
  refine⟨c,of_decide_eq_true h,?_⟩;unfold gR;dsimp only;rw[ag (by omega),aM,H]
 ·cases h
def Sn {w v:W}{ma mb:Ev}{A2:Hx}(H:ma ρ A=.ok w A1)(h:mb ρ A1=.ok v A2):Yo i j ma mb ρ A=.ok (.nx ((ρ.set i (some w)).set j (some v))) A2:=by
 unfold Yo;rw[H,zD,h,zD]
def pN (A:Hx):yh ρ A=.ok none A:=rfl
def Qt {v:Int}(h:ρ[i]? =some (some (.int v)))(A:Hx):jC (zH i) ρ A=.ok (some v) A:=by
 unfold jC;rw[zq h,zD]
def Jf (v:Int)(A:Hx):jC (zy (.int v)) ρ A=.ok (some v) A:=by
 unfold jC;rw[qb,zD]
def Ew {a:Nat}(h:ρ[i]? =some (some (.int (a:Int))))(A:Hx):jC (zc qf (zH i) qj) ρ A=.ok (some ((a+1:Nat):Int)) A:=by
 unfold jC;rw[zJ (zq h) (qb (w:=.int 1))]
 rfl
def Dn (s:qL n A)(hx:j7 x)(hl:x.length<=700):∃y B,ZD [.ref n,W.str x] A=.ok (W.str y) B/\TX (2 * x.length+10) y/\Kn n A B:=by
 have T:TX x.length x:=⟨hx,au _⟩;unfold ZD WV;have el:zc qf (qP gr zu) qj [some (.ref n),some (W.str x),none,none,none,none,none,none,none,none,none,none,none] A=.ok (.int ((x.length:Int)+1)) A:=(zJ ((Ki (zq rfl)).trans (Sa (by omega))) (qb (w:=.int 1))).trans rfl
 obtain⟨a,A1,e1,ha,k1,_⟩:=wa s rfl el (by omega) (by omega)
 obtain⟨j1,A2,e2,hj1,k2,_⟩:=wa (ρ:=[some (.ref n),some (W.str x),some (.int (a:Int)),some (W.str yf),none,none,none,none,none,none,none,none,none]) k1.st rfl (qb (w:=.int 94)) (by decide) (by decide)
 obtain⟨j2,A3,e3,hj2,k3,_⟩:=wa (ρ:=[some (.ref n),some (W.str x),some (.int (a:Int)),some (W.str yf),none,none,none,none,none,none,none,none,none]) k2.st rfl (qb (w:=.int 8)) (by decide) (by decide)
 obtain⟨c1,hc1,f1⟩:=Ss (D7 j1 (by omega)) (by omega) A2
 obtain⟨c2,hc2,f2⟩:=Ss (Cq j2 (by omega)) (by omega) A3
 have e4:=jX (qg ((zJ (g:=gR) (zq (i:=3) rfl) e2).trans f1) (qg ((zJ (g:=gR) (qb (w:=W.str Pr)) e3).trans f2) qK));obtain⟨j3,Q,e5,hj3,k4,_⟩:=wa (ρ:=[some (.ref n),some (W.str x),some (.int (a:Int)),some (W.str yf),none,none,none,none,none,none,none,none,none]) (k3.st.ext (Ext.one (o:=O.lst [W.str ⟨#[c1]⟩,W.str ⟨#[c2]⟩]))) rfl (qb (w:=.int 2)) (by decide) (by decide)
 have hn3:=k3.st.lt;obtain⟨c,hc,e6⟩:∃c,c<128/\zA (.ref A3.length) (.int (j3:Int)) Q=.ok (W.str ⟨#[c]⟩) Q:=by
  have hA:Q[A3.length]? =some (O.lst [W.str ⟨#[c1]⟩,W.str ⟨#[c2]⟩]):=k4.kp.get qJ (by omega)
  rcases(show j3=0∨j3=1 by omega) with rfl|rfl
  ·exact⟨c1,hc1,wb hA rfl⟩
  ·exact⟨c2,hc2,wb hA rfl⟩
 have k14:Kn n A Q:=(((k1.trans k2).trans k3).trans (Kn.ext k3.st Ext.one)).trans k4;obtain⟨E,fl,tl⟩:=(SV.var (ρ:=[some (.ref n),some (W.str x),some (.int (a:Int)),some (W.str yf),some (W.str ⟨#[c]⟩),none,none,none,none,none,none,none,none]) (i:=1) rfl T).cut (by omega) pN (Qt (i:=2) rfl)
 obtain⟨X,fr,tr⟩:=(SV.var (ρ:=[some (.ref n),some (W.str x),some (.int (a:Int)),some (W.str yf),some (W.str ⟨#[c]⟩),none,none,none,none,none,none,none,none]) (i:=1) rfl T).cut (by omega) (Qt (i:=2) rfl) pN
 have e7:=YY (ms:=zu) (x:=x) (ρ:=[some (.ref n),some (W.str x),some (.int (a:Int)),some (W.str yf),some (W.str ⟨#[c]⟩),some (W.str E),some (W.str X),none,none,none,none,none,none]) (A:=Q) (zq rfl) (by omega)
 have k5:Kn n A (Q++[O.lst ((zC x).map W.str)]):=k14.trans (Kn.ext k14.st Ext.one);have h5:(Q++[O.lst ((zC x).map W.str)])[Q.length]? =some (O.lst ((zC x).map W.str)):=qJ;have hn4:=k14.st.lt;generalize Q++[O.lst ((zC x).map W.str)]=A5 at e7 k5 h5;generalize Q.length=q at e7 h5 hn4;have hw1:1<=(zC x).length:=PyProof.Rows.split_pos x "/";have hw2:=F2 (x:=x);have hw3:=Xk (L:=zC x);have lw:∀(B:Hx),B[q]? =some (O.lst ((zC x).map W.str))->∀(ρ:En),ρ[7]? =some (some (.ref q))->mQ qG (qi ka) ρ B=.ok (.int ((zC x).length:Int)) B:=λB hB ρ hρ=>by
  rw[yG (kA (w:=.ref q) (A1:=B) (ws:=(zC x).map W.str) (zq hρ) (by unfold zS;dsimp only;rw[hB]))]
  unfold qG;rw[ah]
 obtain⟨b,A6,e8,ho1,k6,_⟩:=wa (ρ:=[some (.ref n),some (W.str x),some (.int (a:Int)),some (W.str yf),some (W.str ⟨#[c]⟩),some (W.str E),some (W.str X),some (.ref q),none,none,none,none,none]) k5.st rfl (lw A5 h5 _ rfl) (by omega) (by omega)
 have h6:=k6.kp.get h5 (by omega)
 obtain⟨f,H,e9,ho2,k7,_⟩:=wa (ρ:=[some (.ref n),some (W.str x),some (.int (a:Int)),some (W.str yf),some (W.str ⟨#[c]⟩),some (W.str E),some (W.str X),some (.ref q),none,none,none,none,none]) k6.st rfl (lw A6 h6 _ rfl) (by omega) (by omega)
 have h7:=k7.kp.get h6 (by omega)
 have k57:Kn n A H:=(k5.trans k6).trans k7;have hm1:b<(zC x).length:=by omega
 have Y:=aN hm1;have e10:zA (.ref q) (.int (b:Int)) H=.ok (W.str (zC x)[b]) H:=wb h7 (by rw[aw,aa hm1];rfl)
 have hwd:=J1 Y;have hwa:=ZO hx Y;generalize (zC x)[b]=k at e10 hwd hwa Y;have tc:=DW hc;obtain⟨D,g1,t1⟩:=(SV.var (ρ:=[some (.ref n),some (W.str x),some (.int (a:Int)),some (W.str yf),some (W.str ⟨#[c]⟩),some (W.str E),some (W.str X),some (.ref q),some (.int (b:Int)),some (.int (f:Int)),some (W.str k),none,none]) (i:=5) rfl tl).add ((SV.var (i:=6) rfl tr).cut (by omega) (Jf 1) pN) (by omega)
 obtain⟨C,g2,t2⟩:=((SV.var (ρ:=[some (.ref n),some (W.str x),some (.int (a:Int)),some (W.str yf),some (W.str ⟨#[c]⟩),some (W.str E),some (W.str X),some (.ref q),some (.int (b:Int)),some (.int (f:Int)),some (W.str k),none,none]) (i:=5) rfl tl).add (SV.var (i:=4) rfl tc) (by omega)).add (SV.var (i:=6) rfl tr) (by omega)
 obtain⟨v,g3,t3⟩:=((SV.var (ρ:=[some (.ref n),some (W.str x),some (.int (a:Int)),some (W.str yf),some (W.str ⟨#[c]⟩),some (W.str E),some (W.str X),some (.ref q),some (.int (b:Int)),some (.int (f:Int)),some (W.str k),none,none]) (i:=5) rfl tl).add (SV.var (i:=4) rfl tc) (by omega)).add ((SV.var (i:=6) rfl tr).cut (by omega) (Jf 1) pN) (by omega)
 obtain⟨u,g4,t4⟩:=(((SV.var (ρ:=[some (.ref n),some (W.str x),some (.int (a:Int)),some (W.str yf),some (W.str ⟨#[c]⟩),some (W.str E),some (W.str X),some (.ref q),some (.int (b:Int)),some (.int (f:Int)),some (W.str k),none,none]) (i:=5) rfl tl).add ((SV.var (i:=6) rfl tr).cut1 (by omega) (Jf 1) (Jf 2) Bn) (by omega)).add ((SV.var (i:=6) rfl tr).cut1 (by omega) pN (Jf 1) Bj) (by omega)).add ((SV.var (i:=6) rfl tr).cut (by omega) (Jf 2) pN) (by omega)
 have e11:=jX (qg (g1 H) (qg (g2 H) (qg (g3 H) (qg (g4 H) qK))));have x8:Ext H (H++[O.lst [W.str D,W.str C,W.str v,W.str u]]):=Ext.one;have h8:(H++[O.lst [W.str D,W.str C,W.str v,W.str u]])[H.length]? =some (O.lst [W.str D,W.str C,W.str v,W.str u]):=qJ;generalize H++[O.lst [W.str D,W.str C,W.str v,W.str u]]=A8 at e11 x8 h8;have S:∀p∈zC x,j7 p:=λp P=>ZO hx P;have sub1:wt ((zC x).take b++(zC x).drop (b+1))<=wt (zC x):=by
  refine aQ (FI (M:=(zC x).take b++(zC x).drop b) (List.Sublist.append (List.Sublist.refl _) ?_)) (by rw[List.take_append_drop];exact au _)
  rw[<- List.drop_drop];exact List.drop_sublist 1 _
 have all1:∀p∈(zC x).take b++(zC x).drop (b+1),j7 p:=λp P=>(List.mem_append.mp P).elim (λh=>S p (List.mem_of_mem_take h)) λh=>S p (List.mem_of_mem_drop h);have ins:∀(R:bR)(o:Nat),wt R<=x.length+1->wt (R.take o++[k]++R.drop o)<=2 * x.length+10:=λR o hR=>by
  have e:wt (R.take o++R.drop o)=wt R:=by rw[List.take_append_drop]
  rw[J8]at e;rw[J8,J8,ZM,show wt []=0 from rfl]
  omega
 have insA:∀(R:bR)(o:Nat),(∀p∈R,j7 p)->∀p∈R.take o++[k]++R.drop o,j7 p:=λR o hR p P=>by
  rcases List.mem_append.mp P with P|P
  ·rcases List.mem_append.mp P with P|P
   ·exact hR p (List.mem_of_mem_take P)
   ·rw[cn.mp P];exact hwa
  ·exact hR p (List.mem_of_mem_drop P)
 have U:∀(L M:bR),wt (L++M)<=4000->L.length+M.length<=100000:=λL M h=>by
  have:=Xk (L:=L++M)
  rw[aD]at this;omega
 obtain⟨T5,J5⟩:=Kl all1 (n:=2 * x.length+10) (by omega) (by omega)
 obtain⟨T6,J6⟩:=Kl (insA (zC x) b S) (ins (zC x) b (by omega)) (by omega)
 obtain⟨T7,J7⟩:=Kl (insA _ f all1) (ins _ f (by omega)) (by omega)
 have in6:=ins (zC x) b (by omega)
 have in7:=ins _ f (aQ sub1 (by omega))
 have hq8:A8[q]? =some (O.lst ((zC x).map W.str)):=x8.at h7;have cA:∀(y11:Option W),LT (zc qf (yY ka yh (jC gB)) (yY ka (jC (zc qf gB qj)) yh)) [some (.ref n),some (W.str x),some (.int (a:Int)),some (W.str yf),some (W.str ⟨#[c]⟩),some (W.str E),some (W.str X),some (.ref q),some (.int (b:Int)),some (.int (f:Int)),some (W.str k),y11,none] A8 ((zC x).take b++(zC x).drop (b+1)):=λy11=>by
  rw[<- ZH (L:=zC x) b,<- QY (L:=zC x) (b+1)];exact((LT.var rfl hq8).cut pN (Qt rfl)).add ((LT.var rfl hq8).cut (Ew rfl) pN) (by rw[ZH,QY];exact U _ _ (by omega))
 have cB:LT (zc qf (zc qf (yY ka yh (jC gB)) (z8 (zi KO zo))) (yY ka (jC gB) yh)) [some (.ref n),some (W.str x),some (.int (a:Int)),some (W.str yf),some (W.str ⟨#[c]⟩),some (W.str E),some (W.str X),some (.ref q),some (.int (b:Int)),some (.int (f:Int)),some (W.str k),some (.ref H.length),none] A8 ((zC x).take b++[k]++(zC x).drop b):=by
  rw[<- ZH (L:=zC x) b,<- QY (L:=zC x) b];refine(((LT.var rfl hq8).cut pN (Qt rfl)).add (LT.one rfl) ?_).add ((LT.var rfl hq8).cut (Qt rfl) pN) ?_
  ·rw[ZH];exact U _ _ (by rw[J8]at in6;omega)
  ·rw[ZH,QY];exact U _ _ (by omega)
 obtain⟨A9,f5,x9⟩:=(cA (some (.ref H.length))).join J5 Ext.refl;obtain⟨A10,f6,x10⟩:=cB.join J6 x9;generalize Txt.join "/" ((zC x).take b++(zC x).drop (b+1))=t at f5 T5;generalize Txt.join "/" ((zC x).take b++[k]++(zC x).drop b)=r at f6 T6;have h10:=(x9.trans x10).at h8;have e12:=(zJ (zq (ρ:=[some (.ref n),some (W.str x),some (.int (a:Int)),some (W.str yf),some (W.str ⟨#[c]⟩),some (W.str E),some (W.str X),some (.ref q),some (.int (b:Int)),some (.int (f:Int)),some (W.str k),some (.ref H.length),none]) (A:=A8) (i:=11) rfl) (jX (qg f5 (qg f6 qK)))).trans (JQ (jx h10) qJ (by show 4+2<=100000;decide))
 have x11:Ext A8 (A10++[O.lst [W.str t,W.str r]]++[O.lst ([W.str D,W.str C,W.str v,W.str u]++[W.str t,W.str r])]):=((x9.trans x10).trans Ext.one).trans Ext.one;have h11:(A10++[O.lst [W.str t,W.str r]]++[O.lst ([W.str D,W.str C,W.str v,W.str u]++[W.str t,W.str r])])[(A10++[O.lst [W.str t,W.str r]]).length]? =some (O.lst ([W.str D,W.str C,W.str v,W.str u]++[W.str t,W.str r])):=qJ;generalize A10++[O.lst [W.str t,W.str r]]++[O.lst ([W.str D,W.str C,W.str v,W.str u]++[W.str t,W.str r])]=A11 at e12 x11 h11;generalize (A10++[O.lst [W.str t,W.str r]]).length=N at e12 h11;obtain⟨K,A12,e13,x12,h12⟩:=cA (some (.ref N)) A11 x11;have cC:LT (zc qf (zc qf (yY Wb yh (jC Wn)) (z8 (zi KO zo))) (yY Wb (jC Wn) yh)) [some (.ref n),some (W.str x),some (.int (a:Int)),some (W.str yf),some (W.str ⟨#[c]⟩),some (W.str E),some (W.str X),some (.ref q),some (.int (b:Int)),some (.int (f:Int)),some (W.str k),some (.ref N),some (.ref K)] A12 (((zC x).take b++(zC x).drop (b+1)).take f++[k]++((zC x).take b++(zC x).drop (b+1)).drop f):=by
  rw[<- ZH (L:=(zC x).take b++(zC x).drop (b+1)) f,<- QY (L:=(zC x).take b++(zC x).drop (b+1)) f];refine(((LT.var rfl h12).cut pN (Qt rfl)).add (LT.one rfl) ?_).add ((LT.var rfl h12).cut (Qt rfl) pN) ?_
  ·rw[ZH];exact U _ _ (by rw[J8]at in7;omega)
  ·rw[ZH,QY];exact U _ _ (by omega)
 obtain⟨l,f7,x13⟩:=cC.join J7 Ext.refl;generalize Txt.join "/" (((zC x).take b++(zC x).drop (b+1)).take f++[k]++((zC x).take b++(zC x).drop (b+1)).drop f)=J at f7 T7;have ts:TX 1 ("/":Str):=⟨λd hd=>by rw[Xf]at hd;rw[cn.mp hd];decide,by decide +kernel⟩
 have tb:TX 1 (" ":Str):=⟨λd hd=>by rw[show((" ":Str)).cps.toList=[32] by decide +kernel]at hd;rw[cn.mp hd];decide,by decide +kernel⟩
 obtain⟨I,g9,t9⟩:=(SV.lit ts).add (SV.var (ρ:=[some (.ref n),some (W.str x),some (.int (a:Int)),some (W.str yf),some (W.str ⟨#[c]⟩),some (W.str E),some (W.str X),some (.ref q),some (.int (b:Int)),some (.int (f:Int)),some (W.str k),some (.ref N),some (.ref K)]) (i:=1) rfl T) (by omega)
 obtain⟨Z,g10,t10⟩:=(SV.var (ρ:=[some (.ref n),some (W.str x),some (.int (a:Int)),some (W.str yf),some (W.str ⟨#[c]⟩),some (W.str E),some (W.str X),some (.ref q),some (.int (b:Int)),some (.int (f:Int)),some (W.str k),some (.ref N),some (.ref K)]) (i:=1) rfl T).add (SV.lit ts) (by omega)
 obtain⟨z,g11,t11⟩:=(SV.var (ρ:=[some (.ref n),some (W.str x),some (.int (a:Int)),some (W.str yf),some (W.str ⟨#[c]⟩),some (W.str E),some (W.str X),some (.ref q),some (.int (b:Int)),some (.int (f:Int)),some (W.str k),some (.ref N),some (.ref K)]) (i:=1) rfl T).add (SV.lit tb) (by omega)
 have h13:=(x12.trans x13).at h11;have e14:=(zJ (zq (ρ:=[some (.ref n),some (W.str x),some (.int (a:Int)),some (W.str yf),some (W.str ⟨#[c]⟩),some (W.str E),some (W.str X),some (.ref q),some (.int (b:Int)),some (.int (f:Int)),some (W.str k),some (.ref N),some (.ref K)]) (A:=A12) (i:=11) rfl) (jX (qg f7 (qg (zq (i:=1) rfl) (qg (g9 l) (qg (g10 l) (qg (g11 l) qK))))))).trans (JQ (jx h13) qJ (by show 6+5<=100000;decide))
 have x14:Ext H (l++[O.lst [W.str J,W.str x,W.str I,W.str Z,W.str z]]++[O.lst (([W.str D,W.str C,W.str v,W.str u]++[W.str t,W.str r])++[W.str J,W.str x,W.str I,W.str Z,W.str z])]):=(((((x8.trans x11).trans x12).trans x13).trans Ext.one).trans Ext.one);have h14:(l++[O.lst [W.str J,W.str x,W.str I,W.str Z,W.str z]]++[O.lst (([W.str D,W.str C,W.str v,W.str u]++[W.str t,W.str r])++[W.str J,W.str x,W.str I,W.str Z,W.str z])])[(l++[O.lst [W.str J,W.str x,W.str I,W.str Z,W.str z]]).length]? =some (O.lst (([W.str D,W.str C,W.str v,W.str u]++[W.str t,W.str r])++[W.str J,W.str x,W.str I,W.str Z,W.str z])):=qJ;have hr14:n<(l++[O.lst [W.str J,W.str x,W.str I,W.str Z,W.str z]]).length:=by
  have h1:=k57.st.lt;have h2:=((x8.trans x11).trans x12).trans x13;have h3:=h2.len;rw[aD];omega
 generalize l++[O.lst [W.str J,W.str x,W.str I,W.str Z,W.str z]]++[O.lst (([W.str D,W.str C,W.str v,W.str u]++[W.str t,W.str r])++[W.str J,W.str x,W.str I,W.str Z,W.str z])]=A14 at e14 x14 h14;generalize (l++[O.lst [W.str J,W.str x,W.str I,W.str Z,W.str z]]).length=r14 at e14 h14 hr14;have k14':Kn n A A14:=k57.trans (Kn.ext k57.st x14);obtain⟨j,A15,e15,hj,k15,_⟩:=wa (ρ:=[some (.ref n),some (W.str x),some (.int (a:Int)),some (W.str yf),some (W.str ⟨#[c]⟩),some (W.str E),some (W.str X),some (.ref q),some (.int (b:Int)),some (.int (f:Int)),some (W.str k),some (.ref r14),some (.ref K)]) k14'.st rfl (qb (w:=.int 11)) (by decide) (by decide)
 have h15:=k15.kp.get h14 (by omega)
 have allT:∀y∈[D,C,v,u,t,r,J,x,I,Z,z],TX (2 * x.length+10) y:=by
  intro y hy;simp only[mem_cons,not_mem_nil,or_false]at hy;rcases hy with rfl|rfl|rfl|rfl|rfl|rfl|rfl|rfl|rfl|rfl|rfl
  ·exact t1.mono (by omega)
  ·exact t2.mono (by omega)
  ·exact t3.mono (by omega)
  ·exact t4.mono (by omega)
  ·exact T5
  ·exact T6
  ·exact T7
  ·exact T.mono (by omega)
  ·exact t9.mono (by omega)
  ·exact t10.mono (by omega)
  ·exact t11.mono (by omega)
 have hj':j < [D,C,v,u,t,r,J,x,I,Z,z].length:=by show j<11;omega
 have e16:zA (.ref r14) (.int (j:Int)) A15=.ok (W.str [D,C,v,u,t,r,J,x,I,Z,z][j]) A15:=wb h15 (by
  show([D,C,v,u,t,r,J,x,I,Z,z].map W.str)[j]? =_;rw[aw,aa hj']
  rfl)
 refine⟨_,A15,ji ?_,allT _ (aN hj'),k14'.trans k15⟩;unfold VY;refine(zK (qw e1)).trans ?_;refine(zK (qw qb)).trans ?_;refine(zK (qw ((zJ e4 e5).trans e6))).trans ?_;refine(zK (Sn (fl Q) (fr Q))).trans ?_;refine(zK (qw e7)).trans ?_;refine(zK (Sn e8 e9)).trans ?_;refine(zK (qw ((zJ (zq rfl) (zq rfl)).trans e10))).trans ?_;refine(zK (qw e11)).trans ?_;refine(zK (qw e12)).trans ?_;refine(zK (qw e13)).trans ?_;refine(zK (qw e14)).trans ?_;exact qm (ja ((zJ (zq rfl) e15).trans e16))
end
section
variable {p g:Nat}{B:Hx}{w u v z:W}{PF:jy}
def Bx (A:Hx):yL LS 0 [u] A=ku [u] A:=by
 rw[T4 (t:=Q6 ku) rfl];unfold Q6 KS;dsimp only;exact jq (ws:=[u]) (A1:=A) rfl
def Bb (A:Hx):yL LS 1 [u] A=ku [u] A:=by
 rw[T4 (t:=Q7 ku) rfl];unfold Q7 KS;dsimp only;exact jq (ws:=[u]) (A1:=A) rfl
def Nl {t:Lm}(d:A[1]? =some (.tab jj Pt))(H:LS[k]? =some t)(c:gQ t.idx ρ=some ws)(a:yL LS k ws A=.exc x A1)(X:Ext A A1)(h:gn x=some g):∃B,zc qx (gm LS PF (gN RF) (zi (wm 1 jj Pt k (PF k)) zo)) (z8 (zi (zy (.int (g:Int))) zo)) ρ A=.ok (.bl false) B/\Ext A B:=by
 have e:gm LS PF (gN RF) (zi (wm 1 jj Pt k (PF k)) zo) ρ A=.ok (.ref (A1.length+9)) (A1++GX g):=by
  unfold gm;rw[qg (Tu d k) qK,zD]
  have:wM LS PF ρ [.clo k [] (PF k)]=some [.clo k ws (PF k)]:=by
   unfold wM Jt;dsimp only;rw[ag rfl,H];dsimp only;rw[c]
   rfl
  rw[this];exact Xq a h
 have x1:Ext A1 (A1++GX g):=⟨_,rfl⟩;have b:(A1++GX g)[A1.length+9]? =some (.lst [.int (g:Int)]):=by rw[av (by omega),show A1.length+9-A1.length=9 by omega];rfl
 refine⟨A1++GX g++[.lst [.int (g:Int)]],(zJ e (jX (qg qb qK))).trans ((QM (l:=[(g:Int)]) (m:=[(g:Int)]) (jx b) qJ).trans ?_),(X.trans x1).app⟩;rw[ax rfl]<;>rfl
def CB {ty:Ty}(h:jE w A=some ty)(hn:yx ty .str=false):ku [w] A=.exc "NoText" A:=by
 refine UW ?_;unfold YL;exact Y2 ((yH (Qs (gh (k:=false) ((Jn (zq rfl) h).trans (by rw[hn]))))).trans (Y2 rfl))
def CH {L:bR}(h:∀p∈L,p.length<=8):wt L<=9 * L.length:=by
 induction L with
 |nil=>exact au _|cons a L i=>
  rw[ZM,bc]
  have:=h a (az ..)
  have:=i λp H=>h p (ao _ H)
  omega
def DL (h:qW t):TX 72 (txt t):=by
 have e:=h.n8;refine(Kl (n:=72) (λp a c b=>?_) (aQ (CH λp a=>?_) (by rw[ah];omega)) (by decide)).1
 ·obtain⟨r,H,rfl⟩:=cf.mp a
  rw[U8 (h.lo8 r H)]at b;obtain⟨v,d,rfl⟩:=cf.mp b
  have:=h.lo8 r H v d
  omega
 ·obtain⟨r,H,rfl⟩:=cf.mp a
  rw[U6 (h.lo8 r H),h.sq r H];exact e
noncomputable def bd:Nat->Nat
 |0=>72|i+1=>2 * bd i+10
def D1:∀i:Nat,i<4->bd i<=700:=by decide
abbrev TB (P:Addr)(PF:jy):Ex:=zl (zN 6 (zQ Z9 (zi qT zo))) (zl (qB (zc (Jy false) yg wy) (zl (qB (zc qx (gm (gk ku) PF (gN RF) (zi (wm 1 jj P 0 (PF 0)) zo)) (z8 (zi (zy (.int 12)) zo))) gy zB) zB) (zl (qB (yw (zQ ZA (zi (zQ QS (zi qT zo)) (zi yg zo)))) gy zB) zB)) (zl (zN 4 (zQ ZD (zi zW (zi qT zo)))) zB))
def D4 {m:Nat}{x0 x1 x3 x5 x6 x7:Option W}(s:qL n A)(hn:n≠1)(b:A[1]? =some (.tab jj Pt))(T:TX m x)(hm:m<=700):
  ∃y Y B,TB Pt PF [x0,x1,some (.ref n),x3,some (.str x),x5,x6,x7] A=.ok (.nx [x0,x1,some (.ref n),x3,some (.str y),x5,Y,x7]) B/\TX (2 * m+10) y/\Kn n A B:=by
 have d:=T.l;have fin:∀(Y:Option W)(A1:Hx),Kn n A A1->∃y B,zl (zN 4 (zQ ZD (zi zW (zi qT zo)))) zB [x0,x1,some (.ref n),x3,some (.str x),x5,Y,x7] A1=.ok (.nx [x0,x1,some (.ref n),x3,some (.str y),x5,Y,x7]) B/\TX (2 * m+10) y/\Kn n A B:=λY A1 k1=>by
  obtain⟨y,B,e,ty,K⟩:=Dn k1.st T.a (by omega)
  exact⟨y,B,(zK (qw ((jq (qg (zq rfl) (qg (zq rfl) qK))).trans e))).trans jM,ty.mono (by omega),k1.trans K⟩
 rcases Lf T.a (by omega) A with ⟨h,e⟩|⟨h,e⟩
 ·obtain⟨y,B,E,ty,K⟩:=fin (some (zI (Mx x))) A (Kn.ext s Ext.refl)
  have f:=h.n8;refine⟨y,_,B,(zK (qw ((jq (qg (zq rfl) qK)).trans e))).trans ((zK (ρ1:=[x0,x1,some (.ref n),x3,some (.str x),x5,some (zI (Mx x)),x7]) (A1:=A) ((yd (A1:=A) ((zJ (zq rfl) qb).trans rfl)).trans ((zK ((yd (gh (k:=true) ((jq (qg ((jq (qg (zq rfl) qK)).trans (EX T.a (by omega) h A)) (qg (zq rfl) qK))).trans (LI (by omega) (λr H=>by rw[h.sq r H];omega) A)))).trans jM)).trans jM))).trans E),ty,K⟩
 ·obtain⟨A1,c,X⟩:=Nl (k:=0) (g:=12) (PF:=PF) (ρ:=[x0,x1,some (.ref n),x3,some (.str x),x5,some .non,x7]) (A:=A) (t:=Q6 ku) (ws:=[.str x]) (x := "NoText") b rfl (RS rfl) ((Bx A).trans (Dt T.a (by omega) h A)) Ext.one V2
  obtain⟨y,B,E,ty,K⟩:=fin (some .non) A1 (Kn.ext s X);exact⟨y,_,B,(zK (qw ((jq (qg (zq rfl) qK)).trans e))).trans ((zK ((yH (A1:=A) ((zJ (zq rfl) qb).trans rfl)).trans ((zK ((yd c).trans jM)).trans jM))).trans E),ty,K⟩
abbrev Pd:Ev:=zc zA (z8 (zi wy (zi Zw (zi (jL (zi (zy (.str "0")) zo)) (zi (z8 (zi (zy (.str "0")) zo)) (zi zY (zi Jv (zi (jL (zi (jL (zi qO zo)) zo)) zo)))))))) (zQ yb (zi zW (zi Zw zo)))
def ES (s:qL n A)(a:ρ[2]? =some (some (.ref n))):∃w B ty,Pd ρ A=.ok w B/\jE w B=some ty/\yx ty .str=false/\Kn n A B:=by
 have e:(zi wy (zi Zw (zi (jL (zi (zy (.str "0")) zo)) (zi (z8 (zi (zy (.str "0")) zo)) (zi zY (zi Jv (zi (jL (zi (jL (zi qO zo)) zo)) zo))))))) ρ A=.ok [.non,.int 7,.tup [.str "0"],.ref A.length,.bl true,.ref (A++[O.lst [W.str "0"]]).length,.tup [.tup [.int 0]]] (A++[O.lst [W.str "0"]]++[O.dct []]):=
  qg qb (qg qb (qg (GG (qg qb qK)) (qg (jX (qg qb qK)) (qg qb (qg rfl (qg (GG (qg (GG (qg qb qK)) qK)) qK))))))
 have hd:(A++[O.lst [W.str "0"]]++[O.dct []])[(A++[O.lst [W.str "0"]]).length]? =some (.dct []):=qJ;have H:(A++[O.lst [W.str "0"]]++[O.dct []])[A.length]? =some (.lst [.str "0"]):=jx qJ;have x:Ext A (A++[O.lst [W.str "0"]]++[O.dct []]):=Ext.one.trans Ext.one;generalize A++[O.lst [W.str "0"]]++[O.dct []]=A1 at e hd H x;generalize (A++[O.lst [W.str "0"]]).length=q at e hd;generalize A.length=r at e H;have all:∀w∈[W.non,.int 7,.tup [.str "0"],.ref r,.bl true,.ref q,.tup [.tup [.int 0]]],∃ty,jE w A1=some ty/\yx ty .str=false:=by
  intro w hw;simp only[mem_cons,not_mem_nil,or_false]at hw;rcases hw with rfl|rfl|rfl|rfl|rfl|rfl|rfl
  ·exact⟨.non,rfl,rfl⟩
  ·exact⟨.int,rfl,rfl⟩
  ·exact⟨.tup,rfl,rfl⟩
  ·exact⟨.lst,by unfold jE;dsimp only;rw[H],rfl⟩
  ·exact⟨.bl,rfl,rfl⟩
  ·exact⟨.dct,by unfold jE;dsimp only;rw[hd],rfl⟩
  ·exact⟨.tup,rfl,rfl⟩
 have b:=jX e;have s1:=(s.ext x).ext (Ext.one (o:=.lst [W.non,.int 7,.tup [.str "0"],.ref r,.bl true,.ref q,.tup [.tup [.int 0]]]));obtain⟨j,B,E,c,kn,_⟩:=SO s1 (m:=7) (by decide) (by decide)
 have l:=(s.ext x).lt;have h:j < [W.non,.int 7,.tup [.str "0"],.ref r,.bl true,.ref q,.tup [.tup [.int 0]]].length:=by show j<7;omega
 obtain⟨ty,t1,t⟩:=all _ (aN h);refine⟨_,B,ty,(zJ b ((jq (qg (zq a) (qg qb qK))).trans E)).trans (wb (kn.kp.get qJ (by omega)) (aa h)),?_,t,(Kn.ext s (x.trans Ext.one)).trans kn⟩
 exact Kn.ky s1 kn _ _ (Ext.ky Ext.one _ _ t1)
abbrev BL (P:Addr)(PF:jy):Ex:=zl (zN 2 (zQ QT (zi zm (zi zu zo)))) (zl (zN 3 (zQ Qb (zi zW zo))) (zl (zN 4 (Pj zZ)) (zl (yT (jg kq) (zF 5) (TB P PF)) (zl (zN 7 Pd) (zl (qB (zc qx (gm (gk ku) PF (gN RF) (zi (wm 1 jj P 1 (PF 1)) zo)) (z8 (zi (zy (.int 12)) zo))) gy zB) zB)))))
def IU {x2 x3 x4 x5 x6 x7:Option W}(h0:A[0]? =some (.ro (ns.map W.int)))(q:A[1]? =some (.tab jj Pt)):
  ∃C v y4 y5 Y u B,BL Pt PF [some (.ref 0),some (.int (k:Int)),x2,x3,x4,x5,x6,x7] A=.ok (.nx [some (.ref 0),some (.int (k:Int)),C,v,y4,y5,Y,u]) B/\B[0]? =some (.ro (ns.map W.int))/\B[1]? =some (.tab jj Pt):=by
 obtain⟨o,E,s1⟩:=HZ h0 k;have H:=Za q;have r:(A++[o])[0]? =some (.ro (ns.map W.int)):=jx h0;have g1:(A++[o])[1]? =some (.tab jj Pt):=jx q;generalize L:A++[o]=A1 at E s1 r g1;generalize A.length=n at E s1 H;obtain⟨t,A2,U,l,k2⟩:=F4 s1;obtain⟨d,S,a⟩:=DV (m:=zZ) (ρ:=[some (.ref 0),some (.int (k:Int)),some (.ref n),some (zI t),x4,x5,x6,x7]) (A:=A2) l (zq rfl);have k3:=k2.trans (Kn.ext k2.st a);have t3:d[1]? =some (.tab jj Pt):=k3.kp.get g1 (by omega)
 obtain⟨s,A4,Q,f,y,y5,Y,_,h⟩:=YS (j:=yP 0 4) (st:=turn (zF 5) (TB Pt PF)) (N:=4) (I:=λi ρ B=>Kn n d B/\∃y y5 Y,TX (bd i) y/\ρ=[some (.ref 0),some (.int (k:Int)),some (.ref n),some (zI t),some (.str y),y5,Y,x7])
  (λi ρ B p ⟨b,y,y5,Y,ty,h⟩=>by
   subst h;obtain⟨z,z6,Z,e,tz,D⟩:=D4 (PF:=PF) (x0:=some (.ref 0)) (x1:=some (.int (k:Int))) (x3:=some (zI t)) (x5:=some (.int (i:Int))) (x6:=Y) (x7:=x7) b.st (by omega) (b.kp.get t3 (by omega)) ty (D1 i p)
   refine⟨_,_,Z,ZV p,(kM (ρ1:=[some (.ref 0),some (.int (k:Int)),some (.ref n),some (zI t),some (.str y),some (.int (i:Int)),Y,x7]) ?_).trans e,b.trans D,z,_,_,tz,rfl⟩;rw[bD];rfl)
  (λρ B _=>ZJ (by omega)) 4 0 [some (.ref 0),some (.int (k:Int)),some (.ref n),some (zI t),some (.str (txt t)),x5,x6,x7] d (by omega) ⟨Kn.ext k3.st Ext.refl,_,_,_,DL l,rfl⟩
 subst h;obtain⟨w,c,ty,P,tw,J,k5⟩:=ES (ρ:=[some (.ref 0),some (.int (k:Int)),some (.ref n),some (zI t),some (.str y),y5,Y,x7]) f.st rfl;have K:=(k3.trans f).trans k5;have T:c[1]? =some (.tab jj Pt):=K.kp.get g1 (by omega)
 obtain⟨B,M,X⟩:=Nx (k:=1) (g:=12) (PF:=PF) (ρ:=[some (.ref 0),some (.int (k:Int)),some (.ref n),some (zI t),some (.str y),y5,Y,some w]) (A:=c) (t:=Q7 ku) (ws:=[w]) (x := "NoText") T rfl (RS rfl) ((Bb c).trans (CB tw J)) V2;refine⟨some (.ref n),some (zI t),some (.str y),y5,Y,some w,B,?_,X.at (K.kp.get r (by omega)),X.at T⟩
 refine(zK (qw ((jq (qg (zq rfl) (qg (zq rfl) qK))).trans E))).trans ?_;refine(zK (qw ((jq (qg (zq rfl) qK)).trans U))).trans ?_;refine(zK (qw S)).trans ?_;refine(zK ((wG (JU (qb (w:=.int 4)) (by decide))).trans Q)).trans ?_
 refine(zK (qw P)).trans ?_;exact(zK ((yd M).trans jM)).trans jM
end
def Xo (P:Addr)(PF:jy):Fn:=jk 8 (XB ZD ZA QT Qb Z9 yb QS ku RF P PF)
def Li:SR jj Xo:=λns u P PF=>by
 have s:zS (.ref 0) [.ro (ns.map W.int),.tab jj P]=some (ns.map W.int):=rfl;have E:mQ qG (qi zm) [some (.ref 0),none,none,none,none,none,none,none] [.ro (ns.map W.int),.tab jj P]=.ok (.int ns.length) [.ro (ns.map W.int),.tab jj P]:=by
  rw[yG (kA (w:=.ref 0) (A1:=[.ro (ns.map W.int),.tab jj P]) (zq rfl) s)];unfold qG;rw[ah]
 have em:zc Xy qj (zc ZW (mQ qG (qi zm)) km) [some (.ref 0),none,none,none,none,none,none,none] [.ro (ns.map W.int),.tab jj P]=
   .ok (.int (if (if (8:Int)<ns.length then 8 else(ns.length:Int)) > 1 then(if (8:Int)<ns.length then 8 else(ns.length:Int)) else 1)) [.ro (ns.map W.int),.tab jj P]:=
  (zJ (qb (w:=.int 1)) ((zJ E (qb (w:=.int 8))).trans rfl)).trans rfl
 generalize g:(if (if (8:Int)<ns.length then 8 else(ns.length:Int)) > 1 then(if (8:Int)<ns.length then 8 else(ns.length:Int)) else 1)=v at em;have H:jN v=true:=by
  have:0<=v/\v<1000:=by
   rw[<- g]
   split<;>split<;>omega
  obtain⟨k,rfl⟩:=a8 this.1;exact V0 (by omega)
 obtain⟨f,B,e,_,_,y1,b,a,y4,y5,Y,y,h⟩:=YS (j:=yP 0 v.toNat) (st:=turn (zF 1) (BL P PF)) (N:=v.toNat) (I:=λ_ ρ B=>B[0]? =some (.ro (ns.map W.int))/\B[1]? =some (.tab jj P)/\∃y1 b a y4 y5 Y y,ρ=[some (.ref 0),y1,b,a,y4,y5,Y,y])
  (λi ρ B l ⟨h0,n,y1,b,a,y4,y5,Y,y,h⟩=>by
   subst h;obtain⟨t,r,q,p,Z,z,o,e,d,c⟩:=IU (k:=i) (PF:=PF) (x2:=b) (x3:=a) (x4:=y4) (x5:=y5) (x6:=Y) (x7:=y) h0 n;refine⟨_,_,o,ZV l,(kM (ρ1:=[some (.ref 0),some (.int (i:Int)),b,a,y4,y5,Y,y]) ?_).trans e,d,c,_,_,_,_,_,_,_,rfl⟩;rw[bD];rfl)
  (λρ B _=>ZJ (by omega)) v.toNat 0 [some (.ref 0),none,none,none,none,none,none,none] [.ro (ns.map W.int),.tab jj P] (by omega) ⟨rfl,rfl,_,_,_,_,_,_,_,rfl⟩
 subst h;refine⟨B,ji ?_⟩;unfold XB;exact(zK ((wG (JU em H)).trans e)).trans (qm (ja qb))
section
variable {K:Frag}
def P1 (Z:Zz K h mg){PG:jy}{lam:Nat->Fn}(H:∀k,Qy P w K mg base 6 (PG k) (lam k)):zX P w K mg base 7 "_law_refused" 1 ((jk 4 (JG PG lam))):=by
 obtain⟨f,fd,F,a⟩:=Z.T.Oe;exact(P8 (k:=6) Z.B Z.C Z.T.Cc F (bb Z.X Z.G a) (au _) H)
def E2 (Z:Zz K h mg)(F:kY K "law" "law" Ji f fd)(hn:nsIn K mainGlobals "law"=some (some (.ref f)))(H:tabIn K "law"=some (c,Pt))(a:BMain mg base)(C:CodeHd base c Pt):yv P w K mg base w6 8 f fd ["_law_script"] (spT K 1 (Xo Pt)):=
 o_law (k:=7) (j:=5) (kk:=7) Z.B F hn H a C (OU Z).up (O1 Z).up (OQ Z).up (OA Z).up (PZ Z).up (yj Z).up (OF Z).up (by decide)
  (CI (k:=5) Z.B (λbase=>(VB Z).up)) (λbase PG L=>(P1 Z L).imp λus A _=>ED us A)
def all_mk {l:PySem.W.OpenLaw}{i:Addr}(X:K.In h)(Gl:h.Ns mainGlobals mg)(b:mg "law"=some (.ref i))(T:Tx K)(H:∃c,tabIn K "law"=some (c,Pt)/\codeHdIn K c Pt=true):
  ∃fd:FuncData,(∀(s:Shared)(v:Value),BindsTo s fd ⟨[v],[]⟩ [("_law_script",v)])/\∀base:Heap,K.In base->base.Ns mainGlobals mg->BMain mg base->yv l.prog w K mg base w6 8 i fd ["_law_script"] (spT K 1 (Xo Pt)):=by
 obtain⟨c,H,d⟩:=H;obtain⟨f,fd,F,a⟩:=T.DK;have e:=b.symm.trans (bb X Gl a);cases e;obtain⟨n,j,kV,doc,pm,an,C,ct,o,rfl,lk,g⟩:=id F.ex;exact⟨_,λs v=>.of_eq rfl,λbase k nb B=>E2 (zz X Gl T) F a H B (codeHd_of_K k d)⟩
end
end G
namespace PySem.W.Fast
def tw15117045526012027753:Nat:=0
def tw6244974071201289785:Nat:=0
def tw16338819231951406692:Nat:=0
def tw5375234790957451322:Nat:=0
def tw478474035138335226:Nat:=0
def tw9491712942728931224:Nat:=0
def tw11964895285183049444:Nat:=0
def tw1089944767491799904:Nat:=0
def tw5787785149115783385:Nat:=0
def tw5455659399836330931:Nat:=0
def tw13819136525444650229:Nat:=0
def tw4686716154129096635:Nat:=0
def tw11996597256442943398:Nat:=0
def tw13342051171767084283:Nat:=0
def tw12560728401636866243:Nat:=0
def tw133862005813267795:Nat:=0
def tw2502421222394122467:Nat:=0
def tw10554824685088583296:Nat:=0
def tw3144507463704661522:Nat:=0
def tw4554589318781683975:Nat:=0
def tw13651710703409715487:Nat:=0
def tw17964769870688213707:Nat:=0
def tw8170494272721823265:Nat:=0
def tw14571906190812248955:Nat:=0
def tw11787819569419773155:Nat:=0
def tw11510652069487038678:Nat:=0
def tw855575467048832793:Nat:=0
def tw10805158528871310648:Nat:=0
def tw14950515982937417836:Nat:=0
def tw190749944927658309:Nat:=0
def tw4367597257239974510:Nat:=0
def tw325294901709711334:Nat:=0
def tw18002682242935789728:Nat:=0
def tw11810388958439336468:Nat:=0
def tw420723871735630447:Nat:=0
def tw748848629229641401:Nat:=0
def tw11185709124975697822:Nat:=0
def tw5655570823719394048:Nat:=0
def tw1726332217837321273:Nat:=0
def tw14875656926301727108:Nat:=0
def tw11946911142227396992:Nat:=0
def tw15491076427817317875:Nat:=0
end PySem.W.Fast
open PySem PySem.W PyProof.Rows
set_option maxRecDepth 100000 in
set_option maxHeartbeats 0 in
theorem PySem.Challenge.cw_nearkinds_k91_texts_that_write_none_holds : PySem.Challenge.rw_nearkinds_k91_texts_that_write_none.Holds := by
 w_on;o_law;k_head;(case hw=>w_witness2)
 k_fill
 refine' Mi.DX (l:=PySem.Challenge.rw_nearkinds_k91_texts_that_write_none) (k:=8) (x := "_law_script") G.Li rfl rfl ⟨rfl,by decide,by decide⟩ (λw h Y=>PySem.W.km_in_of Y) (λw h Y=>PySem.W.km_tabs_of Y _ (az ..)) ?ht ?hKP ?F
 case ht=>exact λp=>by kernel_rfl
 case hKP=>exact λp=>by kernel_rfl
 case F=>
  intro w mg fa h KX Gl hmg ht;have T:G.Tx (L2.Pe KX):=by
   dsimp only [L2.Pe]
   apply G.Tx.mk<;>first | (refine' Mi.Ck ?a ?l ?c ?k;(case a=>k_is);(case l=>k_is);(case c=>k_is);(case k=>k_is)) | (refine' Mi.DT ?a;(case a=>k_is)) | (refine' Mi.Dq ?a;(case a=>k_is)) | k_is|kernel_rfl
  exact G.all_mk KX Gl hmg T ht
