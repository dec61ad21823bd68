import PyProof.Rows.All
import Wide.All
import OpenK.AllK
import Wide.FinOn
import Lean
import PyProof.EqAt
import PyProof.EqKinds
import PyProof.TupleCall
import OpenK.KOwn
import PyProof.Rows.FStr
import PyProof.FString
import PyProof.NsDelKeeps
import KE.KIsAll
import PyProof.ExcArgs
import KE.KLam
import KE.KNestM
import PyProof.Rows.SetFrom
import PyProof.ListMulRoad
import PyProof.FactsAll.set_1
import PyProof.FactsAll.set_2
import PyProof.CollectIter
import PyProof.TupleIter
import PyProof.CollectWalk
import PyProof.Rows.SortShell
import PyProof.SumAny
import PyProof.ListOps
import KE.KDictList
import PyProof.NoPylong
import KE.KUnpack
import KE.KSortTup
import KE.KIntText
import PyProof.Rows.TupDisplay
import PyProof.AttrMiss
import PyProof.IsiH_list
import KE.KDictOf
import PySem.Challenge.RW_nearkinds_k43_whole_turned_about
noncomputable section
open PySem.W (Frag)
open List (all_cons any_cons append_nil countP_cons count_cons drop_length ext_getElem find?_cons flatMap_cons forIn_cons forIn_nil head?_append length_drop length_replicate lookup_cons map_nil mem_cons mem_map mem_of_getElem? mem_of_mem_drop not_mem_nil of_mem_zip range'_succ range_eq_range' range_succ sum_append take_zero)
open Nat (add_comm le_add_right le_of_lt mul_le_mul ne_of_gt zero_add zero_le)
open Int (emod_nonneg)
open Option (getD_none isSome_some)
open Array (length_toList)
open PySem.W (cellsFrom_some codeIn findIn fnOf instObj keepIn kitOne kitx_dict kitx_list kitx_tuple lookIn methodObj mroIn nsIn plainGet)
open PySem.F (args_tuple_add_2 entry_tuple_add slot_tuple_add)
abbrev aa:=@List.getD_eq_getElem?_getD
abbrev ab:=@List.getElem?_eq_getElem
abbrev ae:=@PySem.Heap.get?_push_of_some
abbrev af:=@decide_eq_true_iff
abbrev ag:=@Bool.and_eq_true
abbrev ah:=@List.getElem?_append_left
abbrev ai:=@List.length_map
abbrev aj:=@if_pos
abbrev ak:=@Nat.le_refl
abbrev ao:=@if_neg
abbrev aq:=@List.size_toArray
abbrev ar:=@List.getElem?_append_right
abbrev au:=@Bool.false_ne_true
abbrev av:=@PySem.Heap.get?_push_size
abbrev aw:=@List.getElem?_map
abbrev ax:=@Option.some.inj
abbrev ay:=@List.getElem?_set_ne
abbrev az:=@List.getElem?_eq_none
abbrev aA:=@List.length_append
abbrev aB:=@List.getElem?_set_self
abbrev aC:=@decide_eq_true
abbrev aD:=@Nat.lt_of_lt_of_le
abbrev aE:=@List.length_range
abbrev aF:=@PySem.Heap.lt_size
abbrev aG:=@decide_eq_false
abbrev aH:=@Int.toNat_natCast
abbrev aI:=@List.mem_cons_of_mem
abbrev aJ:=@List.mem_cons_self
abbrev aK:=@List.getElem_mem
abbrev aL:=@List.mem_append_right
abbrev aM:=@beq_iff_eq
abbrev aN:=@PySem.W.mg_of
abbrev aO:=@Nat.ne_of_lt
abbrev aP:=@List.append_assoc
abbrev aQ:=@PySem.W.mg_none_of
abbrev aR:=@List.all_eq_true
abbrev aS:=@List.map_cons
abbrev aT:=@Nat.lt_irrefl
abbrev aU:=@List.map_append
abbrev aV:=@List.length_singleton
abbrev aW:=@List.map_congr_left
abbrev aX:=@List.getElem?_range
abbrev aY:=@List.mem_append_left
abbrev aZ:=@List.flatten_cons
abbrev a0:=@Int.eq_ofNat_of_zero_le
abbrev a3:=@Nat.le_trans
abbrev a4:=@List.replicate_succ
abbrev a5:=@Nat.lt_succ_of_lt
abbrev a6:=@List.getElem_of_mem
abbrev a7:=@List.drop_eq_getElem_cons
abbrev a8:=@PySem.Heap.size_push
abbrev a9:=@List.take_append_drop
abbrev ba:=@List.map_map
abbrev bb:=@List.nil_append
abbrev bc:=@Nat.lt_succ_self
abbrev bf:=@List.flatMap_append
abbrev bg:=@PySem.W.kia_one
abbrev bh:=@Int.emod_lt_of_pos
abbrev bj:=@Bool.or_eq_true
abbrev bo:=@List.take_of_length_le
abbrev bp:=@List.length_take
abbrev bq:=@List.length_cons
abbrev br:=List (List Int)
abbrev bt:=List Int
abbrev bw:=List PySem.Value
abbrev bx:=List PySem.Addr
abbrev bz:=List (PySem.Addr×PySem.Obj)
abbrev bA:=List Nat
abbrev bB:=Option PySem.Value
abbrev bC:=List PySem.Str
abbrev bD:=PySem.Value->PySem.Shared->Prop
abbrev bE:=List PySem.Expr
abbrev bF:=Option Int
abbrev bG:=PySem.Str->Option PySem.Value
abbrev bH:=List PySem.Env
abbrev bI:=List (PySem.Str×PySem.Addr)
abbrev bJ:=List PySem.Keyword
abbrev bK:=Option PySem.Addr
abbrev bL:=List PySem.Stmt
abbrev bM:=@PySem.wpAny_bind
abbrev bN:=@PySem.wpAny_pure
abbrev bP:=@List.getElem?_eq_some_iff
abbrev bQ:=@List.mem_cons
abbrev bU:=@List.all_eq_true
abbrev bO:=@List.mem_range
abbrev bR:=@List.mem_map
abbrev bS:=@List.mem_singleton
set_option Elab.async false
set_option linter.all false
set_option maxRecDepth 1000000
set_option maxHeartbeats 4000000
variable {XP:(PySem.Str->Option PySem.Value)->PySem.Heap->Prop}{D a b:PySem.Addr}{osl:Array (Option PySem.Value)}{items:Array PySem.Value}{op:PySem.CmpOp}{env:PySem.Env}{e elt tg:PySem.Expr}{fd:PySem.FuncData}{base h:PySem.Heap}{pins:List (PySem.Addr×PySem.Obj)}{t:br}{fp φ:List PySem.Addr}{gens gs:List PySem.Comprehension}{elts ifs:List PySem.Expr}{ns:bt}{cap:bA}{body:List PySem.Stmt}{N ps:List PySem.Str}{its us:List PySem.Value}{i kk n t':Nat}{apos cpos p pos tpos:PySem.Pos}{P:PySem.Program}{sc scope:PySem.Scope}{s:PySem.Shared}{x:PySem.Str}{mg:PySem.Str->Option PySem.Value}{α:Type}{u:PySem.Value}{E Q:PySem.Value->PySem.Shared->Prop}{f:PySem.Value->PySem.Value->PySem.Sem PySem.Value}{w:PySem.World}{YP:PySem.World->PySem.Heap->Prop}
namespace L2
open PySem PySem.Spec PyProof.Rows
noncomputable abbrev Key:=Sum Int Str
noncomputable def ZU:Key->Value->Bool
 |.inl k,v=>Value.isInt k v|.inr x,v=>Value.isStrOf x v
noncomputable def bX (w:World):Key->Int
 |.inl k=>hashInt k|.inr x=>hashStr w x
theorem wJ:∀{k:Key}{v:Value},ZU k v=true->(∃i t,k=Sum.inl i/\v=Value.int i t)∨(∃x t,k=Sum.inr x/\v=Value.str x t)
 |.inl i,v,h=>by
  obtain⟨t,e⟩:=Value.isInt_shape (k:=i) (v:=v) h;exact .inl ⟨i,t,rfl,e⟩
 |.inr x,v,h=>by
  obtain⟨t,e⟩:=Value.isStrOf_shape (x:=x) (v:=v) h;exact .inr ⟨x,t,rfl,e⟩
def Hu (i:Int)(t:Tok):ZU (.inl i) (.int i t)=true:=by simp[ZU,Value.isInt]
def IG (x:Str)(t:Tok):ZU (.inr x) (.str x t)=true:=by simp[ZU,Value.isStrOf]
def Cf (a b:Int):decide ((Sum.inl a:Key)=Sum.inl b)=(a==b):=by
 by_cases e:a=b
 ·subst e;simp
 ·have h:¬(Sum.inl a:Key)=Sum.inl b:=λq=>e (Sum.inl.inj q)
  rw[aG h];exact(beq_eq_false_iff_ne.mpr e).symm
def Cq (a b:Str):decide ((Sum.inr a:Key)=Sum.inr b)=decide (a=b):=by
 by_cases e:a=b
 ·subst e;simp
 ·have h:¬(Sum.inr a:Key)=Sum.inr b:=λq=>e (Sum.inr.inj q)
  rw[aG h,aG e]
def Ca (a:Int)(b:Str):decide ((Sum.inl a:Key)=Sum.inr b)=false:=aG (λq=>nomatch q)
def Cj (a:Str)(b:Int):decide ((Sum.inr a:Key)=Sum.inl b)=false:=aG (λq=>nomatch q)
def yj (prog:Program)(w:World):PySem.KeyKind prog w Key where
 is:=ZU
 hash:=bX w
 inj:=λv a b f c=>by
  rcases wJ f with ⟨i,t,rfl,rfl⟩|⟨x,t,rfl,rfl⟩
  ·rcases wJ c with ⟨j,u,rfl,e⟩|⟨y,u,rfl,e⟩
   ·injection e with E _;rw[E]
   ·exact nomatch e
  ·rcases wJ c with ⟨j,u,rfl,e⟩|⟨y,u,rfl,e⟩
   ·exact nomatch e
   ·injection e with E _;rw[E]
 byValue:=λk v h=>by
  rcases wJ h with ⟨i,t,rfl,rfl⟩|⟨x,t,rfl,rfl⟩<;>rfl
 pyHash:=λH h=>by
  rcases wJ H with ⟨i,t,rfl,rfl⟩|⟨x,t,rfl,rfl⟩
  ·exact wpAny_pyHash_int h
  ·exact wpAny_pyHash_str h
 eqBool:=λd H h=>by
  rcases wJ d with ⟨i,t,rfl,rfl⟩|⟨x,t,rfl,rfl⟩
  ·rcases wJ H with ⟨j,u,rfl,rfl⟩|⟨y,u,rfl,rfl⟩
   ·rw[Cf]at h;exact wpAny_eqBool_int h
   ·rw[Ca]at h;exact SeqAt.EqAt.int_str i t y u _ _ _ _ h
  ·rcases wJ H with ⟨j,u,rfl,rfl⟩|⟨y,u,rfl,rfl⟩
   ·rw[Cj]at h;exact SeqAt.EqAt.str_int x t j u _ _ _ _ h
   ·rw[Cq]at h;exact wpAny_eqBool_str h
 «strs»:=λk x t v h=>by
  rcases wJ h with ⟨i,u,rfl,e⟩|⟨y,u,rfl,e⟩
  ·exact nomatch e
  ·injection e with E _
   subst E;cases v<;>rfl
def LV (prog:Program)(w:World)(k:Key)(v:Value):(yj prog w).is k v=ZU k v:=rfl
def LI (prog:Program)(w:World)(i:Int)(t:Tok):(yj prog w).is (.inl i) (.int i t)=true:=Hu i t
def LG (prog:Program)(w:World)(x:Str)(t:Tok):(yj prog w).is (.inr x) (.str x t)=true:=IG x t
inductive V where
 |non|bl (b:Bool)|int (i:Int)|str (x:Str)|byt (b:Array UInt8)|flt (b:UInt64)|ref (a:Addr)|ty (n:String)
 deriving DecidableEq
noncomputable def RelV:V->Value->Prop
 |.non,u=>u=Value.none|.bl b,u=>u=Value.bool b|.int i,u=>∃t,u=Value.int i t|.str x,u=>∃t,u=Value.str x t|.byt b,u=>∃t,u=Value.bytes b t|.flt b,u=>∃t,u=Value.float b t|.ref a,u=>u=Value.ref a|.ty n,u=>u=Value.type n
abbrev Vals:List V->List Value->Prop:=Paired RelV
theorem Vals.length {xs:List V}(r:Vals xs us):xs.length=us.length:=Paired.length r
theorem Vals.get:∀{xs:List V}{us:bw}{i:Nat}{x:V},Vals xs us->xs[i]? =some x->∃u,us[i]? =some u/\RelV x u
 |_,_,_,_,.nil,e=>by simp at e|_,_,0,_,.cons r _,e=>by simp at e;subst e;exact⟨_,rfl,r⟩|_,_,i+1,x,.cons _ t,e=>by
  obtain⟨u,H,h⟩:=Vals.get (i:=i) (x:=x) t (by simpa using e)
  exact⟨u,by simpa using H,h⟩
theorem Vals.set {x:V}(r:RelV x u):∀{xs:List V}{us:bw}(i:Nat),Vals xs us->Vals (xs.set i x) (us.set i u)
 |_,_,_,.nil=>.nil|_,_,0,.cons _ t=>.cons r t|_,_,i+1,.cons q t=>.cons q (Vals.set r i t)
theorem Vals.append:∀{xs y:List V}{us ws:bw},Vals xs us->Vals y ws->Vals (xs++y) (us++ws)
 |_,_,_,_,.nil,s=>s|_,_,_,_,.cons r t,s=>.cons r (Vals.append t s)
theorem Vals.take:∀{xs:List V}{us:bw}(n:Nat),Vals xs us->Vals (xs.take n) (us.take n)
 |_,_,0,_=>.nil|_,_,_+1,.nil=>.nil|_,_,n+1,.cons r t=>.cons r (Vals.take n t)
theorem Vals.drop:∀{xs:List V}{us:bw}(n:Nat),Vals xs us->Vals (xs.drop n) (us.drop n)
 |_,_,0,r=>r|_,_,_+1,.nil=>.nil|_,_,n+1,.cons _ t=>Vals.drop n t
def Vals.none_of:∀{xs:List V}{us:bw}{i:Nat},Vals xs us->xs[i]? =none->us[i]? =none:=λ {xs us i} r e=>by
 have H:=r.length;have h:xs.length<=i:=List.getElem?_eq_none_iff.mp e;exact List.getElem?_eq_none_iff.mpr (by omega)
def gJ:Option V->Option Value->Prop
 |some v,some u=>RelV v u|none,none=>True|_,_=>False
def KV {κ:Type}:List (κ×V)->List (κ×Value)->Prop:=Paired λ(p:κ×V) (q:κ×Value)=>p.1=q.1/\RelV p.2 q.2
noncomputable def kV:Key->V
 |.inl i=>.int i|.inr x=>.str x
inductive HO where
 |lst (xs:List V)
 |tup (xs:List V)
 |dK (kvs:List (Key×V))|dT (kvs:List (List Key×V))
 |set (S:Int->Bool) (n:Nat)
 |ins (C dx:Addr) (fs:List (Str×V))
 |own (x:Addr)
 |xd (fs:List (Str×V))
 |met (f x:Addr)
 |rng (lo hi:Int)
 |frz (o:Obj) (u:HO)
 |tbl (ps:Array Value)
 |ext (φ:Heap->Prop)
noncomputable abbrev Hp:=Addr->Option HO
noncomputable def upd (H:Hp)(a:Addr)(o:HO):Hp:=λb=>if b=a then some o else H b
def j6 {H:Hp}{o:HO}:upd H a o a=some o:=by unfold upd;rw[aj rfl]
def qx {H:Hp}{o:HO}(h:b≠a):upd H a o b=H b:=by unfold upd;rw[ao h]
def BF {H:Hp}{o u:HO}(h:H a=some o)(h':H b=some u)(d:o≠u):a≠b:=by
 intro e;subst e;rw[h]at h';exact d (ax h')
def kJ {H:Hp}{o:HO}(h:H a=some o)(h':H b=none):a≠b:=by
 intro e;subst e;rw[h]at h';cases h'
def wU (h:Heap)(a:Addr)(items:Array Value):Prop:=∃o,h.get? a=some o/\(o.cls=.type "tuple" /\ o.dict=none)/\∃n,o.data=.seq items n
def wU.tup {h:Heap}{a:Addr}{items:Array Value}(x:wU h a items):IsTup h a items:=let ⟨o,e,c,d⟩:=x;⟨o,e,c.1,d⟩
def wU.new (h:Heap)(items:Array Value):wU (h.push { cls:=.type "tuple",data:=.seq items }) h.objs.size items:=⟨_,av h rfl,⟨rfl,rfl⟩,0,rfl⟩
section
variable (P:Program)(w:World)
def jA (H:Hp)(h:Heap)(a:Addr):HO->Prop
 |.lst xs=>xs.length<=sizeLine/\∃(its:bw) (n:Nat),Vals xs its/\h.get? a=some { cls:=.type "list",data:=.seq its.toArray n }
 |.tup xs=>xs.length<=sizeLine/\∃its:bw,Vals xs its/\wU h a its.toArray|.dK kvs=>kvs.length<=sizeLine/\(a==sysModules)=false/\∃vs,KV kvs vs/\h.DictOf (yj P w) a vs|.dT kvs=>kvs.length<=sizeLine/\(a==sysModules)=false/\∃xs:List (List Key×Addr×Value),
   Paired (λ(p:List Key×V) (q:List Key×Addr×Value)=>p.1=q.1/\H q.2.1=some (.tup (p.1.map kV))/\RelV p.2 q.2.2) kvs xs/\
   ∃o e E,h.get? a=some o/\o.ExactDict/\o.data=.dict e E/\e.toList=xs.map (entryOfKey (tupleKind (yj P w)))/\(xs.map (·.1)).Nodup
 |.set S n=>h.SetOf (intKind P w) a S n|.ins C d fs=>H d=some (.own a)/\fs.length<=1000/\d≠a/\h.get? a=some (instObj C d)/\
   ∃m,h.Ns1 d m/\(∀f,gJ (fs.lookup f) (m f))/\PySem.Within m (fs.map (·.1))
 |.own _=>∃o,h.get? a=some o|.xd fs=>∃m,h.Ns1 a m/\∀f,gJ (fs.lookup f) (m f)|.rng lo i=>∃t u v,h.get? a=some { cls:=.type "range",data:=.fields #[.int lo t,.int i u,.int 1 v] }
 |.frz o u=>h.get? a=some o/\jA H h a u|.tbl s=>h.get? a=some { cls:=.none,data:=.fields s }|.met f x=>h.get? a=some (methodObj (.ref f) (.ref x))|.ext φ=>φ h/\(∃o,h.get? a=some o)/\∀c b:Heap,φ c->(∀o,c.get? a=some o->b.get? a=some o)->φ b
def jw (H:Hp)(h:Heap):Prop:=∀a o,H a=some o->jA P w H h a o
end
section
variable {H H':Hp}{h':Heap}{o:HO}
theorem jA.lt (x:jA P w H h a o):a<h.objs.size:=by
 cases o with
 |lst xs=>obtain⟨_,_,_,_,e⟩:=x;exact aF e|tup xs=>obtain⟨_,_,_,p⟩:=x;exact p.tup.lt|dK kvs=>obtain⟨_,_,_,_,o,_,_,e,_⟩:=x;exact aF e|dT kvs=>obtain⟨_,_,_,_,o,_,_,e,_⟩:=x;exact aF e|set S n=>obtain⟨o,_,_,_,e,_⟩:=x;exact aF e|ins C d fs=>obtain⟨_,_,_,e,_⟩:=x;exact aF e|own y=>obtain⟨_,e⟩:=x;exact aF e|xd fs=>obtain⟨_,⟨_,_,_,e,_⟩,_⟩:=x;exact aF e|rng lo i=>obtain⟨_,_,_,e⟩:=x;exact aF e|frz ob u=>obtain⟨e,_⟩:=x;exact aF e|tbl s=>exact aF (show h.get? a=some _ from x)|met f y=>exact aF (show h.get? a=some _ from x)|ext φ=>obtain⟨_,⟨_,e⟩,_⟩:=x;exact aF e
theorem Paired.mapP {β:Type}{F G:α->β->Prop}:∀{L:List α}{l:List β},Paired F L l->(∀a b,F a b->G a b)->Paired G L l
 |_,_,.nil,_=>.nil|_,_,.cons r t,f=>.cons (f _ _ r) (Paired.mapP t f)
def jA.stay (x:jA P w H h a o)(k:∀b u,(b=a∨H b=some (.own a))->h.get? b=some u->h'.get? b=some u)
  (ho:∀b,H b=some (.own a)->H' b=some (.own a))(l:∀b xs,H b=some (.tup xs)->H' b=some (.tup xs)):jA P w H' h' a o:=by
 induction o with
 |lst xs=>obtain⟨z,i,n,r,e⟩:=x;exact⟨z,i,n,r,k _ _ (.inl rfl) e⟩|tup xs=>obtain⟨z,i,r,ob,e,c⟩:=x;exact⟨z,i,r,ob,k _ _ (.inl rfl) e,c⟩|dK kvs=>obtain⟨z,y,vs,r,ob,E,g,e,c⟩:=x;exact⟨z,y,vs,r,ob,E,g,k _ _ (.inl rfl) e,c⟩|dT kvs=>
  obtain⟨z,y,xs,r,ob,E,g,e,c⟩:=x;exact⟨z,y,xs,Paired.mapP r λp q z=>⟨z.1,l _ _ z.2.1,z.2.2⟩,ob,E,g,k _ _ (.inl rfl) e,c⟩
 |set S n=>obtain⟨ob,E,g,t,e,c⟩:=x;exact⟨ob,E,g,t,k _ _ (.inl rfl) e,c⟩|ins C D fs=>
  obtain⟨d,z,ne,e,m,⟨j,E,g,A,c⟩,r⟩:=x;exact⟨ho _ d,z,ne,k _ _ (.inl rfl) e,m,⟨j,E,g,k _ _ (.inr d) A,c⟩,r⟩
 |own y=>obtain⟨ob,e⟩:=x;exact⟨ob,k _ _ (.inl rfl) e⟩|xd fs=>obtain⟨m,⟨j,E,g,e,c⟩,r⟩:=x;exact⟨m,⟨j,E,g,k _ _ (.inl rfl) e,c⟩,r⟩|rng lo B=>obtain⟨t,u,v,e⟩:=x;exact⟨t,u,v,k _ _ (.inl rfl) e⟩|frz ob u I=>obtain⟨e,q⟩:=x;exact⟨k _ _ (.inl rfl) e,I q⟩|tbl s=>
  have e:h.get? a=some { cls:=.none,data:=.fields s }:=x;show h'.get? a=some { cls:=.none,data:=.fields s };exact k a _ (.inl rfl) e
 |met f y=>
  have e:h.get? a=some (methodObj (.ref f) (.ref y)):=x;show h'.get? a=some (methodObj (.ref f) (.ref y));exact k a _ (.inl rfl) e
 |ext φ=>obtain⟨p,⟨o,e⟩,st⟩:=x;exact⟨st _ _ p λo q=>k _ _ (.inl rfl) q,⟨o,k _ _ (.inl rfl) e⟩,st⟩
theorem jw.lt (x:jw P w H h)(e:H a=some o):a<h.objs.size:=(x a o e).lt
def jw.fresh (x:jw P w H h)(e:h.objs.size<=a):H a=none:=by
 cases q:H a with
 |none=>rfl|some u=>exact absurd (aD (x.lt q) e) (aT _)
def jw.kept (x:jw P w H h)(k:∀b u,h.get? b=some u->h'.get? b=some u):jw P w H h':=λa o e=>
 (x a o e).stay (λb u _ q=>k b u q) (λ_ q=>q) λ_ _ q=>q
def jw.laid (x:jw P w H h)(k:∀b u,h.get? b=some u->h'.get? b=some u)(p:h.objs.size<=a)(new:jA P w (upd H a o) h' a o):jw P w (upd H a o) h':=λb u e=>by
 have hn:=x.fresh p
 by_cases d:b=a
 ·subst d;rw[j6]at e;cases e;exact new
 ·rw[qx d]at e
  exact(x b u e).stay (λc v _ q=>k c v q) (λc q=>by rw[qx (kJ q hn)];exact q) λc xs q=>by rw[qx (kJ q hn)];exact q
end
def Rd (H:Hp)(a:Addr)(u:HO):Prop:=H a=some u∨∃o,H a=some (.frz o u)
def Rd.ok {H:Hp}{u:HO}(r:Rd H a u)(x:jw P w H h):jA P w H h a u:=by
 rcases r with r|⟨o,r⟩
 ·exact x a u r
 ·obtain⟨_,q⟩:=x a _ r
  exact q
noncomputable def Ym:Option HO->Prop
 |some (.lst _)=>True|some (.dK _)=>True|some (.dT _)=>True|some (.set _ _)=>True|some (.ins _ _ _)=>True|some (.ext _)=>True|_=>False
section
variable {H:Hp}{h':Heap}{x e:Addr}{o':HO}
def jw.write (ok:jw P w H h)(m:Ym (H x))(he:e=x∨H e=some (.own x))(k:∀b u,b≠e->h.get? b=some u->h'.get? b=some u)(o:∃u,h'.get? e=some u)
  (new:jA P w (upd H x o') h' x o'):jw P w (upd H x o') h':=λb u q=>by
 have n:∀c y,H c=some (.own y)->c≠x:=λc y r z=>by subst z;rw[r]at m;exact m
 have N:∀c xs,H c=some (.tup xs)->c≠x:=λc xs r z=>by subst z;rw[r]at m;exact m
 by_cases f:b=x
 ·subst f;rw[j6]at q;cases q;exact new
 ·rw[qx f]at q
  by_cases a:b=e
  ·have Q:H b=some (.own x):=by
    rcases he with z|z
    ·exact absurd (a.trans z) f
    ·rw[a];exact z
   rw[q]at Q;cases Q;obtain⟨v,g⟩:=o;exact⟨v,by rw[a];exact g⟩
  ·refine(ok b u q).stay (λc v d r=>k c v ?_ r) (λc r=>by rw[qx (n c b r)];exact r) λc xs r=>by rw[qx (N c xs r)];exact r
   rcases d with rfl|d
   ·exact a
   ·rintro rfl
    rcases he with z|z
    ·exact n c b d z
    ·rw[d]at z;cases z;exact f rfl
end
structure Un (fs ex:bx)(H H':Hp)(h h':Heap):Prop where
 keep:∀b o,h.get? b=some o->H b=none->b∉fs->b∉ex->h'.get? b=some o
 slot:∀b o,h.get? b=some o->H b=none->b∈fs->b∉ex->∃sl,h'.get? b=some { o with slots:=sl }
 free:∀b o,h.get? b=some o->H b=none->b∉ex->H' b=none
 there:∀b o,h.get? b=some o->b∉ex->∃o',h'.get? b=some o'
 tups:∀b xs,H b=some (.tup xs)->H' b=some (.tup xs)
 frzs:∀b o u,H b=some (.frz o u)->H' b=some (.frz o u)
 tbls:∀b ps,H b=some (.tbl ps)->∃more,H' b=some (.tbl (ps++more))
section
variable {fs ex:bx}{H H1:Hp}{h1 h':Heap}{x e:Addr}{o:HO}
def Un.any (u:Un fs ex H H1 h h1){ob:Obj}(q:h.get? b=some ob)(n:H b=none)(x:b∉ex):∃sl,h1.get? b=some { ob with slots:=sl }:=by
 by_cases a:b∈fs
 ·exact u.slot b ob q n a x
 ·exact⟨ob.slots,u.keep b ob q n a x⟩
def Un.kept (k:∀b u,h.get? b=some u->h'.get? b=some u):Un fs ex H H h h':=
 ⟨λb ob q _ _ _=>k b ob q,λb ob q _ _ _=>⟨ob.slots,k b ob q⟩,λ_ _ _ n _=>n,λb ob q _=>⟨ob,k b ob q⟩,λ_ _ q=>q,λ_ _ _ q=>q,λ_ p q=>⟨#[],by rw[q];simp⟩⟩
def Un.refl:Un fs ex H H h h:=Un.kept λ_ _ q=>q
def Un.laid (k:∀b u,h.get? b=some u->h'.get? b=some u)(p:h.objs.size<=a)(hn:H a=none):Un fs ex H (upd H a o) h h' where
 keep:=λb u q _ _ _=>k b u q
 slot:=λb u q _ _ _=>⟨u.slots,k b u q⟩
 free:=λb u q n _=>by rw[qx (aO (aD (aF q) p))];exact n
 there:=λb u q _=>⟨u,k b u q⟩
 tups:=λb xs q=>by rw[qx (kJ q hn)];exact q
 frzs:=λb u xs q=>by rw[qx (kJ q hn)];exact q
 tbls:=λb P q=>⟨#[],by rw[qx (kJ q hn),q];simp⟩
def Un.write (m:Ym (H x))(he:e=x∨H e=some (.own x))(k:∀b u,b≠e->h.get? b=some u->h'.get? b=some u)(c:∃u,h'.get? e=some u):Un fs ex H (upd H x o) h h':=by
 have d:∀b,H b=none->b≠x:=λb n z=>by subst z;rw[n]at m;exact m
 have f:∀b,H b=none->b≠e:=λb n z=>by
  subst z;rcases he with r|r
  ·exact d b n r
  ·rw[n]at r;cases r
 have hm:∀b u,H b=some u->¬Ym (some u)->b≠x:=λb u q nm z=>by subst z;rw[q]at m;exact nm m
 refine⟨λb u q n _ _=>k b u (f b n) q,λb u q n _ _=>⟨u.slots,k b u (f b n) q⟩,λb u q n _=>by rw[qx (d b n)];exact n,λb u q _=>?_,
  λb xs q=>by rw[qx (hm b _ q λz=>z)];exact q,λb u xs q=>by rw[qx (hm b _ q λz=>z)];exact q,λb p q=>⟨#[],by rw[qx (hm b _ q λz=>z),q];simp⟩⟩
 by_cases a:b=e
 ·subst a;exact c
 ·exact⟨u,k b u a q⟩
end
noncomputable def K0 (h:Heap)(H:Hp):bx:=(List.range h.objs.size).filter λa=>(H a).isSome
def gF (h:Heap)(H:Hp):Heap:=PySem.W.hideAll h (K0 h H)
def IA (h:Heap)(H:Hp):(gF h H).objs.size=h.objs.size:=PySem.W.hideAll_size _ _
def Fc {H:Hp}{o:Obj}(e:h.get? b=some o)(n:H b=none):(gF h H).get? b=some o:=
 PySem.W.hideAll_get _ e λhm=>by
  have q:(H b).isSome=true:=(List.mem_filter.mp hm).2;rw[n]at q;simp at q
def Dc {H:Hp}{o:Obj}(e:(gF h H).get? b=some o):h.get? b=some o/\H b=none:=by
 have E:h.get? b=some o:=PySem.W.of_hideAll (K0 h H) e;refine⟨E,?_⟩;cases q:H b with
 |none=>rfl|some x=>
  have hm:b∈K0 h H:=List.mem_filter.mpr ⟨bO.mpr (aF E),by simp[q]⟩
  have z:(gF h H).get? b=none:=PySem.W.hideAll_none (K0 h H) hm;rw[z]at e;cases e
structure Mod (K:Frag)(mg:bG)(base:Heap):Prop where
 kin:K.In base
 glob:base.Ns mainGlobals mg
 blt:∃mb,base.Ns builtinsNs mb/\∀x:Str,x ≠ "__name__" -> mb x=bootBuiltins x
 nolimit:base.NoLimit
structure Cx where
 prog:Program
 w:World
 K:Frag
 mg:Str->Option Value
 base:Heap
 A:Around
 N:bC
 s0:Shared
 H0:Hp
 env:Env
 outer:bH
 stack:bH
 ex:bx
 fn:Str->Bool
 calm:Bool
 pn:bz
 xe:Value->Shared->Prop
noncomputable def wD (l:bH):bx:=l.filterMap (·.frame)
abbrev Cx.fs (X:Cx):bx:=wD X.outer
def Yc (sc:Scope)(x:Str):Prop:=sc.names.lookup x=some .local∨sc.names.lookup x=some .cell∨sc.names.lookup x=some .free
def Loc (sc:Scope)(x:Str):Prop:=sc.names.lookup x=some .local∨sc.names.lookup x=some .cell
def Look (env:Env)(h:Heap)(m:bG)(x:Str)(u:Value):Prop:=
 (env.kindOf x=some .local/\m x=some u)∨((env.kindOf x=some .cell∨env.kindOf x=some .free)/\∃c,env.cells.lookup x=some c/\h.IsCell c (some u))
structure Cx.Ok (X:Cx):Prop where
 mod:Mod X.K X.mg X.base
 kind:X.env.scope.kind=.function
 glob:X.env.globals=mainGlobals
 blt:X.env.builtins=builtinsNs
 above:X.s0.heap.objs.size<=X.env.locals
 inj:∀x y c,X.env.cells.lookup x=some c->X.env.cells.lookup y=some c->x=y
 has:∀x,(X.env.kindOf x=some .cell∨X.env.kindOf x=some .free)->∃c,X.env.cells.lookup x=some c
 cab:∀x c,X.fn x=true->X.env.cells.lookup x=some c->X.s0.heap.objs.size<=c
 hd:X.calm=true->X.A.handled=none
 frames:X.A.frames=some X.stack
 stk:X.stack=X.outer∨(X.stack=X.env::X.outer/\X.env.frame=some X.env.locals)
 exf:∀b∈X.ex,b≠X.env.locals/\∀x c,X.env.cells.lookup x=some c->c≠b
 bs:∀b o,X.base.get? b=some o->X.s0.heap.get? b=some o/\X.H0 b=none
 bsz:X.base.objs.size<=X.s0.heap.objs.size
 noex:∀b o,X.base.get? b=some o->b∉X.ex
 exfs:∀b∈X.ex,b∉X.fs
 funs:X.s0.heap.FunFrames X.base X.outer
 frf:∀b∈X.fs,X.H0 b=none
structure Inv (X:Cx)(pins:bz)(σ:List (Option V))(H:Hp)(s:Shared):Prop where
 ok:X.Ok
 os:s.os=X.s0.os
 bare:AllBare s.gens
 base:Un X.fs X.ex X.H0 H X.s0.heap s.heap
 loc:∃m,s.heap.Ns X.env.locals m/\∀(i:Nat)(x:Str)(v:V),X.N[i]? =some x->σ[i]? =some (some v)->Yc X.env.scope x->∃u,RelV v u/\Look X.env s.heap m x u
 cell:∀x c,X.env.cells.lookup x=some c->∃v,s.heap.IsCell c v
 free:H X.env.locals=none
 freeC:∀x c,X.env.cells.lookup x=some c->H c=none
 pin:∀p∈X.pn++pins,s.heap.get? p.1=some p.2/\H p.1=none/\p.1≠X.env.locals/\p.1∉X.fs/\∀v,p.2.data≠.cell v
 hok:jw X.prog X.w H s.heap
 len:σ.length=X.N.length
section
variable {X:Cx}{σ:List (Option V)}{H H':Hp}{h':Heap}
def Cx.Ok.nofr (ok:X.Ok){o:Obj}(e:X.base.get? b=some o):b∉X.fs:=λh=>by
 have:=(ok.funs.mem h).1
 rw[e]at this;cases this
theorem Inv.bs (I:Inv X pins σ H s):∀b o,X.base.get? b=some o->s.heap.get? b=some o/\H b=none:=λb o e=>
 ⟨I.base.keep b o (I.ok.bs b o e).1 (I.ok.bs b o e).2 (I.ok.nofr e) (I.ok.noex b o e),I.base.free b o (I.ok.bs b o e).1 (I.ok.bs b o e).2 (I.ok.noex b o e)⟩
def Inv.bk (I:Inv X pins σ H s):∀b o,X.base.get? b=some o->s.heap.get? b=some o:=λb o e=>(I.bs b o e).1
theorem Inv.mod (I:Inv X pins σ H s):Mod X.K X.mg X.base:=I.ok.mod
def Inv.kIn (I:Inv X pins σ H s):X.K.In s.heap:=I.ok.mod.kin.keeps I.bk
theorem Inv.lt (I:Inv X pins σ H s):X.env.locals<s.heap.objs.size:=let ⟨_,hn,_⟩:=I.loc;hn.lt
def Inv.sz (I:Inv X pins σ H s):X.s0.heap.objs.size<=s.heap.objs.size:=a3 I.ok.above (le_of_lt I.lt)
def Inv.nofs (I:Inv X pins σ H s)(h:s.heap.objs.size<=a):a∉X.fs:=λb=>by
 obtain⟨_,o,ho,_⟩:=I.ok.funs.mem b;exact absurd (aD (aF ho) (a3 I.sz h)) (aT _)
def Inv.cne (I:Inv X pins σ H s):∀x c,X.env.cells.lookup x=some c->c≠X.env.locals:=λx c e z=>by
 obtain⟨v,o,ho,hd⟩:=I.cell x c e;obtain⟨m,⟨o',E,p,h,a,_⟩,_⟩:=I.loc;rw[z,h]at ho;cases ho;rw[a]at hd;cases hd
theorem Inv.funs (I:Inv X pins σ H s):s.heap.FunFrames X.base X.outer:=by
 have all:∀(l:bH),(∀b∈wD l,b∈X.fs)->X.s0.heap.FunFrames X.base l->s.heap.FunFrames X.base l:=by
  intro l
  induction l with
  |nil=>intro _ _;trivial|cons env r i=>
   intro c hl;obtain⟨f,⟨L,o,hf,hn,ho,hd⟩,d⟩:=hl;have a:L∈X.fs:=c L (by unfold wD;rw[List.filterMap_cons,hf];exact aJ)
   obtain⟨sl,e⟩:=I.base.slot L o ho (I.ok.frf L a) a λz=>I.ok.exfs L z a;exact⟨f,⟨L,_,hf,hn,e,hd⟩,i (λb h=>c b (by unfold wD;rw[List.filterMap_cons,hf];exact aI _ h)) d⟩
 exact all X.outer (λ_ h=>h) I.ok.funs
theorem Inv.stack (I:Inv X pins σ H s):s.heap.FunFrames X.base X.stack:=by
 rcases I.ok.stk with e|⟨e,hf⟩
 ·rw[e];exact I.funs
 ·rw[e]
  obtain⟨m,hn,_⟩:=I.loc;refine .cons (by rw[I.ok.kind];decide) hf hn ?_ I.funs
  exact Heap.get?_none_of_le (a3 I.ok.bsz I.ok.above)
def Inv.stkSub (I:Inv X pins σ H s):∀b∈wD X.stack,b∈X.env.locals::X.fs:=λb h=>by
 rcases I.ok.stk with e|⟨e,hf⟩
 ·rw[e]at h;exact aI _ h
 ·rw[e]at h
  unfold wD at h;rw[List.filterMap_cons,hf]at h;exact h
def Inv.stkFree (I:Inv X pins σ H s):∀b∈wD X.stack,H b=none:=λb h=>by
 rcases bQ.mp (I.stkSub b h) with e|h
 ·rw[e];exact I.free
 ·obtain⟨_,o,ho,_⟩:=I.ok.funs.mem h
  exact I.base.free b o ho (I.ok.frf b h) λz=>I.ok.exfs b z h
def Inv.step {g':Array GenState}{d':Drawn}{ch:bx}(I:Inv X pins σ H s)
  (a:∀b∈ch,(b∈X.ex∨X.s0.heap.objs.size<=b)/\b≠X.env.locals/\(∀x c,X.env.cells.lookup x=some c->c≠b)/\∀p∈X.pn++pins,p.1≠b)
  (keep:∀b o,b≠X.env.locals->b∉X.fs->b∉ch->s.heap.get? b=some o->H b=none->h'.get? b=some o)
  (slot:∀b o,b≠X.env.locals->b∈X.fs->b∉ch->s.heap.get? b=some o->H b=none->∃sl,h'.get? b=some { o with slots:=sl })(free:∀b o,b∉ch->s.heap.get? b=some o->H b=none->H' b=none)
  (there:∀b o,b∉ch->s.heap.get? b=some o->∃o',h'.get? b=some o')
  (tups:∀b xs,H b=some (.tup xs)->H' b=some (.tup xs))(frzs:∀b o u,H b=some (.frz o u)->H' b=some (.frz o u))(tbls:∀b P,H b=some (.tbl P)->∃more,H' b=some (.tbl (P++more)))
  (ns:∀m,s.heap.Ns X.env.locals m->h'.Ns X.env.locals m)(hok:jw X.prog X.w H' h')(A:AllBare g'):
  Inv X pins σ H' { s with heap:=h',gens:=g',drawn:=d',toks:=t' }:=by
 have L:∀b o,X.s0.heap.get? b=some o->b≠X.env.locals:=λb o e=>aO (aD (aF e) I.ok.above);have C:∀b o,X.s0.heap.get? b=some o->b∉X.ex->b∉ch:=λb o e h f=>by
  rcases(a b f).1 with z|z
  ·exact h z
  ·exact absurd (aD (aF e) z) (aT _)
 have cellK:∀x c,X.env.cells.lookup x=some c->∀v,s.heap.IsCell c v->h'.IsCell c v:=λx c e v ⟨o,ho,hd⟩=>by
  have N:c∉ch:=λz=>(a c z).2.2.1 x c e rfl
  by_cases y:c∈X.fs
  ·obtain⟨sl,q⟩:=slot c o (I.cne x c e) y N ho (I.freeC x c e)
   exact⟨_,q,hd⟩
  ·exact⟨o,keep c o (I.cne x c e) y N ho (I.freeC x c e),hd⟩
 refine⟨I.ok,I.os,A,⟨λb o e n f h=>?_,λb o e n f h=>?_,λb o e n h=>?_,λb o e h=>?_,λb xs e=>tups b xs (I.base.tups b xs e),λb o xs e=>frzs b o xs (I.base.frzs b o xs e),λb P e=>?_⟩,?_,λx c e=>?_,?_,λx c e=>?_,λp t=>?_,hok,I.len⟩
 ·exact keep b o (L b o e) f (C b o e h) (I.base.keep b o e n f h) (I.base.free b o e n h)
 ·obtain⟨sl,E⟩:=I.base.slot b o e n f h
  obtain⟨S,g⟩:=slot b _ (L b o e) f (C b o e h) E (I.base.free b o e n h);exact⟨S,g⟩
 ·obtain⟨o',E⟩:=I.base.there b o e h
  exact free b o' (C b o e h) E (I.base.free b o e n h)
 ·obtain⟨o',E⟩:=I.base.there b o e h
  exact there b o' (C b o e h) E
 ·obtain⟨m1,E⟩:=I.base.tbls b P e
  obtain⟨m2,g⟩:=tbls b _ E;exact⟨m1++m2,by rw[g,Array.append_assoc]⟩
 ·obtain⟨m,hn,hl⟩:=I.loc
  refine⟨m,ns m hn,λi x v E g B=>?_⟩;obtain⟨u,r,l⟩:=hl i x v E g B;refine⟨u,r,?_⟩;rcases l with l|⟨k,c,e,z⟩
  ·exact .inl l
  ·exact .inr ⟨k,c,e,cellK x c e _ z⟩
 ·obtain⟨v,z⟩:=I.cell x c e
  exact⟨v,cellK x c e v z⟩
 ·obtain⟨m,⟨o,_,_,ho,_⟩,_⟩:=I.loc
  exact free _ o (λz=>(a _ z).2.1 rfl) ho I.free
 ·obtain⟨v,o,ho,hd⟩:=I.cell x c e
  exact free c o (λz=>(a c z).2.2.1 x c e rfl) ho (I.freeC x c e)
 ·obtain⟨e,n,ne,j,d⟩:=I.pin p t
  have N:p.1∉ch:=λz=>(a p.1 z).2.2.2 p t rfl;exact⟨keep p.1 p.2 ne j N e n,free p.1 p.2 N e n,ne,j,d⟩
def Inv.un (I:Inv X pins σ H s)(u:Un X.fs [] H H' s.heap h')(hok:jw X.prog X.w H' h'):Inv X pins σ H' { s with heap:=h',toks:=t' }:=by
 obtain⟨m,⟨o,f,p,ho,r⟩,_⟩:=id I.loc;obtain⟨sl,L⟩:=u.any ho I.free (by simp)
 exact I.step (g':=s.gens) (d':=s.drawn) (ch:=[]) (λ_ z=>nomatch z) (λb o _ a _ e n=>u.keep b o e n a (by simp)) (λb o _ a _ e n=>u.slot b o e n a (by simp)) (λb o _ e n=>u.free b o e n (by simp)) (λb o _ e=>u.there b o e (by simp)) u.tups u.frzs u.tbls (λM hm=>by
  obtain⟨o',E,c,h,d⟩:=hm;rw[ho]at h;cases h;exact⟨_,E,c,L,d⟩) hok I.bare
def Inv.call {g':Array GenState}{d':Drawn}{ch:bx}(I:Inv X pins σ H s)(u:Un (wD X.stack) ch H H' s.heap h')(hok:jw X.prog X.w H' h')(i:AllBare g')
  (d:∀b∈ch,(b∈X.ex∨X.s0.heap.objs.size<=b)/\b≠X.env.locals/\(∀x c,X.env.cells.lookup x=some c->c≠b)/\∀p∈X.pn++pins,p.1≠b):
  Inv X pins σ H' { s with heap:=h',gens:=g',drawn:=d',toks:=t' }:=by
 obtain⟨m,⟨o,l,q,ho,r⟩,_⟩:=id I.loc;obtain⟨sl,L⟩:=u.any ho I.free λz=>(d _ z).2.1 rfl;exact I.step (ch:=ch) d (λb o L j h e n=>u.keep b o e n (λz=>(bQ.mp (I.stkSub b z)).elim L j) h) (λb o _ _ h e n=>u.any e n h) (λb o h e n=>u.free b o e n h) (λb o h e=>u.there b o e h) u.tups u.frzs u.tbls (λM hm=>by
  obtain⟨o',E,f,a,g⟩:=hm;rw[ho]at a;cases a;exact⟨_,E,f,L,g⟩) hok i
def Inv.turned {it:Addr}(I:Inv X pins σ H s)(k:∀b o,b≠it->s.heap.get? b=some o->h'.get? b=some o)(hn:H it=none)(L:it≠X.env.locals)
  (g:it∈X.ex∨X.s0.heap.objs.size<=it)(f:∀x c,X.env.cells.lookup x=some c->c≠it)(d:∀p∈X.pn++pins,p.1≠it):Inv X pins σ H { s with heap:=h',toks:=t' }:=by
 have N:∀b u,H b=some u->b≠it:=λb u e z=>by rw[z,hn]at e;cases e
 refine I.step (g':=s.gens) (d':=s.drawn) (ch:=[it]) (λb a=>?_) (λb o _ _ h e _=>k b o (λz=>h (by simp[z])) e) (λb o _ _ h e _=>⟨o.slots,k b o (λz=>h (by simp[z])) e⟩) (λ_ _ _ _ n=>n)
  (λb o h e=>⟨o,k b o (λz=>h (by simp[z])) e⟩) (λ_ _ e=>e) (λ_ _ _ e=>e) (λb P e=>⟨#[],by rw[e];simp⟩) (λm hm=>?_) (λb u e=>?_) I.bare
 ·have e:b=it:=by simpa using a
  subst e;exact⟨g,L,f,d⟩
 ·obtain⟨o,E,i,ho,r⟩:=hm
  exact⟨o,E,i,k _ o (Ne.symm L) ho,r⟩
 ·refine(I.hok b u e).stay (λc v h q=>k c v ?_ q) (λ_ q=>q) λ_ _ q=>q
  rcases h with z|z
  ·rw[z];exact N b u e
  ·exact N c _ z
def Inv.tok (I:Inv X pins σ H s)(t:Nat):Inv X pins σ H { s with toks:=t }:=I.un (h':=s.heap) (t':=t) Un.refl I.hok
theorem Inv.kept (I:Inv X pins σ H s)(k:∀b u,s.heap.get? b=some u->h'.get? b=some u):Inv X pins σ H { s with heap:=h',toks:=t' }:=I.un (Un.kept k) (I.hok.kept k)
theorem Inv.laid {o:HO}(I:Inv X pins σ H s)(k:∀b u,s.heap.get? b=some u->h'.get? b=some u)(h:s.heap.objs.size<=a)(new:jA X.prog X.w (upd H a o) h' a o):
  Inv X pins σ (upd H a o) { s with heap:=h',toks:=t' }:=I.un (Un.laid k h (I.hok.fresh h)) (I.hok.laid k h new)
theorem Inv.write {x e:Addr}{o:HO}(I:Inv X pins σ H s)(m:Ym (H x))(he:e=x∨H e=some (.own x))(k:∀b u,b≠e->s.heap.get? b=some u->h'.get? b=some u)(h:∃u,h'.get? e=some u)
  (new:jA X.prog X.w (upd H x o) h' x o):Inv X pins σ (upd H x o) { s with heap:=h',toks:=t' }:=I.un (Un.write m he k h) (I.hok.write m he k h new)
def Inv.pins_of {P:bz}(I:Inv X pins σ H s)(h:∀p∈P,s.heap.get? p.1=some p.2/\H p.1=none/\p.1≠X.env.locals/\p.1∉X.fs/\∀v,p.2.data≠.cell v):Inv X P σ H s:=
 ⟨I.ok,I.os,I.bare,I.base,I.loc,I.cell,I.free,I.freeC,λp a=>(List.mem_append.mp a).elim (λz=>I.pin p (aY _ z)) (h p),I.hok,I.len⟩
def Sw (h:N.Nodup){j:Nat}(a:N[i]? =some x)(b:N[j]? =some x):i=j:=by
 obtain⟨c,E⟩:=bP.mp a;obtain⟨H,e⟩:=bP.mp b;exact(List.getElem_inj h).mp (E.trans e.symm)
def TM {M:Model}{A:Around}{v:V}{Q:Unit->Shared->Prop}(I:Inv X pins σ H s)(hN:X.N.Nodup)(U:X.N[i]? =some x)(t:Loc X.env.scope x)(r:RelV v u)
  (h:∀s',Inv X pins (σ.set i (some v)) H s'->(∃a,Heap.SameBut a s.heap s'.heap/\(a=X.env.locals∨X.env.cells.lookup x=some a))->Q () s')(hf:X.fn x=true∨X.env.scope.names.lookup x=some .local:=by first|exact .inl rfl|exact .inr rfl|assumption):wpAny M A (storeName X.env x u) Q E s:=by
 obtain⟨m,hn,hl⟩:=id I.loc;have Y:(X.env.scope.kind==.class || (X.env.scope.kind==.module&&X.env.locals != X.env.globals))=false:=by rw[I.ok.kind];rfl
 have J:i < σ.length:=by rw[I.len];exact(bP.mp U).1
 have cne:=I.cne;have tracked:∀{a:Addr}{h':Heap},(∃o,s.heap.get? a=some o/\H a=none)->Heap.SameBut a s.heap h'->jw X.prog X.w H h':=λ {a h'} ha f b ob e=>by
  obtain⟨_,_,B⟩:=ha;refine(I.hok b ob e).stay (λc w' l q=>(f.2 c ?_).trans q) (λ_ q=>q) λ_ _ q=>q
  rintro rfl
  rcases l with rfl|l
  ·rw[B]at e;cases e
  ·rw[B]at l;cases l
 rcases t with D|D
 ·refine wpAny_storeName_local D hn (λh' hn' f=>?_) Y
  obtain⟨oL,_,_,hoL,_⟩:=id hn;refine h _ ⟨I.ok,I.os,I.bare,⟨λb o e n P t=>?_,λb o e n P t=>?_,I.base.free,λb o e t=>?_,I.base.tups,I.base.frzs,I.base.tbls⟩,⟨_,hn',λj y v' g C e3=>?_⟩,λy c e=>?_,I.free,I.freeC,λp hp=>?_,tracked ⟨oL,hoL,I.free⟩ f,by simpa using I.len⟩ ⟨_,f,.inl rfl⟩
  ·exact(f.2 b (aO (aD (aF e) I.ok.above))).trans (I.base.keep b o e n P t)
  ·obtain⟨sl,g⟩:=I.base.slot b o e n P t
   exact⟨sl,(f.2 b (aO (aD (aF e) I.ok.above))).trans g⟩
  ·obtain⟨o',g⟩:=I.base.there b o e t
   exact⟨o',(f.2 b (aO (aD (aF e) I.ok.above))).trans g⟩
  ·by_cases K:j=i
   ·subst K
    rw[U]at g;cases g;rw[aB J]at C;cases C;exact⟨u,r,.inl ⟨D,by simp⟩⟩
   ·rw[ay (Ne.symm K)]at C
    obtain⟨u',r',q⟩:=hl j y v' g C e3;refine⟨u',r',?_⟩;rcases q with ⟨k,e⟩|⟨k,c,e,z⟩
    ·refine .inl ⟨k,?_⟩
     have:y≠x:=λe=>K (Sw hN g (e ▸ U))
     simp[this,e]
    ·exact .inr ⟨k,c,e,z.sameBut f (cne y c e)⟩
  ·obtain⟨w',z⟩:=I.cell y c e
   exact⟨w',z.sameBut f (cne y c e)⟩
  ·obtain⟨e,n,ne,nf,d⟩:=I.pin p hp
   exact⟨(f.2 p.1 ne).trans e,n,ne,nf,d⟩
 ·have L:X.fn x=true:=by
   rcases hf with z|z
   ·exact z
   ·rw[z]at D;cases D
  obtain⟨c,l⟩:=I.ok.has x (.inl D);obtain⟨w',z⟩:=I.cell x c l;refine wpAny_storeName_cell I.ok.kind D l z (λh' hc' f=>?_);obtain⟨oc,T,S⟩:=id z;refine h { s with heap:=h' } ⟨I.ok,I.os,I.bare,⟨λb o e n P t=>?_,λb o e n P t=>?_,I.base.free,λb o e t=>?_,I.base.tups,I.base.frzs,I.base.tbls⟩,⟨m,hn.sameBut f (Ne.symm (cne x c l)),λj y v' g C e3=>?_⟩,λy c' e=>?_,I.free,I.freeC,λp hp=>?_,tracked ⟨oc,T,I.freeC x c l⟩ f,by simpa using I.len⟩ ⟨c,f,.inr l⟩
  ·exact(f.2 b (aO (aD (aF e) (I.ok.cab x c L l)))).trans (I.base.keep b o e n P t)
  ·obtain⟨sl,g⟩:=I.base.slot b o e n P t
   exact⟨sl,(f.2 b (aO (aD (aF e) (I.ok.cab x c L l)))).trans g⟩
  ·obtain⟨o',g⟩:=I.base.there b o e t
   exact⟨o',(f.2 b (aO (aD (aF e) (I.ok.cab x c L l)))).trans g⟩
  ·by_cases K:j=i
   ·subst K
    rw[U]at g;cases g;rw[aB J]at C;cases C;exact⟨u,r,.inr ⟨.inl D,c,l,hc'⟩⟩
   ·rw[ay (Ne.symm K)]at C
    obtain⟨u',r',q⟩:=hl j y v' g C e3;refine⟨u',r',?_⟩;rcases q with q|⟨k,c',e,z'⟩
    ·exact .inl q
    ·refine .inr ⟨k,c',e,z'.sameBut f ?_⟩
     rintro rfl
     exact K (Sw hN g (I.ok.inj _ _ _ e l ▸ U))
  ·by_cases Z:c'=c
   ·subst Z;exact⟨_,hc'⟩
   ·obtain⟨w2,z2⟩:=I.cell y c' e
    exact⟨w2,z2.sameBut f Z⟩
  ·obtain⟨e,n,ne,nf,d⟩:=I.pin p hp
   refine⟨(f.2 p.1 ?_).trans e,n,ne,nf,d⟩;intro q;rw[q,T]at e;have q':oc=p.2:=ax e;exact d w' (by rw[<- q'];exact S)
def Jw {M:Model}{A:Around}{v:V}{Q:Unit->Shared->Prop}(I:Inv X pins σ H s)(c:X.N.Nodup)(b:X.N[i]? =some x)(a:Loc X.env.scope x)(r:RelV v u)
  (h:∀S,Inv X pins (σ.set i (some v)) H S->Q () S)(hf:X.fn x=true∨X.env.scope.names.lookup x=some .local:=by first|exact .inl rfl|exact .inr rfl|assumption):wpAny M A (storeName X.env x u) Q E s:=
 TM I c b a r (λS d _=>h S d) hf
def Inv.call' {S:Shared}{ch:bx}(I:Inv X pins σ H s)(ho:S.os=s.os)(u:Un (wD X.stack) ch H H' s.heap S.heap)(hok:jw X.prog X.w H' S.heap)(g:AllBare S.gens)
  (h:∀b∈ch,(b∈X.ex∨X.s0.heap.objs.size<=b)/\b≠X.env.locals/\(∀x c,X.env.cells.lookup x=some c->c≠b)/\∀p∈X.pn++pins,p.1≠b):Inv X pins σ H' S:=by
 obtain⟨h',g',d',t',o'⟩:=S;have e:o'=s.os:=ho;subst e;exact I.call (g':=g') (t':=t') (d':=d') u hok g h
end
abbrev XK:=Value->Option Addr->Hp->Prop
noncomputable abbrev St:=List (Option V)
abbrev VK:=V->Hp->Prop
abbrev TE:=St->Hp->VK->Prop
abbrev TT:=St->Hp->(Bool->Hp->Prop)->Prop
abbrev TA:=St->Hp->(List V->Hp->Prop)->Prop
structure Ends where
 nx:St->Hp->Prop
 rt:VK
 bk:St->Hp->Prop:=λ_ _=>False
 ct:St->Hp->Prop:=λ_ _=>False
abbrev TS:=Ends->St->Hp->Prop
inductive EP (X:Cx)(pins:bz)(σ:St)(Q:VK)(u:Value)(s':Shared):Prop
 |mk (v:V) (H':Hp) (I:Inv X pins σ H' s') (r:RelV v u) (q:Q v H')
def TP (X:Cx)(pins:bz)(σ:St)(Q:Bool->Hp->Prop)(b:Bool)(s:Shared):Prop:=∃H,Inv X pins σ H s/\Q b H
inductive AP (X:Cx)(pins:bz)(σ:St)(Q:List V->Hp->Prop)(us:bw)(s':Shared):Prop
 |mk (vs:List V) (H':Hp) (I:Inv X pins σ H' s') (r:Vals vs us) (q:Q vs H')
def SP (X:Cx)(pins:bz)(D:Ends)(f:Flow)(s:Shared):Prop:=
 match f with
 |.next=>∃a H,Inv X pins a H s/\D.nx a H|.brk=>∃a H,Inv X pins a H s/\D.bk a H|.cont=>∃a H,Inv X pins a H s/\D.ct a H|.ret u=>∃v a H,Inv X pins a H s/\RelV v u/\D.rt v H
def PE (X:Cx)(e:Expr)(t:TE):Prop:=
 ∀(pins:bz)(s:Shared)(σ:St)(H:Hp)(Q:VK),Inv X pins σ H s->t σ H Q->wpAny (model X.prog X.w) X.A (eval e X.env) (EP X pins σ Q) X.xe s
def PT (X:Cx)(e:Expr)(t:TT):Prop:=
 ∀(pins:bz)(s:Shared)(σ:St)(H:Hp)(Q:Bool->Hp->Prop),Inv X pins σ H s->t σ H Q->wpAny (model X.prog X.w) X.A (isTrue e X.env (eval e X.env)) (TP X pins σ Q) X.xe s
def PW (X:Cx)(e:Expr)(t:TT):Prop:=
 ∀(whole:Sem Value)(pins:bz)(s:Shared)(σ:St)(H:Hp)(Q:Bool->Hp->Prop),Inv X pins σ H s->t σ H Q->wpAny (model X.prog X.w) X.A (isTrue e X.env whole) (TP X pins σ Q) X.xe s
def PW.pt {X:Cx}{t:TT}(h:PW X e t):PT X e t:=h _
def PA (X:Cx)(e:bE)(t:TA):Prop:=
 ∀(pos:Pos)(pins:bz)(s:Shared)(σ:St)(H:Hp)(Q:List V->Hp->Prop),Inv X pins σ H s->t σ H Q->wpAny (model X.prog X.w) X.A (spliced (backTo pos (starEach e X.env))) (AP X pins σ Q) X.xe s
def PS (X:Cx)(st:Stmt)(t:TS):Prop:=
 ∀(pins:bz)(s:Shared)(σ:St)(H:Hp)(D:Ends),Inv X pins σ H s->t D σ H->wpAny (model X.prog X.w) X.A (exec st X.env) (SP X pins D) X.xe s
def yD (X:Cx)(st:bL)(t:TS):Prop:=
 ∀(pins:bz)(s:Shared)(σ:St)(H:Hp)(D:Ends),Inv X pins σ H s->t D σ H->wpAny (model X.prog X.w) X.A (execs st X.env) (SP X pins D) X.xe s
def zM {t:Sem α}{Q Q':α->Shared->Prop}{M:Model}{A:Around}(h:wpAny M A t Q E s)(H:∀a s,Q a s->Q' a s):wpAny M A t Q' E s:=wpAny_mono h H λ_ _ x=>x
section
variable {X:Cx}
noncomputable def bY (i:Nat):TE:=λσ H Q=>∃v,σ[i]? =some (some v)/\Q v H
noncomputable def tC (v:V):TE:=λ_ H Q=>Q v H
def DX (j:X.N[i]? =some x)(g:Yc X.env.scope x)(hd:(x==("__debug__":Str))=false:=by decide)(d:(x==("__classdict__":Str))=false:=by decide):PE X (.Name x pos) (bY i):=by
 intro pins s σ H Q I h;obtain⟨v,e,h⟩:=h;obtain⟨m,hn,hl⟩:=I.loc;obtain⟨u,r,l⟩:=hl i x v j e g;have fin:EP X pins σ Q u s:=⟨v,H,I,r,h⟩;rcases l with ⟨b,hm⟩|⟨b,c,f,a⟩
 ·exact wpAny_Name (wpAny_loadName_local I.ok.kind b hn hm fin) hd
 ·rcases b with b|b
  ·exact wpAny_Name (wpAny_loadName_cell I.ok.kind b f a fin) hd
  ·exact wpAny_Name (wpAny_loadName_free I.ok.kind b f a fin d) hd
def R7 {i j pos}:PE X (.Constant (.int i) j pos) (tC (.int i)):=λ_ _ _ H _ I h=>wpAny_Constant_int ⟨.int i,H,I.tok _,⟨_,rfl⟩,h⟩
def B2 {b j pos}:PE X (.Constant (.bool b) j pos) (tC (.bl b)):=λ_ _ _ H _ I h=>Constant_bool ⟨.bl b,H,I,rfl,h⟩
def Ba {j pos}:PE X (.Constant .none j pos) (tC .non):=λ_ _ _ H _ I h=>Constant_none ⟨.non,H,I,rfl,h⟩
def Gl (X:Cx)(x:Str):Prop:=X.env.kindOf x=some .globalImplicit
def Rc {σ:St}{H:Hp}(I:Inv X pins σ H s)(g:Gl X x)(hm:X.mg x=some u)(h:Q u s)
  (hd:(x==("__debug__":Str))=false:=by decide):wpAny (model X.prog X.w) X.A (eval (.Name x pos) X.env) Q E s:=
 Calls.Name_function_global I.ok.kind g (Calls.loadGlobal_global (by rw[I.ok.glob];exact I.mod.glob.keeps I.bk) hm h) hd
def gy {σ:St}{H:Hp}(I:Inv X pins σ H s)(g:Gl X x)(hm:X.mg x=none)(v:bootBuiltins x=some u)(h:Q u s)
  (hn:x ≠ "__name__":=by decide)(hd:(x==("__debug__":Str))=false:=by decide):wpAny (model X.prog X.w) X.A (eval (.Name x pos) X.env) Q E s:=by
 obtain⟨m,b,a⟩:=I.mod.blt;exact Calls.Name_function_global I.ok.kind g (Calls.loadGlobal_builtin (by rw[I.ok.glob];exact I.mod.glob.keeps I.bk) hm (by rw[I.ok.blt];exact b.keeps I.bk) ((a x hn).trans v) h) hd
def DF {v:V}(g:Gl X x)(hm:X.mg x=some u)(r:RelV v u)(hd:(x==("__debug__":Str))=false:=by decide):PE X (.Name x pos) (tC v):=
 λ_ _ _ H _ I h=>Rc I g hm ⟨v,H,I,r,h⟩ hd
def EL {v:V}(g:Gl X x)(hm:X.mg x=none)(a:bootBuiltins x=some u)(r:RelV v u)(hn:x ≠ "__name__":=by decide)(hd:(x==("__debug__":Str))=false:=by decide):PE X (.Name x pos) (tC v):=
 λ_ _ _ H _ I h=>gy I g hm a ⟨v,H,I,r,h⟩ hn hd
variable {a b:Expr}{ta tb:TE}
def HY (b:Expr)(h:op≠.In)(H:op≠.NotIn):behindInMarks op b=false:=by
 have E:(op==CmpOp.In)=false:=by cases op<;>first|rfl|exact absurd rfl h
 have e:(op==CmpOp.NotIn)=false:=by cases op<;>first|rfl|exact absurd rfl H
 cases b<;>simp[behindInMarks,E,e]
noncomputable def tB (t:TE):TT:=λσ H Q=>t σ H λx H1=>∃c,x=.bl c/\Q c H1
def C5 {t:TE}(h:PE X e t)(he:∀whole,isTrue e X.env whole=(do let v <- whole;standAt e.pos;holding [v] (truthy v)):=by intro _;rfl):PT X e (tB t):=by
 intro pins s σ H Q I hw;refine isTrue_plain (zM (h pins s σ H _ I hw) λv s1 ⟨x,H1,i,r,a⟩=>?_) (he _);obtain⟨d,rfl,q⟩:=a;cases r;exact wpAny_truthy_bool ⟨H1,i,q⟩
variable {tA tB':TT}{rest:bE}
noncomputable def A9 (t u:TT):TT:=λσ H Q=>t σ H λc H1=>if c=true then u σ H1 Q else Q false H1
noncomputable def bZ (t u:TT):TT:=λσ H Q=>t σ H λc H1=>if c=true then Q true H1 else u σ H1 Q
noncomputable def b0 (t:TT):TT:=λσ H Q=>t σ H λc H1=>Q (!c) H1
def pw_and1 (b:PT X a tA):PW X (.BoolOp .And [a] pos) tA:=by
 intro w pins s σ H Q I h;refine isTrue_and (zM (b pins s σ H Q I h) λc s1 e=>?_);cases c with
 |true=>exact isTrue_and_nil e|false=>exact e
def pw_or1 (b:PT X a tA):PW X (.BoolOp .Or [a] pos) tA:=by
 intro w pins s σ H Q I h;refine isTrue_or (zM (b pins s σ H Q I h) λc s1 e=>?_);cases c with
 |false=>exact isTrue_or_nil e|true=>exact e
def pw_and (e:PT X a tA)(d:PW X (.BoolOp .And (b::rest) pos) tB'):PW X (.BoolOp .And (a::b::rest) pos) (A9 tA tB'):=by
 intro w pins s σ H Q I h;refine isTrue_and (zM (e pins s σ H _ I h) λc s1 ⟨H1,i,q⟩=>?_);cases c with
 |true=>exact d w pins s1 σ H1 Q i q|false=>exact⟨H1,i,q⟩
def pw_or (e:PT X a tA)(d:PW X (.BoolOp .Or (b::rest) pos) tB'):PW X (.BoolOp .Or (a::b::rest) pos) (bZ tA tB'):=by
 intro w pins s σ H Q I h;refine isTrue_or (zM (e pins s σ H _ I h) λc s1 ⟨H1,i,q⟩=>?_);cases c with
 |true=>exact⟨H1,i,q⟩|false=>exact d w pins s1 σ H1 Q i q
def Bm (b:PT X a tA):PT X (.UnaryOp .Not a pos) (b0 tA):=by
 intro pins s σ H Q I h;exact isTrue_not (b pins s σ H (λc H1=>Q (!c) H1) I h)
noncomputable def Aq (T t:TE):TE:=λσ H Q=>T σ H λx H1=>∃c,x=.bl c/\if c=true then t σ H1 Q else Q (.bl false) H1
noncomputable def Af (t:TE):TE:=λσ H Q=>t σ H λx H1=>∃c,x=.bl c/\Q (.bl (!c)) H1
def Br {op}{t:TE}(h:PE X a t):PE X (.BoolOp op [a] pos) t:=λpins s σ H Q I hw=>BoolOp_one (h pins s σ H Q I hw)
def CT (e:PE X a ta)(d:PE X (.BoolOp .And (b::rest) pos) tb):PE X (.BoolOp .And (a::b::rest) pos) (Aq ta tb):=by
 intro pins s σ H Q I h;refine BoolOp_and (zM (e pins s σ H _ I h) λv s1 ⟨x,H1,i,r,q⟩=>?_);obtain⟨c,rfl,q⟩:=q;cases r;refine wpAny_truthy_bool ?_;cases c with
 |true=>exact d pins s1 σ H1 Q i q|false=>exact⟨.bl false,H1,i,rfl,q⟩
def D2 (b:PE X a ta):PE X (.UnaryOp .Not a pos) (Af ta):=by
 intro pins s σ H Q I h;refine UnaryOp_ (zM (b pins s σ H _ I h) λv s1 ⟨x,H1,i,r,q⟩=>?_);obtain⟨c,rfl,q⟩:=q;cases r;exact not_of (wpAny_truthy_bool ⟨.bl (!c),H1,i,rfl,q⟩)
noncomputable def b1 (t:TT)(a T:TE):TE:=λσ H Q=>t σ H λc H1=>if c=true then a σ H1 Q else T σ H1 Q
def HD {c:Expr}(e:PT X c tA)(g:PE X a ta)(f:PE X b tb):PE X (.IfExp c a b pos) (b1 tA ta tb):=by
 intro pins s σ H Q I h;refine wpAny_IfExp (zM (e pins s σ H _ I h) λd s1 ⟨H1,i,q⟩=>?_);cases d with
 |true=>exact g pins s1 σ H1 Q i q|false=>exact f pins s1 σ H1 Q i q
end
def qF (K:Frag)(H:Hp)(a:Addr)(xs:List V):Prop:=
 Rd H a (.lst xs)∨
  ∃(o:Obj) (its:Array Value) (n:Nat),K.lookup a=some o/\o.cls=.type "list" /\ o.dict=none/\o.data=.seq its n/\its.size<=sizeLine/\Vals xs its.toList
def qm (K:Frag)(H:Hp)(a:Addr)(xs:List V):Prop:=
 Rd H a (.tup xs)∨
  ∃(o:Obj) (its:Array Value) (n:Nat),K.lookup a=some o/\(o.cls=.type "tuple" /\ o.dict=none)/\o.data=.seq its n/\its.size<=sizeLine/\Vals xs its.toList
noncomputable def b2:Value->Option V
 |.none=>some .non|.bool b=>some (.bl b)|.int i _=>some (.int i)|.str x _=>some (.str x)|.bytes b _=>some (.byt b)|.float b _=>some (.flt b)|.ref a=>some (.ref a)|.type n=>some (.ty n)|_=>none
def RelV.abs {x:V}(r:RelV x u):b2 u=some x:=by
 cases x with
 |non=>cases r;rfl|bl _=>cases r;rfl|int _=>obtain⟨t,rfl⟩:=r;rfl|str _=>obtain⟨t,rfl⟩:=r;rfl|byt _=>obtain⟨t,rfl⟩:=r;rfl|flt _=>obtain⟨t,rfl⟩:=r;rfl|ref _=>cases r;rfl|ty _=>cases r;rfl
def RelV.inj {x y:V}(r:RelV x u)(q:RelV y u):x=y:=ax (r.abs.symm.trans q.abs)
theorem Vals.inj:∀{xs y:List V}{us:bw},Vals xs us->Vals y us->xs=y
 |_,_,_,.nil,.nil=>rfl|_,_,_,.cons r t,.cons a t'=>by rw[r.inj a,Vals.inj t t']
section
variable {X:Cx}{σ:St}{H:Hp}{xs ys:List V}
def qF.of {K:Frag}(h:H a=some (.lst xs)):qF K H a xs:=.inl (.inl h)
def qm.of {K:Frag}(h:H a=some (.tup xs)):qm K H a xs:=.inl (.inl h)
def Inv.list (I:Inv X pins σ H s)(h:qF X.K H a xs):∃i:bw,Vals xs i/\PlainL s.heap a i.toArray/\xs.length<=sizeLine:=by
 rcases h with h|⟨o,i,n,c,d,hd,b,f,r⟩
 ·obtain⟨z,i,n,r,e⟩:=h.ok I.hok
  exact⟨i,r,⟨_,n,e,rfl,rfl,rfl⟩,z⟩
 ·refine⟨i.toList,r,⟨o,n,I.kIn a o c,d,hd,by simpa using b⟩,?_⟩
  have e:=r.length;simp only[length_toList]at e;omega
def Inv.tuple (I:Inv X pins σ H s)(h:qm X.K H a xs):∃i:bw,Vals xs i/\IsTup s.heap a i.toArray/\xs.length<=sizeLine:=by
 rcases h with h|⟨o,i,n,c,d,b,f,r⟩
 ·obtain⟨z,i,r,p⟩:=h.ok I.hok
  exact⟨i,r,p.tup,z⟩
 ·refine⟨i.toList,r,⟨o,I.kIn a o c,d.1,n,by simpa using b⟩,?_⟩
  have e:=r.length;simp only[length_toList]at e;omega
def Inv.list_inj (I:Inv X pins σ H s)(h:qF X.K H a xs)(h':qF X.K H a ys):xs=ys:=by
 obtain⟨i,r,⟨o,n,e,_,_,d⟩,_⟩:=I.list h;obtain⟨its',b,⟨o',N,E,_,_,d'⟩,_⟩:=I.list h';rw[e]at E;cases E;rw[d]at d';injection d' with D _
 have:i=its':=by simpa using congrArg Array.toList D
 subst this;exact r.inj b
def Inv.tupleN (I:Inv X pins σ H s)(h:qm X.K H a xs):∃ob,s.heap.get? a=some ob/\ob.dict=none:=by
 rcases h with h|⟨o,i,n,b,d,g,f,r⟩
 ·obtain⟨z,i,r,o,e,c,_⟩:=h.ok I.hok
  exact⟨o,e,c.2⟩
 ·exact⟨o,I.kIn a o b,d.2⟩
def Inv.tuple_inj (I:Inv X pins σ H s)(h:qm X.K H a xs)(h':qm X.K H a ys):xs=ys:=by
 obtain⟨i,r,⟨o,e,_,n,d⟩,_⟩:=I.tuple h;obtain⟨its',b,⟨o',E,_,N,d'⟩,_⟩:=I.tuple h';rw[e]at E;cases E;rw[d]at d';injection d' with D _
 have:i=its':=by simpa using congrArg Array.toList D
 subst this;exact r.inj b
end
noncomputable abbrev Cx.wish (X:Cx)(E:bD):Cx:={ X with xe:=E }
noncomputable abbrev Cx.nox (X:Cx):Cx:=X.wish λ_ _=>False
theorem Cx.Ok.wish {X:Cx}(ok:X.Ok)(E:bD):(X.wish E).Ok:=
 ⟨ok.mod,ok.kind,ok.glob,ok.blt,ok.above,ok.inj,ok.has,ok.cab,ok.hd,ok.frames,ok.stk,ok.exf,ok.bs,ok.bsz,ok.noex,ok.exfs,ok.funs,ok.frf⟩
def Cx.Ok.unwish {X:Cx}(ok:(X.wish E).Ok):X.Ok:=
 ⟨ok.mod,ok.kind,ok.glob,ok.blt,ok.above,ok.inj,ok.has,ok.cab,ok.hd,ok.frames,ok.stk,ok.exf,ok.bs,ok.bsz,ok.noex,ok.exfs,ok.funs,ok.frf⟩
section
variable {X:Cx}{σ:St}{H:Hp}
theorem Inv.wish (I:Inv X pins σ H s)(E:bD):Inv (X.wish E) pins σ H s:=⟨I.ok.wish E,I.os,I.bare,I.base,I.loc,I.cell,I.free,I.freeC,I.pin,I.hok,I.len⟩
theorem Inv.unwish (I:Inv (X.wish E) pins σ H s):Inv X pins σ H s:=⟨I.ok.unwish,I.os,I.bare,I.base,I.loc,I.cell,I.free,I.freeC,I.pin,I.hok,I.len⟩
theorem SP.unwish {D:Ends}{f:Flow}{s:Shared}(h:SP (X.wish E) pins D f s):SP X pins D f s:=by
 cases f with
 |next=>obtain⟨a,H,I,q⟩:=h;exact⟨a,H,I.unwish,q⟩|brk=>obtain⟨a,H,I,q⟩:=h;exact⟨a,H,I.unwish,q⟩|cont=>obtain⟨a,H,I,q⟩:=h;exact⟨a,H,I.unwish,q⟩|ret u=>obtain⟨v,a,H,I,r,q⟩:=h;exact⟨v,a,H,I.unwish,r,q⟩
theorem yD.nox {st:bL}{t:TS}(h:yD X.nox st t):yD X st t:=λpins s σ H D I hw=>
 wpAny_mono (h pins s σ H D (I.wish _) hw) (λ_ _ q=>q.unwish) λ_ _ z=>False.elim z
end
section
variable {X:Cx}{st:Stmt}{rest:bL}{t u:TS}{te:TE}
noncomputable def B9:TS:=λD σ H=>D.nx σ H
noncomputable def b5 (t u:TS):TS:=λD σ H=>t { D with nx:=u D } σ H
def Du:yD X [] B9:=λ_ _ σ H _ I h=>wpAny_execs_nil ⟨σ,H,I,h⟩
def Fq (c:PS X st t)(b:yD X rest u):yD X (st::rest) (b5 t u):=by
 intro pins s σ H D I h;refine wpAny_execs_cons (zM (c pins s σ H { D with nx:=u D } I h) λf s1 q=>?_)
 cases f with
 |next=>
  obtain⟨a,d,i,q⟩:=q;exact b pins s1 a d D i q
 |ret v=>exact q|brk=>exact q|cont=>exact q
def Inv.quiet {σ:St}{H:Hp}(I:Inv X pins σ H s):interactive X.env=false:=by simp[interactive,I.ok.kind]
noncomputable def BZ (t:TE):TS:=λD σ H=>t σ H λ_ H1=>D.nx σ H1
def Eo (he:PE X e te)(a:swapsWith e none pos.line X.env=pure false:=by rfl):PS X (.Expr e pos) (BZ te):=by
 intro pins s σ H D I h;exact wpAny_Expr_any (zM (he pins s σ H _ I h) λv s1 ⟨x,H1,i,r,q⟩=>⟨σ,H1,i,q⟩) I.quiet a
noncomputable def b6 (t:TE):TS:=λD σ H=>t σ H D.rt
def Bp (he:PE X e te):PS X (.Return (some e) pos) (b6 te):=by
 intro pins s σ H D I h;exact wpAny_Return_some (zM (he pins s σ H _ I h) λv s1 ⟨x,H1,i,r,q⟩=>⟨x,σ,H1,i,r,q⟩)
noncomputable def AM (c:TT)(t u:TS):TS:=λD σ H=>c σ H λb H1=>if b=true then t D σ H1 else u D σ H1
def AD {c:Expr}{a b:bL}{T:TT}(e:PT X c T)(g:yD X a t)(f:yD X b u):PS X (.If c a b pos) (AM T t u):=by
 intro pins s σ H D I h;refine wpAny_If (zM (e pins s σ H _ I h) λd s1 ⟨H1,i,q⟩=>?_);cases d with
 |true=>exact g pins s1 σ H1 D i q|false=>exact f pins s1 σ H1 D i q
end
abbrev TG:=V->St->Hp->(St->Hp->Prop)->Prop
abbrev Z3:=List V->St->Hp->(St->Hp->Prop)->Prop
def PG (X:Cx)(target:Expr)(t:TG):Prop:=
 ∀(pins:bz)(s:Shared)(σ:St)(H:Hp)(v:V)(u:Value)(Q:St->Hp->Prop),Inv X pins σ H s->RelV v u->t v σ H Q->
  wpAny (model X.prog X.w) X.A (assign target X.env u) (λ_ S=>∃a h,Inv X pins a h S/\Q a h) X.xe s
def K3 (X:Cx)(T:bE)(t:Z3):Prop:=
 ∀(pins:bz)(s:Shared)(σ:St)(H:Hp)(vs:List V)(us:bw)(Q:St->Hp->Prop),Inv X pins σ H s->Vals vs us->t vs σ H Q->
  wpAny (model X.prog X.w) X.A (assignInOrder ((assignEach T X.env).map (·.2)) us) (λ_ S=>∃a h,Inv X pins a h S/\Q a h) X.xe s
abbrev ZW:=V->V->V->Hp->(Hp->Prop)->Prop
def Kz (X:Cx)(t:ZW):Prop:=
 ∀(pins:bz)(s:Shared)(σ:St)(H:Hp)(o i v:V)(ov I u:Value)(Q:Hp->Prop),Inv X pins σ H s->RelV o ov->RelV i I->RelV v u->t o i v H Q->
  wpAny (model X.prog X.w) X.A (setItem ov I u) (λ_ S=>∃h,Inv X pins σ h S/\Q h) X.xe s
abbrev QW:=V->V->Hp->VK->Prop
def Ve (X:Cx)(op:Operator)(t:QW):Prop:=
 ∀(pins:bz)(s:Shared)(σ:St)(H:Hp)(x y:V)(v u:Value)(Q:VK),Inv X pins σ H s->RelV x v->RelV y u->t x y H Q->
  wpAny (model X.prog X.w) X.A (inplaceOp op v u) (EP X pins σ Q) X.xe s
section
variable {X:Cx}
noncomputable def Kq (i:Nat):TG:=λv σ H Q=>Q (σ.set i (some v)) H
def Qo (c:X.N.Nodup)(b:X.N[i]? =some x)(a:Loc X.env.scope x)(hf:X.fn x=true∨X.env.scope.names.lookup x=some .local:=by first|exact .inl rfl|exact .inr rfl|assumption):PG X (.Name x pos) (Kq i):=by
 intro pins s σ H v u Q I r h;exact wpAny_assign_Name (Jw I c b a r (λS d=>⟨_,H,d,h⟩) hf)
noncomputable def b7:Z3:=λvs σ H Q=>vs=[]/\Q σ H
noncomputable def B6 (t:TG)(u:Z3):Z3:=λvs σ H Q=>∃v r,vs=v::r/\t v σ H λa h=>u r a h Q
def GS:K3 X [] b7:=by
 intro pins s σ H vs us Q I r h;obtain⟨e,h⟩:=h;subst e;cases r;exact assignInOrder_nil ⟨σ,H,I,h⟩
def Qm {E:bE}{t:TG}{u:Z3}(f:PG X e t)(d:K3 X E u)
  (c:(assignEach (e::E) X.env).map (·.2)=assign e X.env::(assignEach E X.env).map (·.2):=by rfl):K3 X (e::E) (B6 t u):=by
 intro pins s σ H vs us Q I r h;obtain⟨v,j,g,h⟩:=h;subst g;cases r with
 |cons r b=>
  rw[c];refine assignInOrder_cons (zM (f pins s σ H _ _ _ I r h) λ_ s1 ⟨a,H1,i,q⟩=>?_);exact d pins s1 a H1 _ _ Q i b q
noncomputable def je (K:Frag)(n:Nat)(t:Z3):TG:=λv σ H Q=>∃a xs,v=.ref a/\qm K H a xs/\xs.length=n/\t xs σ H Q
def G4 {E:bE}{k:Nat}{t:Z3}(g:X.calm=true)(h:K3 X E t)
  (hn:(assignEach E X.env).length=n:=by rfl)(c:(assignEach E X.env).findIdx? (·.1)=none:=by rfl):PG X (.Tuple E k pos) (je X.K n t):=by
 intro pins s σ H v u Q I r hw;obtain⟨a,xs,j,q,hl,hw⟩:=hw;subst j;cases r;obtain⟨i,d,f,z⟩:=I.tuple q;refine assign_Tuple_tuple (I.ok.hd g) f (by simp[hn,<- hl,d.length]) c λh' x=>?_
 have l:Inv X pins σ H { s with heap:=h' }:=I.kept (t':=s.toks) λb o e=>x b o (aO (aF e)) e
 exact h pins _ σ H xs _ Q l (by simpa using d) hw
noncomputable def yM (to ti:TE)(t:ZW):TG:=λv σ H Q=>to σ H λo H1=>ti σ H1 λi a=>t o i v a λh=>Q σ h
def Bg {o i:Expr}{to ti:TE}{t:ZW}(ho:PE X o to)(f:PE X i ti)(e:Kz X t)
  (g:∀v,assign (.Subscript o i pos) X.env v=(do
   let ov <- holding [v] (eval o X.env)
   let iv <- holding [v,ov] (eval i X.env)
   standAt pos
   holding [v,ov,iv] (setItem ov iv v)
   release [v,ov,iv] []):=by intro _;rfl):PG X (.Subscript o i pos) (yM to ti t):=by
 intro pins s σ H v u Q I r h;rw[g];refine bM (wpAny_holding (zM (ho pins s σ H _ I h) λov s1 ⟨x,H1,m,b,d⟩=>?_));refine bM (wpAny_holding (zM (f pins s1 σ H1 _ m d) λiv s2 ⟨y,p,l,a,c⟩=>?_));refine bM (wpAny_standAt (bM (wpAny_holding (zM (e pins s2 σ p x y v ov iv u _ l b a r c) λ_ s3 ⟨n,j,q⟩=>?_))));exact wpAny_release ⟨σ,n,j,q⟩
noncomputable def Kx (t:TE)(g:TG):TS:=λD σ H=>t σ H λx H1=>g x σ H1 D.nx
def Pa {t:TE}{g:TG}(he:PE X e t)(b:PG X tg g)(a:swapsWithSole [tg] e pos.line X.env=pure false:=by rfl)(hw:swappedStores [tg] e X.env=pure none:=by rfl)
  (c:(assignEach [tg] X.env).map (·.2)=[assign tg X.env]:=by rfl):PS X (.Assign [tg] e pos) (Kx t g):=by
 intro pins s σ H D I h;refine wpAny_Assign_stores (zM (he pins s σ H _ I h) λv s1 ⟨x,H1,i,r,Q⟩=>?_) a hw;rw[c];exact zM (b pins s1 σ H1 x v _ i r Q) λ_ s2 q=>q
def Bv {t:TE}{pos':Pos}(d:X.N.Nodup)(c:X.N[i]? =some x)(a:Loc X.env.scope x)(he:PE X e t)(b:swapsWith e (some (.Name x pos')) pos.line X.env=pure false:=by rfl)(hf:X.fn x=true∨X.env.scope.names.lookup x=some .local:=by first|exact .inl rfl|exact .inr rfl|assumption):
  PS X (.Assign [.Name x pos'] e pos) (Kx t (Kq i)):=by
 intro pins s σ H D I h;refine wpAny_Assign_Name (zM (he pins s σ H _ I h) λv s1 ⟨y,H1,g,r,q⟩=>?_) b;exact Jw g d c a r (λs2 f=>⟨_,H1,f,q⟩) hf
noncomputable def b8 (i j:Nat)(t:TA):TS:=λD σ H=>t σ H λvs H1=>∃v w,vs=[v,w]/\D.nx ((σ.set i (some v)).set j (some w)) H1
def DU {j:Nat}{y:Str}{a b:Expr}{t:TA}{P py pt:Pos}{kt k2 pt2}(L:X.calm=true)(l:X.N.Nodup)(K:X.N[i]? =some x)(J:X.N[j]? =some y)(d:i≠j)
  (g:X.env.scope.names.lookup x=some .local)(f:X.env.scope.names.lookup y=some .local)(M:PA X [a,b] t)
  (hw:swappedStores [.Tuple [.Name x P,.Name y py] kt pt] (.Tuple [a,b] k2 pt2) X.env=pure (some [x,y]))
  (E:swapsWithSole [.Tuple [.Name x P,.Name y py] kt pt] (.Tuple [a,b] k2 pt2) pos.line X.env=pure false:=by rfl):
  PS X (.Assign [.Tuple [.Name x P,.Name y py] kt pt] (.Tuple [a,b] k2 pt2) pos) (b8 i j t):=by
 intro pins s σ H D I h;rw[exec_Assign_arm];refine bM (wpAny_standAt ?_);rw[E];refine bM (bN ?_);rw[ao (by decide)]
 refine bM (Tuple_ (zM (M _ pins s σ H _ I h) λus s1 ⟨vs,H1,I1,z,Q⟩=>?_));obtain⟨v,w,S,Q⟩:=Q;subst S;obtain⟨U,u,rfl,n,r⟩:∃U u,us=[U,u]/\RelV v U/\RelV w u:=by
  cases z with
  |cons p q=>
   cases q with
   |cons C B=>
    cases B;exact⟨_,_,rfl,p,C⟩
 refine wpAny_newObj_type ?_ (by show 2<=sizeLine;decide)
 have Z:Inv X pins σ H1 { s1 with heap:=s1.heap.push { cls:=.type "tuple",data:=.seq [U,u].toArray } }:=I1.kept (t':=s1.toks) λb o e=>ae _ e
 rw[hw];refine bM (bN ?_);show wpAny (model X.prog X.w) X.A (do rule "assign.swapped-stores";let items <- unpackItems (.ref s1.heap.objs.size) 2 none;assignInOrder [λv=>bindName X.env y v,λv=>bindName X.env x v] items.reverse;pure Flow.next) _ _ _
 refine bM (wpAny_rule (bM (unpackItems_tuple (items:=#[U,u]) (I.ok.hd L) (IsTup.new s1.heap _) λh' c=>?_)));have Y:=Z.kept (h':=h') (t':=s1.toks) λb o e=>c b o (aO (aF e)) e;show wpAny _ _ (assignInOrder [λv=>bindName X.env y v,λv=>bindName X.env x v] [u,U] >>= λ_=>pure Flow.next) _ _ _;refine bM (assignInOrder_cons (wpAny_bindName (Jw Y l J (.inl f) r (λs2 T=>?_) (.inr f))));refine assignInOrder_cons (wpAny_bindName (Jw T l K (.inl g) n (λs3 m=>assignInOrder_nil (bN ?_)) (.inr g)));rw[List.set_comm _ _ (Ne.symm d)]at m;exact⟨_,H1,m,Q⟩
noncomputable def b9 (i:Nat)(t:TE)(ti:QW):TS:=λD σ H=>∃x,σ[i]? =some (some x)/\t σ H λy H1=>ti x y H1 λz h=>D.nx (σ.set i (some z)) h
def D5 {t:TE}{op:Operator}{ti:QW}{pos':Pos}(B:X.N.Nodup)(j:X.N[i]? =some x)(g:Loc X.env.scope x)(he:PE X e t)(ho:Ve X op ti)(hf:X.fn x=true∨X.env.scope.names.lookup x=some .local:=by first|exact .inl rfl|exact .inr rfl|assumption):
  PS X (.AugAssign (.Name x pos') op e pos) (b9 i t ti):=by
 intro pins s σ H D I h;obtain⟨v,E,h⟩:=h;obtain⟨m,hn,hl⟩:=I.loc;have f:Yc X.env.scope x:=by rcases g with k|k;exact .inl k;exact .inr (.inl k)
 obtain⟨u,r,l⟩:=hl i x v j E f;refine wpAny_AugAssign_Name ?_;have go:wpAny (model X.prog X.w) X.A (eval e X.env) (λw d=>wpAny (model X.prog X.w) X.A (inplaceOp op u w) (λr S=>wpAny (model X.prog X.w) X.A (storeName X.env x r) (λ_=>SP X pins D .next) X.xe S) X.xe d) X.xe s:=by
  refine zM (he pins s σ H _ I h) λw s1 ⟨y,H1,K,o,Q⟩=>?_;refine zM (ho pins s1 σ H1 v y u w _ K r o Q) λz s2 ⟨Z,L,J,n,q⟩=>?_;exact Jw J B j g n (λs3 C=>⟨_,L,C,q⟩) hf
 rcases l with ⟨a,hm⟩|⟨a,c,p,b⟩
 ·exact wpAny_loadName_local I.ok.kind a hn hm go
 ·rcases a with a|a
  ·exact wpAny_loadName_cell I.ok.kind a p b go
  ·rcases g with k|k
   ·have:X.env.scope.names.lookup x=some .free:=a
    rw[k]at this;cases this
   ·have:X.env.scope.names.lookup x=some .free:=a
    rw[k]at this;cases this
noncomputable def BM (to ti e:TE)(T:V->V->Hp->VK->Prop)(p:QW)(t:ZW):TS:=λD σ H=>to σ H λo H1=>ti σ H1 λi d=>T o i d λx c=>e σ c λy b=>p x y b λz a=>t o i z a λh=>D.nx σ h
def Oc (X:Cx)(t:V->V->Hp->VK->Prop):Prop:=
 ∀(pins:bz)(s:Shared)(σ:St)(H:Hp)(o i:V)(ov I:Value)(Q:VK),Inv X pins σ H s->RelV o ov->RelV i I->t o i H Q->
  wpAny (model X.prog X.w) X.A (getItem ov I) (EP X pins σ Q) X.xe s
def Ec {o i:Expr}{to ti b:TE}{T:V->V->Hp->VK->Prop}{p:QW}{t:ZW}{op:Operator}(ho:PE X o to)(x:PE X i ti)(y:Oc X T)(he:PE X e b)(w:Ve X op p)(u:Kz X t)
  (z:∀ov a new,augStore i ov a new=(do holding [new,ov,a] (setItem ov a new);release [new,ov,a] [];pure .next):=by intros;rfl):PS X (.AugAssign (.Subscript o i tpos) op e pos) (BM to ti b T p t):=by
 intro pins s σ H D I h;refine wpAny_AugAssign_SubscriptAny (zM (ho pins s σ H _ I h) λov s1 ⟨x1,H1,K,c,n⟩=>?_) z;refine zM (x pins s1 σ H1 _ K n) λa s2 ⟨x2,S,J,r,m⟩=>?_;refine zM (y pins s2 σ S x1 x2 ov a _ J c r m) λold s3 ⟨x3,P,E,g,l⟩=>?_;refine zM (he pins s3 σ P _ E l) λv s4 ⟨x4,N,C,f,j⟩=>?_;refine zM (w pins s4 σ N x3 x4 old v _ C g f j) λnew s5 ⟨x5,M,B,d,Q⟩=>?_;exact zM (u pins s5 σ M x1 x2 x5 ov a new _ B c r d Q) λ_ U ⟨L,A,q⟩=>⟨σ,L,A,q⟩
noncomputable def cb (f:Int->Int->Int):QW:=λx y H Q=>∃i j,x=.int i/\y=.int j/\Q (.int (f i j)) H
def RK:Ve X .Add (cb λi j=>i+j):=by
 intro pins s σ H x y v u Q I a r h;obtain⟨i,j,E,e,q⟩:=h;subst E;subst e;obtain⟨t,rfl⟩:=a;obtain⟨t',rfl⟩:=r;exact iadd_int ⟨.int _,H,I.tok _,⟨_,rfl⟩,q⟩
def C9 (c:TT)(t:TS):TS:=λD σ H=>∃W:Nat->St->Hp->Prop,(∃m,W m σ H)/\∀m σ H,W m σ H->
 c σ H λb H1=>if b=true then ∃N:St->Hp->Prop,(∀a h,N a h->∃M,M<m/\W M a h)/\t { D with nx:=N,ct:=N,bk:=D.nx } σ H1 else D.nx σ H1
def FX {c:Expr}{t:TT}{T:TS}(p:PassesOwn (model X.prog X.w) X.A X.env X.xe)(z:PT X c t)(B:yD X body T):PS X (.While c body [] pos) (C9 t T):=by
 intro pins s σ H D I h;obtain⟨W,⟨m0,y⟩,turn⟩:=h;refine wpAny_While (codeAny_whileLoop (λn S=>∃e u,Inv X pins e u S/\W n e u) ?_ m0 ⟨σ,H,I,y⟩)
 rintro n s1 ⟨d,H1,C,x⟩
 refine wpAny_passesOwn p (zM (z pins s1 d H1 _ C (turn n d H1 x)) λb s2 ⟨r,o,Q⟩=>?_);cases b with
 |true=>
  obtain⟨N,l,Q⟩:=Q;rw[aj rfl];refine wpAny_passesOwn p (zM (B pins s2 d r _ o Q) λf s3 q=>?_);cases f with
  |next=>
   obtain⟨a,g,j,n3⟩:=q;obtain⟨m,hm,i⟩:=l a g n3;exact⟨m,hm,a,g,j,i⟩
  |cont=>
   obtain⟨a,g,j,n3⟩:=q;obtain⟨m,hm,i⟩:=l a g n3;exact⟨m,hm,a,g,j,i⟩
  |brk=>exact q|ret v=>exact q
 |false=>
  rw[ao au];exact wpAny_execs_nil ⟨d,r,o,Q⟩
end
structure It where
 go:Nat->Hp->Prop
 yld:Nat->Hp->V->Hp->Prop
 stop:Nat->Hp->Prop
def yR (X:Cx)(pins:bz)(H:Hp)(b:Addr):Prop:=
 H b=none/\b≠X.env.locals/\b∉X.fs/\(b∈X.ex∨X.s0.heap.objs.size<=b)/\(∀x c,X.env.cells.lookup x=some c->c≠b)/\∀p∈X.pn++pins,p.1≠b
def Inv.fpOk {X:Cx}{σ:St}{H a:Hp}(I:Inv X pins σ H s)(h:s.heap.objs.size<=b)(hn:a b=none):yR X pins a b:=by
 refine⟨hn,ne_of_gt (aD I.lt h),I.nofs h,.inr (a3 I.sz h),λx c e z=>?_,λp d z=>?_⟩
 ·obtain⟨v,q⟩:=I.cell x c e
  exact absurd (aD q.lt (by rw[z];exact h)) (aT _)
 ·exact absurd (aD (aF (I.pin p d).1) (by rw[z];exact h)) (aT _)
structure Turn (P:Program)(w:World)(K:Frag)(tg:Expr)(J:It)(fp:bx)(it:Addr)(tn:Nat->Heap->Prop):Prop where
 mem:it∈fp
 obj:∀i h,tn i h->∀b∈fp,∃o,h.get? b=some o/\∀v,o.data≠.cell v
 keep:∀i h h',tn i h->(∀b∈fp,∀o,h.get? b=some o->h'.get? b=some o)->tn i h'
 item:∀(X:Cx),X.prog=P->X.w=w->X.K=K->X.calm=true->∀(i:Nat)(pins:bz)(s:Shared)(σ:St)(H:Hp)(E:bD),Inv X pins σ H s->(∀b∈fp,yR X pins H b)->tn i s.heap->J.go i H->
  wpAny (model P w) X.A (pyNext (.ref it)) (λr s1=>∃u,r=some u/\
   wpAny (model P w) X.A (letOwnedTupleGo tg (.ref it) u) (λ_ s2=>∃x H',Inv X pins σ H' s2/\RelV x u/\J.yld i H x H'/\tn (i+1) s2.heap/\∀b∈fp,H' b=none) E s1) E s
 done:∀(X:Cx),X.prog=P->X.w=w->X.K=K->X.calm=true->∀(i:Nat)(pins:bz)(s:Shared)(σ:St)(H:Hp)(E:bD),Inv X pins σ H s->(∀b∈fp,yR X pins H b)->tn i s.heap->J.stop i H->
  wpAny (model P w) X.A (pyNext (.ref it)) (λr s1=>r=none/\Inv X pins σ H s1) E s
 self:∀(A:Around)(i:Nat)(s:Shared)(Q:bD)(E:bD),tn i s.heap->Q (.ref it) s->wpAny (model P w) A (pyIter (.ref it)) Q E s
abbrev TI:=St->Hp->(It->Hp->Prop)->Prop
inductive Oo (X:Cx)(pins:bz)(σ:St)(tg:Expr)(R:It->Hp->Prop)(itv:Value)(s2:Shared):Prop
 |mk (it:Addr) (fp:bx) (tn:Nat->Heap->Prop) (J:It) (H':Hp) (e:itv=.ref it) (I:Inv X pins σ H' s2) (T:Turn X.prog X.w X.K tg J fp it tn) (t0:tn 0 s2.heap) (f:(∀b∈fp,yR X pins H' b)) (q:R J H')
def PI (X:Cx)(t iter:Expr)(i:TI):Prop:=
 ∀(pins:bz)(s:Shared)(σ:St)(H:Hp)(R:It->Hp->Prop),Inv X pins σ H s->i σ H R->
  wpAny (model X.prog X.w) X.A (eval iter X.env) (λv s1=>wpAny (model X.prog X.w) X.A (pyIter v) (Oo X pins σ t R) X.xe s1) X.xe s
def Kn {M:Model}{A:Around}{it:Addr}{o:Obj}{n:String}{vs:Array Value}{Q:Unit->Shared->Prop}(ho:s.heap.get? it=some o)(c:o.cls=.type n)(hd:o.data=.fields vs)
  (hn:["enumerate","zip","dict_itemiterator","dict_reverseitemiterator","odict_iterator","itertools.zip_longest","itertools.pairwise"].contains n=false)(H:Q () s):wpAny M A (letOwnedTupleGo tg (.ref it) u) Q E s:=by
 unfold letOwnedTupleGo;cases tg<;>first
  |exact bN H
  |(cases u<;>first
    |exact bN H
    |(
      refine bM (wpAny_load ho ?_);rw[c,hd];show wpAny M A (if (["enumerate","zip","dict_itemiterator","dict_reverseitemiterator","odict_iterator","itertools.zip_longest","itertools.pairwise"].contains n&&vs[0]?==some (rawInt _))=true then _ else _) Q E s;rw[ao (by intro h;rw[hn,Bool.false_and]at h;cases h)]
      exact bN H))
noncomputable def Ot (K:Frag)(a:Addr):It:=
 ⟨λi H=>∃xs x,qF K H a xs/\xs[i]? =some x,λi H x h=>h=H/\∀xs,qF K H a xs->xs[i]? =some x,λi H=>∃xs,qF K H a xs/\xs.length<=i⟩
noncomputable def OK (K:Frag)(a:Addr):It:=
 ⟨λi H=>∃xs x,qm K H a xs/\xs[i]? =some x,λi H x h=>h=H/\∀xs,qm K H a xs->xs[i]? =some x,λi H=>∃xs,qm K H a xs/\xs.length<=i⟩
noncomputable def Yg (lo:Int)(n:Nat):It:=⟨λi _=>i<n,λi H x h=>h=H/\x=.int (lo+i),λi _=>n<=i⟩
def Hr {K:Frag}(a it:Addr):Turn P w K tg (Ot K a) [it] it (λi h=>h.IsListIter it a i) where
 mem:=by simp
 obj:=λi h st b f=>by
  have e:b=it:=by simpa using f
  subst e;obtain⟨o,e,c,d⟩:=st;exact⟨o,e,λv z=>by rw[d]at z;cases z⟩
 keep:=λi h h' st k=>st.at λo e=>k it (by simp) o e
 item:=by
  intro X m hw n A i pins s σ H E I hf st l;subst m hw n;obtain⟨xs,x,q,j⟩:=l;obtain⟨g,r,p,D⟩:=I.list q;obtain⟨u,L,C⟩:=r.get j;obtain⟨f0,f1,f2,y,f4,t⟩:=hf it (by simp)
  refine wpAny_pyNext_list_item st p.isList (x:=u) (by simpa using L) λh' S B=>?_
  have N:Inv X pins σ H { s with heap:=h' }:=I.turned (t':=s.toks) (λb o f e=>(B.2 b f).trans e) f0 f1 y f4 t
  obtain⟨o,e,c,d⟩:=id S;exact⟨u,rfl,Kn (s:={ s with heap:=h' }) e c d (by decide) ⟨x,H,N,C,⟨rfl,λY J=>by rw[I.list_inj J q];exact j⟩,S,λb f=>(hf b f).1⟩⟩
 done:=by
  intro X m hw n A i pins s σ H E I hf st l;subst m hw n;obtain⟨xs,q,j⟩:=l;obtain⟨g,r,p,D⟩:=I.list q;obtain⟨f0,f1,f2,y,f4,t⟩:=hf it (by simp)
  have hl:=r.length;exact wpAny_pyNext_list_end (I.ok.hd A) st p.isList (by simp;omega) λh' M=>⟨rfl,I.turned (t':=s.toks) (λb o f e=>M b o f e) f0 f1 y f4 t⟩
 self:=λ_ _ _ _ _ st h=>wpAny_pyIter_listiter st h
def L1 {K:Frag}(a it:Addr):Turn P w K tg (OK K a) [it] it (λi h=>h.IsTupleIter it a i) where
 mem:=by simp
 obj:=λi h st b g=>by
  have e:b=it:=by simpa using g
  subst e;obtain⟨o,e,c,d⟩:=st;exact⟨o,e,λv z=>by rw[d]at z;cases z⟩
 keep:=λi h h' st k=>st.at λo e=>k it (by simp) o e
 item:=by
  intro X m hw n A i pins s σ H E I hf st l;subst m hw n;obtain⟨xs,x,q,j⟩:=l;obtain⟨f,r,p,D⟩:=I.tuple q;obtain⟨u,L,C⟩:=r.get j;obtain⟨f0,f1,f2,y,f4,t⟩:=hf it (by simp)
  refine wpAny_pyNext_tuple_item st (show s.heap.IsTuple a f.toArray from p) (x:=u) (by simpa using L) λh' S B=>?_
  have N:Inv X pins σ H { s with heap:=h' }:=I.turned (t':=s.toks) (λb o g e=>(B.2 b g).trans e) f0 f1 y f4 t
  obtain⟨o,e,c,d⟩:=id S;exact⟨u,rfl,Kn (s:={ s with heap:=h' }) e c d (by decide) ⟨x,H,N,C,⟨rfl,λY J=>by rw[I.tuple_inj J q];exact j⟩,S,λb g=>(hf b g).1⟩⟩
 done:=by
  intro X m hw n A i pins s σ H E I hf st l;subst m hw n;obtain⟨xs,q,j⟩:=l;obtain⟨f,r,p,D⟩:=I.tuple q;obtain⟨f0,f1,f2,y,f4,t⟩:=hf it (by simp)
  have hl:=r.length;exact wpAny_pyNext_tuple_end (I.ok.hd A) st (show s.heap.IsTuple a f.toArray from p) (by simp;omega) λh' M=>⟨rfl,I.turned (t':=s.toks) (λb o g e=>M b o g e) f0 f1 y f4 t⟩
 self:=λ_ _ _ _ _ st h=>wpAny_pyIter_tupleiter st h
def LY {K:Frag}(it:Addr)(lo:Int)(n:Nat):Turn P w K tg (Yg lo n) [it] it (λi h=>IsRangeIter h it (lo+(i:Nat) * 1) ((n:Int)-(i:Nat)) 1) where
 mem:=by simp
 obj:=λi h st b a=>by
  have e:b=it:=by simpa using a
  subst e;exact⟨_,st,λv z=>by
   have Z:Data.fields _=Data.cell v:=z;cases Z⟩
 keep:=λi h h' st k=>k it (by simp) _ st
 item:=by
  intro X d hw f c i pins s σ H E I hf st g;subst d hw f;obtain⟨f0,f1,f2,l,f4,j⟩:=hf it (by simp)
  have W:=Walks.range (prog:=X.prog) (w:=X.w) (I.ok.hd c) it lo 1 n;refine W.item i s _ _ g st λv h' T p S m=>?_;obtain⟨t,rfl⟩:=p;have r:Inv X pins σ H { s with heap:=h',toks:=T }:=I.turned (λb o a e=>m b o (by simpa using a) e) f0 f1 l f4 j
  refine⟨_,rfl,Kn (s:={ s with heap:=h',toks:=T }) (n := "range_iterator") S rfl rfl (by decide) ⟨.int (lo+i),H,r,⟨t,?_⟩,⟨rfl,rfl⟩,S,λb a=>(hf b a).1⟩⟩
  rw[Int.mul_one]
 done:=by
  intro X d hw f c i pins s σ H E I hf st g;subst d hw f;obtain⟨f0,f1,f2,l,f4,j⟩:=hf it (by simp)
  exact wpAny_pyNext_range_end (I.ok.hd c) st (by have:n<=i:=g;omega) λh' q=>⟨rfl,I.turned (t':=s.toks) (λb o a e=>q b o a e) f0 f1 l f4 j⟩
 self:=λ_ _ _ _ _ st h=>wpAny_pyIter_rangeiter st h
section
variable {X:Cx}
def Sv {σ:St}{H:Hp}{R:It->Hp->Prop}{lo h:Int}{t u v:Tok}{T:Nat}(I:Inv X pins σ H s)(g:-(2 ^ 62)<=lo)(f:lo<2 ^ 62)(d:-(2 ^ 62)<=h)(c:h<2 ^ 62)
  (q:R (Yg lo (h-lo).toNat) H):wpAny (model X.prog X.w) X.A (pyIter (.ref s.heap.objs.size)) (Oo X pins σ tg R) E { s with heap:=s.heap.push { cls:=.type "range",data:=.fields #[.int lo t,.int h u,.int 1 v] },toks:=T }:=by
 refine wpAny_pyIter_range (IsRange.new ..) (small_one g f d c) ?_;have i:Inv X pins σ H { s with heap:=s.heap.push { cls:=.type "range",data:=.fields #[.int lo t,.int h u,.int 1 v] },toks:=T }:=I.kept λb o e=>ae _ e
 refine⟨(s.heap.push { cls:=.type "range",data:=.fields #[.int lo t,.int h u,.int 1 v] }).objs.size,[(s.heap.push { cls:=.type "range",data:=.fields #[.int lo t,.int h u,.int 1 v] }).objs.size],_,_,H,rfl,
  i.kept (t':=T) λb o e=>ae _ e,LY _ lo (h-lo).toNat,?_,λb a=>?_,q⟩
 ·have l:lo+((0:Nat):Int) * 1=lo:=by simp
  have j:(((h-lo).toNat:Nat):Int)-((0:Nat):Int)=Builtin.Range.rangeSize lo h 1:=by rw[rangeSize_one];split<;>omega
  show IsRangeIter _ _ (lo+((0:Nat):Int) * 1) ((((h-lo).toNat:Nat):Int)-((0:Nat):Int)) 1;rw[l,j];exact av _ rfl
 ·have e:b=(s.heap.push { cls:=.type "range",data:=.fields #[.int lo t,.int h u,.int 1 v] }).objs.size:=by simpa using a
  subst e;exact i.fpOk (ak _) (i.hok.fresh (ak _))
def BG (t:TA):TI:=λσ H R=>t σ H λvs H1=>∃j:Int,vs=[.int j]/\-(2 ^ 62)<=j/\j<2 ^ 62/\R (Yg 0 j.toNat) H1
def Aa (t:TA):TI:=λσ H R=>t σ H λvs H1=>∃i j:Int,vs=[.int i,.int j]/\(-(2 ^ 62)<=i/\i<2 ^ 62/\-(2 ^ 62)<=j/\j<2 ^ 62)/\R (Yg i (j-i).toNat) H1
def Ht {a:Expr}{T:TA}(g:Gl X "range")(hm:X.mg "range"=none)(i:PA X [a] T)(f:starEach [a] X.env=[(false,eval a X.env)]:=by rfl):PI X tg (.Call (.Name "range" p) [a] [] pos) (BG T):=by
 intro pins s σ H R I h;refine Call_ (gy I g hm boot_range (PyProof.Rows.callWith_type1 (zM (i pos pins s σ H _ I h) λus s1 ⟨vs,H1,l,c,Q⟩=>?_) f rfl));obtain⟨j,e,Q,d,q⟩:=Q;subst e;cases c with
 |cons r b=>
  cases b;obtain⟨t,rfl⟩:=r;exact call_range_1 (Sv l (by omega) (by omega) Q d (by simpa using q))
def Ha {a b:Expr}{T:TA}(u:Gl X "range")(hm:X.mg "range"=none)(v:PA X [a,b] T)(o:starEach [a,b] X.env=[(false,eval a X.env),(false,eval b X.env)]:=by rfl)(c:starEach [b] X.env=[(false,eval b X.env)]:=by rfl):
  PI X tg (.Call (.Name "range" p) [a,b] [] pos) (Aa T):=by
 intro pins s σ H R I h;refine Call_ (gy I u hm boot_range (PyProof.Rows.callWith_type1 (zM (v pos pins s σ H _ I h) λus s1 ⟨vs,H1,w,f,Q⟩=>?_) (by rw[o,c]) (by rw[c];rfl)))
 obtain⟨i,j,e,⟨Q,n,m,l⟩,q⟩:=Q;subst e;cases f with
 |cons r d=>
  cases d with
  |cons g d=>
   cases d;obtain⟨t,rfl⟩:=r;obtain⟨t',rfl⟩:=g;exact call_range_2 (Sv w Q n m l q)
def cc (w:TI)(g:TG)(t:TS):TS:=λD σ H=>w σ H λJ H1=>∃W:Nat->Nat->St->Hp->Prop,(∃m,W 0 m σ H1)/\∀i m σ H,W i m σ H->
 (J.stop i H/\D.nx σ H)∨(J.go i H/\∃N:St->Hp->Prop,(∀a h,N a h->∃M,M<m/\W (i+1) M a h)/\∀x h,J.yld i H x h->g x σ h λb c=>t { D with nx:=N,ct:=N,bk:=D.nx } b c)
noncomputable def JQ (fp:bx)(h:Heap):bz:=fp.filterMap λb=>(h.get? b).map λo=>(b,o)
def YG {o:Obj}(H:b∈fp)(e:h.get? b=some o):(b,o)∈JQ fp h:=List.mem_filterMap.mpr ⟨b,H,by rw[e];rfl⟩
def IF {p:Addr×Obj}(H:p∈JQ fp h):p.1∈fp/\h.get? p.1=some p.2:=by
 obtain⟨b,a,e⟩:=List.mem_filterMap.mp H;cases q:h.get? b with
 |none=>rw[q]at e;cases e|some o=>
  rw[q]at e;have E:(b,o)=p:=ax e;subst E;exact⟨a,q⟩
def Inv.pinned {σ:St}{H:Hp}(I:Inv X pins σ H s)(hf:∀b∈fp,yR X pins H b)(ho:∀b∈fp,∃o,s.heap.get? b=some o/\∀v,o.data≠.cell v):Inv X (pins++JQ fp s.heap) σ H s:=
 I.pins_of λp a=>(List.mem_append.mp a).elim (λz=>I.pin p (aL _ z)) λz=>by
  obtain⟨h,e⟩:=IF z;obtain⟨f0,f1,f2,_⟩:=hf p.1 h;obtain⟨o,E,d⟩:=ho p.1 h;rw[e]at E;cases E;exact⟨e,f0,f1,f2,d⟩
def Inv.unpinned {P:bz}{σ:St}{H:Hp}(I:Inv X (pins++P) σ H s):Inv X pins σ H s:=I.pins_of λp h=>I.pin p (aL _ (aY _ h))
def CQ {iter:Expr}{U:TI}{g:TG}{Z:TS}(z:PassesOwn (model X.prog X.w) X.A X.env X.xe)(hc:X.calm=true)(hi:PI X tg iter U)(hg:PG X tg g)(l:yD X body Z)
  (hs:∀x,foldedSetIterable iter X.env x=pure x:=by intro _;rfl):PS X (.For tg iter body [] pos) (cc U g Z):=by
 intro pins s σ H D I h;refine wpAny_For (zM (hi pins s σ H _ I h) λv s1 h1=>zM h1 λitv s2 h2=>?_) hs;obtain⟨it,fp,Y,J,H2,e,I2,T,k4,f2,W,⟨m0,w0⟩,turn⟩:=h2;subst e;have S:∀{H':Hp},(∀b∈fp,H' b=none)->∀b∈fp,yR X pins H' b:=λhn b l=>⟨hn b l,(f2 b l).2⟩;refine codeAny_forLoop_any (λn s'=>∃i j H',Inv X pins j H' s'/\Y i s'.heap/\(∀b∈fp,H' b=none)/\W i n j H') ?_ m0 ⟨0,σ,H2,I2,k4,λb l=>(f2 b l).1,w0⟩
 rintro n s3 ⟨i,c,C,I3,wI,B,w3⟩
 rcases turn i n c C w3 with ⟨stop,qn⟩|⟨go,N,hN,step⟩
 ·refine wpAny_passesOwn z (zM (T.done X rfl rfl rfl hc i pins s3 c C X.xe I3 (S B) wI stop) λr s4 ⟨L,I4⟩=>?_)
  subst L;exact wpAny_execs_nil ⟨c,C,I4,qn⟩
 ·refine wpAny_passesOwn z (zM (T.item X rfl rfl rfl hc i pins s3 c C X.xe I3 (S B) wI go) λr s4 ⟨u,L,h4⟩=>?_)
  subst L;refine wpAny_passesOwn z (zM h4 λ_ s5 ⟨x,H5,I5,r5,y5,t,M⟩=>?_);have P:=I5.pinned (S M) (T.obj _ _ t);refine wpAny_passesOwn z (zM (hg _ s5 c H5 x u _ P r5 (step x H5 y5)) λ_ s6 ⟨E,H6,I6,q6⟩=>?_);refine wpAny_passesOwn z (zM (l _ s6 E H6 _ I6 q6) λf K Q=>?_);have again:∀{a:St}{q:Hp},Inv X (pins++JQ fp s5.heap) a q K->N a q->∃m,m<n/\∃i j H',Inv X pins j H' K/\Y i K.heap/\(∀b∈fp,H' b=none)/\W i m j H':=λ {a q} p y=>by
   obtain⟨m',hm,w7⟩:=hN a q y;refine⟨m',hm,i+1,a,q,p.unpinned,T.keep _ _ _ t λb l o e=>(p.pin (b,o) (aL _ (aL _ (YG l e)))).1,λb l=>?_,w7⟩;obtain⟨o,e,d⟩:=T.obj _ _ t b l;exact(p.pin (b,o) (aL _ (aL _ (YG l e)))).2.1
  cases f with
  |next=>obtain⟨a,q,p,y⟩:=Q;exact again p y|cont=>obtain⟨a,q,p,y⟩:=Q;exact again p y|brk=>obtain⟨a,q,p,Q⟩:=Q;exact⟨a,q,p.unpinned,Q⟩|ret v=>obtain⟨x7,a,q,p,r7,Q⟩:=Q;exact⟨x7,a,q,p.unpinned,r7,Q⟩
end
abbrev R2:=V->V->Hp->VK->Prop
def qB (X:Cx)(f:Value->Value->Sem Value)(r:R2):Prop:=
 ∀(pins:bz)(s:Shared)(σ:St)(H:Hp)(x y:V)(v u:Value)(Q:VK),Inv X pins σ H s->RelV x v->RelV y u->r x y H Q->
  wpAny (model X.prog X.w) X.A (f v u) (EP X pins σ Q) X.xe s
def K4 (X:Cx)(f:Value->Sem Value)(r:V->Hp->VK->Prop):Prop:=
 ∀(pins:bz)(s:Shared)(σ:St)(H:Hp)(x:V)(v:Value)(Q:VK),Inv X pins σ H s->RelV x v->r x H Q->
  wpAny (model X.prog X.w) X.A (f v) (EP X pins σ Q) X.xe s
def j9 (X:Cx)(f:Value)(r:List V->Hp->VK->Prop):Prop:=
 ∀(pins:bz)(s:Shared)(σ:St)(H:Hp)(xs:List V)(us:bw)(Q:VK),Inv X pins σ H s->Vals xs us->r xs H Q->
  wpAny (model X.prog X.w) X.A (call f us) (EP X pins σ Q) X.xe s
def AY (X:Cx)(r:V->Hp->(Bool->Hp->Prop)->Prop):Prop:=
 ∀(pins:bz)(s:Shared)(σ:St)(H:Hp)(x:V)(v:Value)(Q:Bool->Hp->Prop),Inv X pins σ H s->RelV x v->r x H Q->
  wpAny (model X.prog X.w) X.A (truthy v) (TP X pins σ Q) X.xe s
noncomputable def Yd (r:R2)(T t:TE):TE:=λσ H Q=>T σ H λx H1=>t σ H1 λy h=>r x y h Q
noncomputable def Oi (r:V->Hp->VK->Prop)(t:TE):TE:=λσ H Q=>t σ H λx H1=>r x H1 Q
noncomputable def rI (C:Int->Int->Prop)(g:Int->Int->V):R2:=λx y H Q=>∃i j,x=.int i/\y=.int j/\C i j/\Q (g i j) H
noncomputable def kZ (g:Int->Int->V):R2:=λx y H Q=>∃i j,x=.int i/\y=.int j/\Q (g i j) H
noncomputable def rU (g:Int->V):V->Hp->VK->Prop:=λx H Q=>∃i,x=.int i/\Q (g i) H
section
variable {X:Cx}{a b:Expr}{ta tb:TE}
def XT (j:PE X a ta)(i:PE X b tb){σ:St}{H:Hp}{R:V->V->Hp->Prop}(I:Inv X pins σ H s)
  (h:ta σ H λx H1=>tb σ H1 λy c=>R x y c)
  (hf:∀v u s2 x y c,Inv X pins σ c s2->RelV x v->RelV y u->R x y c->wpAny (model X.prog X.w) X.A (f v u) Q X.xe s2):
  wpAny (model X.prog X.w) X.A (eval a X.env) (λv d=>wpAny (model X.prog X.w) X.A (eval b X.env) (λu S=>wpAny (model X.prog X.w) X.A (f v u) Q X.xe S) X.xe d) X.xe s:=by
 refine zM (j pins s σ H _ I h) λv s1 ⟨x,H1,m,e,g⟩=>?_;refine zM (i pins s1 σ H1 _ m g) λu s2 ⟨y,c,l,r,q⟩=>?_;exact hf v u s2 x y c l e r q
def BR {op:Operator}{r:R2}(ho:qB X (binaryOp op) r)(f:PE X a ta)(e:PE X b tb):PE X (.BinOp a op b pos) (Yd r ta tb):=by
 intro pins s σ H Q I h;exact wpAny_BinOp (XT f e I h λv u s2 x y g i d c q=>ho pins s2 σ g x y v u Q i d c q)
def Pq {op:UnaryOp}{r:V->Hp->VK->Prop}(ho:K4 X (unaryOp op) r)(c:PE X a ta):PE X (.UnaryOp op a pos) (Oi r ta):=by
 intro pins s σ H Q I h;exact UnaryOp_ (zM (c pins s σ H _ I h) λv s1 ⟨x,H1,i,b,q⟩=>ho pins s1 σ H1 x v Q i b q)
def QV {C:Int->Int->Prop}{g:Int->Int->Int}
  (rule:∀(i j:Int)(t u:Tok)(s:Shared)(Q:bD)(E:bD),C i j->Q (.int (g i j) s.toks) { s with toks:=s.toks+1 }->wpAny (model X.prog X.w) X.A (f (.int i t) (.int j u)) Q E s):
  qB X f (rI C λi j=>.int (g i j)):=by
 intro pins s σ H x y v u Q I a r h;obtain⟨i,j,rfl,rfl,c,q⟩:=h;obtain⟨t,rfl⟩:=a;obtain⟨t',rfl⟩:=r;exact rule i j t t' s _ _ c ⟨.int (g i j),H,I.tok _,⟨_,rfl⟩,q⟩
def KG {g:Int->Int->Int}
  (rule:∀(i j:Int)(t u:Tok)(s:Shared)(Q:bD)(E:bD),Q (.int (g i j) s.toks) { s with toks:=s.toks+1 }->wpAny (model X.prog X.w) X.A (f (.int i t) (.int j u)) Q E s):
  qB X f (kZ λi j=>.int (g i j)):=by
 intro pins s σ H x y v u Q I a r h;obtain⟨i,j,rfl,rfl,q⟩:=h;obtain⟨t,rfl⟩:=a;obtain⟨t',rfl⟩:=r;exact rule i j t t' s _ _ ⟨.int (g i j),H,I.tok _,⟨_,rfl⟩,q⟩
def KW {g:Int->Int->Bool}
  (rule:∀(i j:Int)(t u:Tok)(s:Shared)(Q:bD)(E:bD),Q (.bool (g i j)) s->wpAny (model X.prog X.w) X.A (f (.int i t) (.int j u)) Q E s):
  qB X f (kZ λi j=>.bl (g i j)):=by
 intro pins s σ H x y v u Q I a r h;obtain⟨i,j,rfl,rfl,q⟩:=h;obtain⟨t,rfl⟩:=a;obtain⟨t',rfl⟩:=r;exact rule i j t t' s _ _ ⟨.bl (g i j),H,I,rfl,q⟩
def XW (i j:Int):Prop:=0<=j/\j<=1000000/\i.natAbs<2 ^ 64
def J2 (i j:Int):Prop:=(-(2 ^ 64)<i/\i<2 ^ 64)∨(-(2 ^ 64)<j/\j<2 ^ 64)
def J2.ok {i j:Int}(h:J2 i j):IntMulOk i j:=by
 rcases h with ⟨a,H⟩|⟨a,H⟩
 ·exact .of_left (intBits_le_64 a H)
 ·exact .of_right (intBits_le_64 a H)
def two_pow_nn (k:Nat):(0:Int)<=2 ^ k:=by
 rw[two_pow_cast];exact Int.natCast_nonneg _
def Bx:qB X (binaryOp .Add) (kZ λi j=>.int (i+j)):=KG λ_ _ _ _ _ _ _ q=>add_int q
def CY:qB X (binaryOp .Sub) (kZ λi j=>.int (i-j)):=KG λ_ _ _ _ _ _ _ q=>sub_int q
def C6:qB X (binaryOp .Mult) (rI J2 λi j=>.int (i * j)):=QV λ_ _ _ _ _ _ _ h q=>mul_int q h.ok
def CO:qB X (binaryOp .Mod) (rI (λ_ j=>0<j) λi j=>.int (i%j)):=QV λi j _ _ _ _ _ h q=>by
 have H:(0:Int)<j:=h;exact mod_int' (by omega) (by rw[Int.fmod_eq_emod_of_nonneg i (by omega)];exact q)
def Cv:qB X (binaryOp .Pow) (rI XW λi j=>.int (i ^ j.toNat)):=QV λ_ _ _ _ _ _ _ h q=>pow_int_small h.1 h.2.1 h.2.2 q
def D9:qB X (binaryOp .LShift) (rI XW λi j=>.int (i * 2 ^ j.toNat)):=QV λ_ _ _ _ _ _ _ h q=>lshift_int_small h.1 h.2.1 h.2.2 q
def Bb:qB X (binaryOp .RShift) (rI (λ_ j=>0<=j) λi j=>.int (i/2 ^ j.toNat)):=QV λi j _ _ _ _ _ h q=>
 rshift_int h (by rw[Int.fdiv_eq_ediv_of_nonneg i (two_pow_nn _)];exact q)
def C0:qB X (binaryOp .BitAnd) (kZ λi j=>.int (Builtin.bitAnd i j)):=KG λ_ _ _ _ _ _ _ q=>and_int q
def Cd:qB X (binaryOp .BitXor) (kZ λi j=>.int (Builtin.bitXor i j)):=KG λ_ _ _ _ _ _ _ q=>xor_int q
def cf {f:Value->Sem Value}{g:Int->Int}
  (rule:∀(i:Int)(t:Tok)(s:Shared)(Q:bD)(E:bD),Q (.int (g i) s.toks) { s with toks:=s.toks+1 }->wpAny (model X.prog X.w) X.A (f (.int i t)) Q E s):
  K4 X f (rU λi=>.int (g i)):=by
 intro pins s σ H x v Q I r h;obtain⟨i,rfl,q⟩:=h;obtain⟨t,rfl⟩:=r;exact rule i t s _ _ ⟨.int (g i),H,I.tok _,⟨_,rfl⟩,q⟩
def RZ:K4 X (unaryOp .USub) (rU λi=>.int (-i)):=cf λ_ _ _ _ _ q=>neg_int q
variable {c:Expr}{tc:TE}
def Cc {σ:St}{H:Hp}{Q:VK}{k K:Bool}(I:Inv X pins σ H s)(q:Q (.bl k) H)(e:k=K):EP X pins σ Q (.bool K) s:=by
 subst e;exact⟨.bl k,H,I,rfl,q⟩
def B0:qB X (compareOp .Lt) (kZ λi j=>.bl (decide (i<j))):=KW λ_ _ _ _ _ _ _ q=>lt_int q
def Ac:qB X (compareOp .LtE) (kZ λi j=>.bl (decide (i<=j))):=KW λ_ _ _ _ _ _ _ q=>le_int q
def AG:qB X (compareOp .Gt) (kZ λi j=>.bl (decide (j<i))):=KW λ_ _ _ _ _ _ _ q=>gt_int q
def Ah:qB X (compareOp .GtE) (kZ λi j=>.bl (decide (j<=i))):=KW λ_ _ _ _ _ _ _ q=>ge_int q
def Dd:qB X (compareOp .IsNot) (λx y H Q=>y=.non/\Q (.bl (!decide (x=.non))) H):=by
 intro pins s σ H x y v u Q I r a h;obtain⟨rfl,q⟩:=h;cases a;refine isnot_none_gen (Cc I q ?_);cases x<;>first
  |(cases r;rfl)
  |(obtain⟨t,rfl⟩:=r;rfl)
def qB.or {r c:R2}(h:qB X f r)(h':qB X f c):qB X f (λx y H Q=>r x y H Q∨c x y H Q):=by
 intro pins s σ H x y v u Q I b a q;rcases q with q|q
 ·exact h pins s σ H x y v u Q I b a q
 ·exact h' pins s σ H x y v u Q I b a q
def ET {r:R2}(ho:qB X (compareOp op) r)(f:PE X a ta)(e:PE X b tb)(hm:behindInMarks op b=false):PE X (.Compare a [op] [b] pos) (Yd r ta tb):=by
 intro pins s σ H Q I h;exact wpAny_Compare1 (XT f e I h λv u s2 x y g i d c q=>ho pins s2 σ g x y v u Q i d c q) hm
noncomputable def Py (t:TE):TT:=λσ H Q=>t σ H λx h=>∃k,x=.bl k/\Q k h
def E6 {r:R2}(ho:qB X (compareOp op) r)(m:PE X a ta)(l:PE X b tb)(hm:behindInMarks op b=false):PT X (.Compare a [op] [b] pos) (Py (Yd r ta tb)):=by
 intro pins s σ H Q I h;refine wpAny_isTrue_Compare1 (zM (m pins s σ H _ I h) λv s1 ⟨x,H1,p,g,j⟩=>zM (l pins s1 σ H1 _ p j) λu s2 ⟨y,w,o,f,i⟩=>
  zM (ho pins s2 σ w x y v u _ o g f i) λc s3 ⟨z,t,n,d,k,e,q⟩=>?_) hm
 subst e;cases d;exact wpAny_truthy_bool ⟨t,n,q⟩
noncomputable def Xb (r b:R2)(a T t:TE):TE:=λσ H Q=>a σ H λx H1=>T σ H1 λy d=>r x y d λz h=>∃k,z=.bl k/\
 (if k=true then t σ h λw c=>b y w c Q else Q (.bl false) h)
def FU {o:CmpOp}{r i:R2}(ho:qB X (compareOp op) r)(f:qB X (compareOp o) i)(E:PE X a ta)(D:PE X b tb)(C:PE X c tc)
  (hm:lastMarks [op,o] [b,c]=false:=by with_unfolding_all rfl):PE X (.Compare a [op,o] [b,c] pos) (Xb r i ta tb tc):=by
 intro pins s σ H Q I h;refine Compare_chain (zM (E pins s σ H _ I h) λv s1 ⟨x,H1,L,p,B⟩=>chain_link (zM (D pins s1 σ H1 _ L B) λu s2 ⟨y,N,K,g,A⟩=>
  zM (ho pins s2 σ N x y v u _ K p g A) λd s3 ⟨z,l,j,n,k,e,q⟩=>?_)) hm
 subst e;cases n;refine wpAny_truthy_bool ?_;cases k with
 |false=>exact ite_ff ⟨.bl false,l,j,rfl,q⟩|true=>exact ite_tt (chain_last (zM (C pins s3 σ l _ j q) λw s4 ⟨Z,M,J,m,t⟩=>f pins s4 σ M y Z u w Q J g m t))
def F6 {o:CmpOp}{r i:R2}(ho:qB X (compareOp op) r)(f:qB X (compareOp o) i)(L:PE X a ta)(K:PE X b tb)(J:PE X c tc)
  (hm:lastMarks [op,o] [b,c]=false:=by with_unfolding_all rfl):PT X (.Compare a [op,o] [b,c] pos) (Py (Xb r i ta tb tc)):=by
 intro pins s σ H Q I h;refine isTrue_chain (zM (L pins s σ H _ I h) λv s1 ⟨x,H1,U,t,D⟩=>test_link (zM (K pins s1 σ H1 _ U D) λu s2 ⟨y,H2,T,g,C⟩=>
  zM (ho pins s2 σ H2 x y v u _ T t g C) λd s3 ⟨z,l,j,p,k,e,q⟩=>?_)) hm
 subst e;cases p;refine wpAny_truthy_bool ?_;cases k with
 |false=>
  obtain⟨k',N,E⟩:=q;cases N;exact ite_ff ⟨l,j,E⟩
 |true=>
  refine ite_tt (test_last (zM (J pins s3 σ l _ j q) λw s4 ⟨Z,H4,S,n,B⟩=>zM (f pins s4 σ H4 y Z u w _ S g n B) λd' s5 ⟨z2,Y,P,m,k2,M,A⟩=>?_));subst M;cases m;exact wpAny_truthy_bool ⟨Y,P,A⟩
def PV (K:Frag)(x:V)(H:Hp)(k:Bool):Prop:=
 match x with
 |.non=>k=false|.bl b=>k=b|.int i=>k=(i != 0)|.str y=>y.length<=sizeLine/\k=((y.length:Int) != 0)|.byt y=>y.size<=sizeLine/\k=((y.size:Int) != 0)|.ref p=>(∃xs,qF K H p xs/\k = !xs.isEmpty)∨(∃xs,qm K H p xs/\k = !xs.isEmpty)∨∃kvs,H p=some (.dK kvs)/\k = !kvs.isEmpty|_=>False
def LU {κ:Type}{kvs:List (κ×V)}{vs:List (κ×Value)}(r:KV kvs vs):(!vs.isEmpty) = !kvs.isEmpty:=by
 cases r<;>rfl
def TB {xs:List V}(r:Vals xs its):(!its.toArray.isEmpty) = !xs.isEmpty:=by
 cases r<;>simp
def ZR:(sizeLine:Nat)<2 ^ 63:=by rw[sizeLine_eq];decide
def CN:AY X (λx H Q=>∃k,PV X.K x H k/\Q k H):=by
 intro pins s σ H x v Q I a h;obtain⟨k,e,q⟩:=h;have hl:=ZR;have g:sizeLine=16777216:=sizeLine_eq;cases x with
 |non=>
  cases a;have E:k=false:=e;subst E;exact truthy_none ⟨H,I,q⟩
 |bl b=>
  cases a;have E:k=b:=e;subst E;exact wpAny_truthy_bool ⟨H,I,q⟩
 |int i=>
  obtain⟨t,rfl⟩:=a;have E:k=(i != 0):=e;subst E;exact PySem.P.truthy_int ⟨H,I,q⟩
 |str y=>
  obtain⟨t,rfl⟩:=a;obtain⟨f,E⟩:y.length<=sizeLine/\k=((y.length:Int) != 0):=e;subst E;exact PySem.P.truthy_str (by omega) ⟨H,I.tok _,q⟩
 |byt y=>
  obtain⟨t,rfl⟩:=a;obtain⟨f,E⟩:y.size<=sizeLine/\k=((y.size:Int) != 0):=e;subst E;exact PySem.W.truthy_bytes (by omega) ⟨H,I.tok _,q⟩
 |ref p=>
  cases a;have E:(∃xs,qF X.K H p xs/\k = !xs.isEmpty)∨(∃xs,qm X.K H p xs/\k = !xs.isEmpty)∨∃kvs,H p=some (.dK kvs)/\k = !kvs.isEmpty:=e;rcases E with ⟨xs,c,E⟩|⟨xs,c,E⟩|⟨kvs,c,E⟩
  ·subst E
   obtain⟨d,r,l,z⟩:=I.list c;have hlen:=r.length;exact wpAny_truthy_list l.isList (by simp only[aq];omega) ⟨H,I.tok _,by rw[TB r];exact q⟩
  ·subst E
   obtain⟨d,r,l,z⟩:=I.tuple c;have hlen:=r.length;exact truthy_tuple l (by simp only[aq];omega) ⟨H,I.tok _,by rw[TB r];exact q⟩
  ·subst E
   obtain⟨z,S,vs,r,m⟩:kvs.length<=sizeLine/\(p==sysModules)=false/\∃vs,KV kvs vs/\s.heap.DictOf (yj X.prog X.w) p vs:=I.hok p _ c;have hlen:kvs.length=vs.length:=Paired.length r;exact wpAny_truthy_dict S m (by omega) ⟨H,I.tok _,by rw[LU r];exact q⟩
 |_=>exact(show False from e).elim
def Sx (c:PE X a ta)(he:∀whole,isTrue a X.env whole=(do let v <- whole;standAt a.pos;holding [v] (truthy v))):
  PT X a (λσ H Q=>ta σ H λx b=>∃k,PV X.K x b k/\Q k b):=by
 intro pins s σ H Q I h;exact isTrue_plain (zM (c pins s σ H _ I h) λv s1 ⟨x,H1,i,r,q⟩=>CN pins s1 σ H1 x v Q i r q) (he _)
def vals1 {x:V}(r:Vals [x] us):∃u,us=[u]/\RelV x u:=by
 cases r with
 |cons b a=>cases a;exact⟨_,rfl,b⟩
def vals2 {x y:V}(r:Vals [x,y] us):∃u w,us=[u,w]/\RelV x u/\RelV y w:=by
 cases r with
 |cons d c=>
  cases c with
  |cons b a=>cases a;exact⟨_,_,rfl,d,b⟩
def HN:j9 X (.builtin "abs") (λxs H Q=>∃i,xs=[.int i]/\Q (.int (if i<0 then -i else i)) H):=by
 intro pins s σ H xs us Q I r h;obtain⟨i,rfl,q⟩:=h;obtain⟨u,rfl,t,rfl⟩:=vals1 r;exact call_abs_int λu T=>⟨.int (if i<0 then -i else i),H,I.tok _,⟨_,rfl⟩,q⟩
def Il (c:X.calm=true):j9 X (.builtin "max") (λxs H Q=>∃i j,xs=[.int i,.int j]/\Q (.int (if j > i then j else i)) H):=by
 intro pins s σ H xs us Q I r h;obtain⟨i,j,rfl,q⟩:=h;obtain⟨u,w,rfl,⟨t,rfl⟩,⟨t',rfl⟩⟩:=vals2 r;refine max_two_ints (I.ok.hd c) λh' T k=>⟨_,H,I.kept k,?_,q⟩
 by_cases a:j > i
 ·rw[aj a,aj a];exact⟨_,rfl⟩
 ·rw[ao a,ao a];exact⟨_,rfl⟩
def Ir (c:X.calm=true):j9 X (.builtin "min") (λxs H Q=>∃i j,xs=[.int i,.int j]/\Q (.int (if j<i then j else i)) H):=by
 intro pins s σ H xs us Q I r h;obtain⟨i,j,rfl,q⟩:=h;obtain⟨u,w,rfl,⟨t,rfl⟩,⟨t',rfl⟩⟩:=vals2 r;refine min_two_ints (I.ok.hd c) λh' T k=>⟨_,H,I.kept k,?_,q⟩
 by_cases a:j<i
 ·rw[aj a,aj a];exact⟨_,rfl⟩
 ·rw[ao a,ao a];exact⟨_,rfl⟩
def Im:j9 X (.type "int") (λxs H Q=>(∃i,xs=[.int i]/\Q (.int i) H)∨∃k,xs=[.bl k]/\Q (.int (if k then 1 else 0)) H):=by
 intro pins s σ H xs us Q I r h;rcases h with ⟨i,rfl,q⟩|⟨k,rfl,q⟩
 ·obtain⟨u,rfl,t,rfl⟩:=vals1 r
  exact call_int_int ⟨.int i,H,I,⟨_,rfl⟩,q⟩
 ·obtain⟨u,rfl,a⟩:=vals1 r
  cases a;exact call_int_bool ⟨.int (if k then 1 else 0),H,I.tok _,⟨_,rfl⟩,q⟩
end
structure XX (h:Heap)(x dx C:Addr)(mA:bG):Prop where
 obj:h.get? x=some (instObj C dx)
 ns:h.Ns1 dx mA
 ne:dx≠x
def Hm {D:Addr}{m:bG}(n:h.Ns1 D m):∃d,h.get? D=some d/\∀name,lookIn name d=some (m name):=by
 obtain⟨o,E,p,ho,hd,c,_,hm⟩:=n;refine⟨o,ho,λname=>?_⟩;have e:=hm name;unfold nsFind findBy at e;rw[<- Array.find?_toList]at e;unfold lookIn;rw[hd];dsimp only
 split
 ·rename_i y q
  rw[q]at e;exact congrArg some e
 ·rename_i q
  rw[q]at e;have a:E.toList.any (·.refKey)=false:=by
   rw[List.any_eq_false];intro y b;obtain⟨z,t,H⟩:=c y (Array.mem_toList_iff.mp b);simp[DictEntry.refKey,H]
  have A:¬E.toList.any (·.refKey)=true:=by rw[a];exact au
  rw[ao A];exact congrArg some e
def XX.look {x d C:Addr}{m:bG}(I:XX h x d C m):∃o,PySem.W.InstAt h x (instObj C d) C (some o)/\∀name,lookIn name o=some (m name):=
 let ⟨o,ho,hl⟩:=Hm I.ns
 ⟨o,⟨I.obj,rfl,rfl,ho⟩,hl⟩
def gJ.some_of {v:V}{o:bB}(r:gJ (some v) o):∃u,o=some u/\RelV v u:=by
 cases o with
 |none=>exact(show False from r).elim|some u=>exact⟨u,rfl,r⟩
section
variable {H:Hp}{C dx:Addr}{fs:List (Str×V)}
def EZ (hok:jw P w H h)(e:H a=some (.ins C dx fs)):∃m,XX h a dx C m/\(∀f,gJ (fs.lookup f) (m f))/\PySem.Within m (fs.map (·.1))/\fs.length<=1000/\H dx=some (.own a):=by
 obtain⟨d,z,ne,ob,m,n,r,q⟩:=(show jA P w H h a (.ins C dx fs) from hok a _ e)
 exact⟨m,⟨ob,n,ne⟩,r,q,z,d⟩
end
structure X0 (K:Frag)(C:Addr):Prop where
 pg:plainGet K C Str.empty=true
 hd:PySem.W.hasDictIn K C=true
 po:PySem.W.plainOver K C=true
 sa:findIn K (.ref C) "__setattr__"=some (some (.builtin "object.__setattr__"))
def X0.get {K:Frag}{C:Addr}(c:X0 K C)(f:Str):plainGet K C f=true:=c.pg
section
variable {X:Cx}{σ:St}{H:Hp}{A:Around}{c:Value}{b:Bool}
inductive kA (K:Frag)(H:Hp):V->Value->Prop where
 |non:kA K H .non (.type "NoneType")
 |bl (x:Bool):kA K H (.bl x) (.type "bool")
 |int (i:Int):kA K H (.int i) (.type "int")
 |str (x:Str):kA K H (.str x) (.type "str")
 |flt (x:UInt64):kA K H (.flt x) (.type "float")
 |lst {a:Addr} {xs:List V} (e:H a=some (.lst xs)):kA K H (.ref a) (.type "list")
 |frz {a:Addr} {o:Obj} {xs:List V} (e:H a=some (.frz o (.lst xs))):kA K H (.ref a) (.type "list")
 |tup {a:Addr} {xs:List V} (e:H a=some (.tup xs)):kA K H (.ref a) (.type "tuple")
 |dK {a:Addr} {kvs:List (Key×V)} (e:H a=some (.dK kvs)):kA K H (.ref a) (.type "dict")
 |dT {a:Addr} {kvs:List (List Key×V)} (e:H a=some (.dT kvs)):kA K H (.ref a) (.type "dict")
 |ins {a C dx:Addr} {fs:List (Str×V)} (e:H a=some (.ins C dx fs)) (cl:X0 K C) (ha:findIn K (.ref C) "__class__"=some (some (.builtin "object.__class__")))
   (hn:PySem.W.specialIn K (.builtin "object.__class__") "__get__"=some (some (.builtin "getset_descriptor.__get__"))) (htk:PySem.W.takesIn K (.builtin "object.__class__")=some true)
   (hm:mroIn K C (.type "object")=some true):kA K H (.ref a) (.ref C)
def IQ {x:V}{t:Value}(I:Inv X pins σ H s)(r:RelV x u)(ty:kA X.K H x t)(e:kitOne X.K t c=some b)(h:∀T,Q (.bool b) { s with toks:=T }):
  wpAny (model X.prog X.w) A (call (.builtin "isinstance") [u,c]) Q E s:=by
 cases ty with
 |non=>cases (show u=Value.none from r);exact bg PySem.W.kitx_none I.kIn True.intro e (λz=>nomatch z) h
 |bl y=>cases (show u=Value.bool y from r);exact bg PySem.W.kitx_bool I.kIn True.intro e (λz=>nomatch z) h
 |int i=>obtain⟨t,q⟩:=(show ∃t,u=Value.int i t from r);cases q;exact bg PySem.W.kitx_int I.kIn True.intro e (λz=>nomatch z) h
 |str y=>obtain⟨t,q⟩:=(show ∃t,u=Value.str y t from r);cases q;exact bg PySem.W.kitx_str I.kIn True.intro e (λz=>nomatch z) h
 |flt y=>obtain⟨t,q⟩:=(show ∃t,u=Value.float y t from r);cases q;exact bg PySem.W.kitx_float I.kIn True.intro e (λz=>nomatch z) h
 |@lst a xs d=>
  cases (show u=Value.ref a from r)
  obtain⟨_,_,n,_,f⟩:=(show jA X.prog X.w H s.heap a (.lst xs) from I.hok a _ d)
  exact bg kitx_list I.kIn ⟨_,f,rfl⟩ e (λz=>nomatch z) h
 |@frz a ob xs d=>
  cases (show u=Value.ref a from r)
  obtain⟨_,_,_,n,_,f⟩:=(show jA X.prog X.w H s.heap a (.frz ob (.lst xs)) from I.hok a _ d)
  exact bg kitx_list I.kIn ⟨_,f,rfl⟩ e (λz=>nomatch z) h
 |@tup a xs d=>
  cases (show u=Value.ref a from r)
  obtain⟨_,_,_,p⟩:=(show jA X.prog X.w H s.heap a (.tup xs) from I.hok a _ d)
  obtain⟨o,f,g,_⟩:=p;exact bg kitx_tuple I.kIn ⟨o,f,g.1⟩ e (λz=>nomatch z) h
 |@dK a kvs d=>
  cases (show u=Value.ref a from r)
  obtain⟨_,_,vs,_,p⟩:=(show jA X.prog X.w H s.heap a (.dK kvs) from I.hok a _ d)
  obtain⟨o,m,v,f,g,_⟩:=p;exact bg kitx_dict I.kIn ⟨o,f,g.1⟩ e (λz=>nomatch z) h
 |@dT a kvs d=>
  cases (show u=Value.ref a from r)
  obtain⟨_,_,xs,_,o,m,v,f,g,_⟩:=(show jA X.prog X.w H s.heap a (.dT kvs) from I.hok a _ d)
  exact bg kitx_dict I.kIn ⟨o,f,g.1⟩ e (λz=>nomatch z) h
 |@ins a C dx fs d cl l hn j hm=>
  cases (show u=Value.ref a from r)
  obtain⟨M,O,_⟩:=EZ I.hok d;obtain⟨B,J,_⟩:=O.look;exact bg (PySem.W.kitx_own (cl.get _) cl.hd l hn j hm) I.kIn J e (λz=>nomatch z) h
end
structure jL (k:Nat)(A:Around):Prop where
 hd:A.handled=none
 dp:A.depth+3 * k+5<recursionLimit
 un:A.units+16 * k+200<cLine
def jL.mono {j k:Nat}{A:Around}(r:jL k A)(h:j<=k):jL j A:=⟨r.hd,by have:=r.dp;omega,by have:=r.un;omega⟩
theorem jL.deeper {k:Nat}{A:Around}(r:jL (k+1) A)(env:Env):jL k (A.deeper env):=
 ⟨r.hd,by have:=r.dp;show A.depth+1+3 * k+5<_;omega,by have:=r.un;show A.units+3+16 * k+200<_;omega⟩
theorem jL.depth {k:Nat}{A:Around}(r:jL k A):A.depth<recursionLimit:=by have:=r.dp;omega
theorem jL.units {k:Nat}{A:Around}(r:jL k A):A.units+64<cLine:=by have:=r.un;omega
noncomputable def Of:TA:=λ_ H Q=>Q [] H
noncomputable def Pg (t:TE)(tr:TA):TA:=λσ H Q=>t σ H λx H1=>tr σ H1 λxs h=>Q (x::xs) h
section
variable {X:Cx}{es:bE}{te:TE}{t:TA}
def yd:PA X [] Of:=λ_ _ _ _ H Q I h=>Calls.spliced_nil ⟨[],H,I,.nil,h⟩
def jz (f:PE X e te)(d:PA X es t)(c:starEach (e::es) X.env=(false,eval e X.env)::starEach es X.env:=by rfl):PA X (e::es) (Pg te t):=by
 intro pos pins s σ H Q I h;rw[c];show wpAny _ _ (spliced ((false,eval e X.env)::backTo pos (starEach es X.env))) _ _ s;refine Calls.spliced_cons (zM (f pins s σ H _ I h) λu s1 ⟨x,H1,g,a,b⟩=>?_);exact zM (d pos pins s1 σ H1 _ g b) λus s2 ⟨xs,j,i,r,q⟩=>⟨x::xs,j,i,.cons a r,q⟩
def AL (t:TA):TE:=λσ H Q=>t σ H λxs H1=>xs.length<=sizeLine/\∀p,H1 p=none->Q (.ref p) (upd H1 p (.tup xs))
def A7 (t:TA):TE:=λσ H Q=>t σ H λxs H1=>xs.length<=sizeLine/\∀p,H1 p=none->Q (.ref p) (upd H1 p (.lst xs))
def CV {x1}(h:PA X es t):PE X (.Tuple es x1 pos) (AL t):=by
 intro pins s σ H Q I a;refine wpAny_Tuple_spliced (zM (h pos pins s σ H _ I a) λus s1 ⟨xs,H1,i,r,z,q⟩=>⟨by rw[<- r.length];exact z,?_⟩)
 have hf:H1 s1.heap.objs.size=none:=i.hok.fresh (ak _);refine⟨.ref s1.heap.objs.size,upd H1 s1.heap.objs.size (.tup xs),i.laid (t':=s1.toks) (λb u e=>ae _ e) (ak _) ?_,rfl,q _ hf⟩;exact⟨z,us,r,⟨_,av _ rfl,⟨rfl,rfl⟩,_,rfl⟩⟩
def CP (h:PA X es t):PE X (.List es pos) (A7 t):=by
 intro pins s σ H Q I a;refine wpAny_List_spliced (zM (h pos pins s σ H _ I a) λus s1 ⟨xs,H1,i,r,z,q⟩=>⟨by rw[<- r.length];exact z,?_⟩)
 have hf:H1 s1.heap.objs.size=none:=i.hok.fresh (ak _);refine⟨.ref s1.heap.objs.size,upd H1 s1.heap.objs.size (.lst xs),i.laid (t':=s1.toks) (λb u e=>ae _ e) (ak _) ?_,rfl,q _ hf⟩;exact⟨z,us,0,r,av _ rfl⟩
end
abbrev Sp:=List V->Hp->VK->XK->Prop
abbrev kH:=List Env->Hp->Shared->XK->Value->Shared->Prop
structure Kw (P:Program)(w:World)(K:Frag)(mg:bG)(base:Heap)(A:Around)(outer:bH)(s:Shared)(H:Hp):Prop where
 frames:A.frames=some outer
 mod:Mod K mg base
 bs:∀b o,base.get? b=some o->s.heap.get? b=some o/\H b=none
 bsz:base.objs.size<=s.heap.objs.size
 funs:s.heap.FunFrames base outer
 frf:∀b∈wD outer,H b=none
 hok:jw P w H s.heap
 bare:AllBare s.gens
inductive CE (outer:bH)(P:Program)(w:World)(H:Hp)(s:Shared)(Q:VK)(u:Value)(s':Shared):Prop
 |mk (v:V) (H':Hp) (os:s'.os=s.os) (b:AllBare s'.gens) (un:Un (wD outer) [] H H' s.heap s'.heap) (hk:jw P w H' s'.heap) (r:RelV v u) (q:Q v H')
def CR (CX:kH)(outer:bH)(P:Program)(w:World)(H:Hp)(s:Shared)(Q:VK)(E:XK)(r:Result)(S:Shared):Prop:=
 match r with
 |.ok (.ret u)=>CE outer P w H s Q u S|.ok _=>False|.error e=>CX outer H s E e S
structure yA (P:Program)(w:World)(K:Frag)(mg:bG)(base:Heap)(CX:kH)(k:Nat)(f:Addr)(fd:FuncData)(ps:bC)(sp:Sp):Prop where
 len:∀vs H Q E,sp vs H Q E->vs.length=ps.length
 run:∀(A:Around)(outer:bH)(s:Shared)(H:Hp)(args:Args)(us:bw)(vs:List V)(Q:VK)(E:XK),jL k A->Kw P w K mg base A outer s H->BindsTo s fd args (ps.zip us)->Vals vs us->sp vs H Q E->
  codeAny (model P w) A (.call (.ref f) args) (CR CX outer P w H s Q E) s
theorem yA.mono {K:Frag}{CX:kH}{j k:Nat}{f:Addr}{sp:Sp}(F:yA P w K mg base CX j f fd ps sp)(h:j<=k):
  yA P w K mg base CX k f fd ps sp:=⟨F.len,λA outer s H args us vs Q E r=>F.run A outer s H args us vs Q E (r.mono h)⟩
def yA.imp {K:Frag}{CX:kH}{k:Nat}{f:Addr}{sp S:Sp}(F:yA P w K mg base CX k f fd ps sp)
  (h:∀vs H Q E,S vs H Q E->sp vs H Q E):yA P w K mg base CX k f fd ps S:=
 ⟨λvs H Q E q=>F.len vs H Q E (h _ _ _ _ q),λA outer s H args us vs Q E r he b v a=>F.run A outer s H args us vs Q E r he b v (h _ _ _ _ a)⟩
section
variable {X:Cx}{σ:St}{H:Hp}{s':Shared}
def Inv.env0 (I:Inv X pins σ H s):Kw X.prog X.w X.K X.mg X.base X.A X.stack s H:=
 ⟨I.ok.frames,I.ok.mod,I.bs,a3 I.ok.bsz I.sz,I.stack,I.stkFree,I.hok,I.bare⟩
def Inv.after {Q:VK}(I:Inv X pins σ H s)(h:CE X.stack X.prog X.w H s Q u s'):EP X pins σ Q u s':=by
 obtain⟨v,c,os,bare,un,hok,r,q⟩:=h;obtain⟨a,g,d,t,o⟩:=s';obtain rfl:o=s.os:=os;exact⟨v,c,I.call (h':=a) (g':=g) (d':=d) (t':=t) (ch:=[]) un hok bare (λb z=>absurd z (by simp)),r,q⟩
end
noncomputable def An (sp:Sp)(d:List V)(E:XK)(t:TA):TE:=λσ H Q=>t σ H λvs H1=>sp (vs++d) H1 Q E
def Binds (K:Frag)(fd:FuncData)(p:bC)(ds:bw):Prop:=
 ∀(s:Shared)(us:bw),K.In s.heap->(us++ds).length=p.length->BindsTo s fd ⟨us,[]⟩ (p.zip (us++ds))
def Binds.all {K:Frag}(h:∀us:bw,us.length=ps.length->bindArgs fd ⟨us,[]⟩=pure (ps.zip us)):Binds K fd ps []:=λs us _ hl=>by
 rw[append_nil]at hl ⊢;exact .of_eq (h us hl)
def Passes (CX:kH)(X:Cx)(E:XK):Prop:=∀(pins:bz)(σ:St)(H:Hp)(s:Shared)(e:Value)(s':Shared),Inv X pins σ H s->CX X.stack H s E e s'->X.xe e s'
section
variable {X:Cx}{CX:kH}{k:Nat}{f:Addr}{sp:Sp}{dvs:List V}{ds:bw}{E:XK}{es:bE}{t:TA}
def Cm {σ:St}{H:Hp}{Q:VK}{vs:List V}(F:yA X.prog X.w X.K X.mg X.base CX k f fd ps sp)(b:jL k X.A)(c:Binds X.K fd ps ds)(hd:Vals dvs ds)(x:Passes CX X E)
  (I:Inv X pins σ H s)(r:Vals vs us)(h:sp (vs++dvs) H Q E):wpAny (model X.prog X.w) X.A (call (.ref f) us) (EP X pins σ Q) X.xe s:=by
 have a:Vals (vs++dvs) (us++ds):=r.append hd;have hl:(us++ds).length=ps.length:=by rw[<- a.length];exact F.len _ _ _ _ h
 refine wpAny_call (codeAny_mono (F.run X.A X.stack s H ⟨us,[]⟩ (us++ds) (vs++dvs) Q E b I.env0 (c s us I.kIn hl) a h) λr S q=>?_);cases r with
 |error e=>exact x pins σ H s e S I q|ok l=>
  cases l with
  |ret u=>exact I.after q|next=>exact False.elim q|brk=>exact False.elim q|cont=>exact False.elim q
def Es (F:yA X.prog X.w X.K X.mg X.base CX k f fd ps sp)(c:jL k X.A)(g:Gl X x)(hm:X.mg x=some (.ref f))(d:keepIn X.K (.ref f)=true)(j:Binds X.K fd ps ds)(hd:Vals dvs ds)(a:Passes CX X E)
  (m:PA X (e::es) t)(b:(x==("__debug__":Str))=false:=by decide)(he:starEach (e::es) X.env=(false,eval e X.env)::starEach es X.env:=by rfl)(l:(backTo pos (starEach es X.env)).any (·.1)=false:=by rfl):
  PE X (.Call (.Name x p) (e::es) [] pos) (An sp dvs E t):=by
 intro pins s σ H Q I h;refine wpAny_Call_Name_kw (Rc I g hm ?_ b);refine PySem.W.callWith_K (h₀:=X.base) I.ok.mod.kin d (zM (m pos pins s σ H _ I h) λus s1 ⟨vs,H1,i,r,q⟩=>⟨i.kIn,?_⟩) he l;exact Cm F c j hd a i r q
end
structure qk (N P:bC)(sc:Scope):Prop where
 kind:sc.kind=.function
 co:sc.isCoroutine=false
 gen:sc.isGenerator=false
 nd:N.Nodup
 pre:N.take P.length=P
 par:∀x∈P,sc.names.lookup x=some .local∨sc.names.lookup x=some .cell
 nofree:∀y∈sc.names,y.2≠.free
theorem Sd {kindOf:Str->Option NameKind}:∀{binds:List (Str×Value)}{m:bG},(∀v,(x,v)∉binds)->bindL kindOf binds m x=m x
 |[],_,_=>rfl|(n,v)::r,m,h=>by
  unfold bindL;rw[Sd λw hw=>h w (aI _ hw)]
  split
  ·have:x≠n:=by rintro rfl;exact h v aJ
   simp[this]
  ·rfl
theorem TZ {kindOf:Str->Option NameKind}:∀{binds:List (Str×Value)}{m:bG},(∀v,(x,v)∉binds)->bindC kindOf binds m x=m x
 |[],_,_=>rfl|(n,v)::r,m,h=>by
  unfold bindC;rw[TZ λw hw=>h w (aI _ hw)]
  split
  ·rfl
  ·have:x≠n:=by rintro rfl;exact h v aJ
   simp[this]
theorem TV {kindOf:Str->Option NameKind}{v:Value}:∀{P:bC}{vs:bw}{i:Nat}{m:bG},P.Nodup->P[i]? =some x->vs[i]? =some v->kindOf x=some .local->
  bindL kindOf (P.zip vs) m x=some v
 |[],_,_,_,_,h,_,_=>by simp at h|_::_,[],_,_,_,_,h,_=>by simp at h|p::P,w::vs,0,m,nd,h1,H,a=>by
  simp at h1 H;subst h1;subst H;show bindL kindOf ((p,w)::P.zip vs) m p=_;unfold bindL;rw[Sd λv b=>(List.nodup_cons.mp nd).1 (of_mem_zip b).1,aj a];simp
 |p::P,w::vs,i+1,m,nd,h1,H,a=>by
  show bindL kindOf ((p,w)::P.zip vs) m x=_;unfold bindL;exact TV (i:=i) (List.nodup_cons.mp nd).2 (by simpa using h1) (by simpa using H) a
theorem T7 {kindOf:Str->Option NameKind}{v:Value}:∀{P:bC}{vs:bw}{i:Nat}{m:bG},P.Nodup->P[i]? =some x->vs[i]? =some v->kindOf x≠some .local->
  bindC kindOf (P.zip vs) m x=some v
 |[],_,_,_,_,h,_,_=>by simp at h|_::_,[],_,_,_,_,h,_=>by simp at h|p::P,w::vs,0,m,nd,h1,H,a=>by
  simp at h1 H;subst h1;subst H;show bindC kindOf ((p,w)::P.zip vs) m p=_;unfold bindC;rw[TZ λv b=>(List.nodup_cons.mp nd).1 (of_mem_zip b).1,ao a];simp
 |p::P,w::vs,i+1,m,nd,h1,H,a=>by
  show bindC kindOf ((p,w)::P.zip vs) m x=_;unfold bindC;exact T7 (i:=i) (List.nodup_cons.mp nd).2 (by simpa using h1) (by simpa using H) a
noncomputable def start (N:bC)(vs:List V):St:=vs.map some++List.replicate (N.length-vs.length) none
noncomputable def Zl (CX:kH)(P:Program)(w:World)(K:Frag)(mg:bG)(base:Heap)(N:bC)(qual:Str)(scope:Scope)(f:Addr)(cd:Value)(A:Around)(outer:bH)(s:Shared)(H:Hp)(E:XK):Cx where
 prog:=P
 w:=w
 K:=K
 mg:=mg
 base:=base
 A:=A.deeper (envOfC qual scope s.heap.objs.size f cd)
 N:=N
 s0:=s
 H0:=H
 env:=envOfC qual scope s.heap.objs.size f cd
 outer:=outer
 stack:=envOfC qual scope s.heap.objs.size f cd::outer
 ex:=[]
 calm:=true
 fn:=λ_=>true
 pn:=[]
 xe:=λe a=>wpAny (model P w) (A.deeper (envOfC qual scope s.heap.objs.size f cd)) (leaving (envOfC qual scope s.heap.objs.size f cd) e) (λ_ S=>CX outer H s E e S) (λb S=>CX outer H s E b S) a
def Sh (h:sc.names.lookup x=some .cell):∃c,(cellsFrom n sc.names []).lookup x=some c:=by
 have q:=cellsFrom_some sc.names n [] (.inl h);exact Option.isSome_iff_exists.mp q
def Ho {CX:kH}{K:Frag}{qual:Str}{f:Addr}{cd:Value}{A:Around}{outer:bH}{s1:Shared}{H:Hp}{E:XK}{vs:List V}
  (S:qk N ps scope)(hd:A.handled=none)(g:Kw P w K mg base A outer s H)(hl:vs.length=ps.length)(r:Vals vs us)
  (x:InCallC s s.heap.objs.size (bindL (envOfC qual scope s.heap.objs.size f cd).kindOf (ps.zip us) λ_=>none) (cellsFrom (s.heap.objs.size+1) scope.names []) (bindC (envOfC qual scope s.heap.objs.size f cd).kindOf (ps.zip us) λ_=>none) s1):
  Inv (Zl CX P w K mg base N qual scope f cd A outer s H E) [] (start N vs) H s1:=by
 have J:ps.length<=N.length:=by have:=congrArg List.length S.pre;rw[bp]at this;omega
 obtain⟨B,T,rfl,D⟩:=x.done;have j:∀b:Addr,b∉(Zl CX P w K mg base N qual scope f cd A outer s H E).ex:=λb z=>absurd (show b∈([]:bx) from z) (by simp)
 refine⟨⟨g.mod,S.kind,rfl,rfl,ak _,λy z c B d=>?_,λy l=>?_,λy c _ h=>?_,λ_=>hd,Around.frames_deeper g.frames,.inr ⟨rfl,rfl⟩,λb z=>absurd z (j b),g.bs,g.bsz,λb _ _=>j b,λb z=>absurd z (j b),g.funs,g.frf⟩,
  rfl,g.bare,Un.kept D,⟨_,x.toInCall.ns,λi y v B d M=>?_⟩,λy c h=>⟨_,x.cell y c h⟩,g.hok.fresh (ak _),λy c h=>?_,λp o=>absurd (show p∈([]:bz) from o) (by simp),g.hok.kept D,?_⟩
 ·exact name_of_addr x.apart (PySem.mem_of_lookup B) (PySem.mem_of_lookup d)
 ·have l:scope.names.lookup y=some .cell∨scope.names.lookup y=some .free:=l
  rcases l with l|l
  ·exact Sh l
  ·exact absurd rfl (S.nofree _ (PySem.mem_of_lookup l))
 ·exact le_of_lt (x.above y c (PySem.mem_of_lookup h))
 ·have t:i<vs.length:=by
   unfold start at d
   by_cases t:i<vs.length
   ·exact t
   ·rw[ar (by simpa using t)]at d
    rw[List.getElem?_replicate]at d
    split at d<;>cases d
  have L:vs[i]? =some v:=by
   unfold start at d;rw[ah (by simpa using t),aw]at d
   cases e:vs[i]? with
   |none=>rw[e]at d;cases d|some a=>rw[e]at d;cases d;rfl
  obtain⟨u,C,I⟩:=r.get L;have o:ps[i]? =some y:=by
   rw[<- S.pre,List.getElem?_take_of_lt (by omega)];exact B
  have m:ps.Nodup:=by rw[<- S.pre];exact S.nd.sublist (List.take_sublist _ _)
  refine⟨u,I,?_⟩;rcases S.par y (mem_of_getElem? o) with k|k
  ·exact .inl ⟨k,TV m o C k⟩
  ·obtain⟨c,e⟩:=Sh (n:=s.heap.objs.size+1) k
   refine .inr ⟨.inl k,c,e,?_⟩;have q:=x.cell y c e;rw[T7 m o C (by show scope.names.lookup y≠_;rw[k];decide)]at q
   exact q
 ·exact g.hok.fresh (le_of_lt (x.above y c (PySem.mem_of_lookup h)))
 ·unfold start
  show _=N.length;rw[aA,ai,length_replicate];omega
def BP {CX:kH}{K:Frag}{k:Nat}{f:Addr}{name qual:Str}{params:Arguments}{D kV doc pm c ct L:Value}{an C:bK}
  {sp:Sp}(lk:K.lookup f=some ⟨L,C,.func (fnOf name qual params body scope D kV doc pm an c ct),osl⟩)(B:codeIn K c qual=true)(S:qk N ps scope)
  (len:∀vs H Q E,sp vs H Q E->vs.length=ps.length)
  (g:∀(A:Around)(outer:bH)(s:Shared)(H:Hp)(vs:List V)(Q:VK)(E:XK),jL k (A.deeper (envOfC qual scope s.heap.objs.size f c))->sp vs H Q E->
   ∃t,yD (Zl CX P w K mg base N qual scope f c A outer s H E) body t/\t { nx:=λ_ h=>Q .non h,rt:=Q } (start N vs) H):
  yA P w K mg base CX (k+1) f (fnOf name qual params body scope D kV doc pm an c ct) ps sp:=by
 refine⟨len,λA outer s H args us vs Q E z j Y r p=>?_⟩;have hl:=len _ _ _ _ p;have X:K.In s.heap:=j.mod.kin.keeps λb o e=>(j.bs b o e).1;have lim:s.heap.NoLimit:=j.mod.nolimit.keeps λb o e=>(j.bs b o e).1;have d:∀y∈ps.zip us,scope.names.lookup y.1=some .local∨(scope.names.lookup y.1=some .cell/\((cellsFrom (s.heap.objs.size+1) scope.names []).lookup y.1).isSome=true):=λ⟨n,v⟩ M=>by
  rcases S.par n (of_mem_zip M).1 with q|q
  ·exact .inl q
  ·exact .inr ⟨q,cellsFrom_some _ _ _ (.inl q)⟩
 refine codeAny_call_function z.depth (X _ _ lk) rfl S.co S.gen rfl (PySem.W.codeRec_of X B) (Y _ _ _ _ ?_);refine wpAny_newFunctionEnv_cells S.kind d λenv he s1 x=>?_;subst he;refine⟨lim.keeps x.toInCall.keep,codeAny_func ?_⟩;obtain⟨t,T,U⟩:=g A outer s H vs Q E (z.deeper _) p;have I:Inv (Zl CX P w K mg base N qual scope f c A outer s H E) [] (start N vs) H s1:=Ho S z.hd j hl r x;refine wpAny_mono (T [] s1 (start N vs) H _ I U) (λZ l i=>?_) λe l i=>i;have fin:∀{a:St}{h:Hp}{v:V}{u:Value},Inv (Zl CX P w K mg base N qual scope f c A outer s H E) [] a h l->RelV v u->Q v h->CE outer P w H s Q u l:=
  λ {a h v u} J m q=>⟨v,h,J.os,J.bare,J.base,J.hok,m,q⟩
 cases Z with
 |ret u=>
  obtain⟨v,a,h,J,m,q⟩:=i;exact fin J m q
 |next=>
  obtain⟨a,h,J,q⟩:=i;exact fin (v:=V.non) (u:=Value.none) J rfl q
 |brk=>
  obtain⟨_,_,_,q⟩:=i;exact False.elim q
 |cont=>
  obtain⟨_,_,_,q⟩:=i;exact False.elim q
section
variable {X:Cx}{es:bE}{t:TA}{id T:String}{r:List V->Hp->VK->Prop}
noncomputable def Vf (r:List V->Hp->VK->Prop)(t:TA):TE:=λσ H Q=>t σ H λvs H1=>r vs H1 Q
def Jr (c:j9 X (.builtin id) r)(g:Gl X x)(hm:X.mg x=none)(v:bootBuiltins x=some (.builtin id))(d:PA X (e::es) t)(hn:x ≠ "__name__":=by decide)(b:(x==("__debug__":Str))=false:=by decide)
  (he:starEach (e::es) X.env=(false,eval e X.env)::starEach es X.env:=by rfl)(l:(backTo pos (starEach es X.env)).any (·.1)=false:=by rfl):PE X (.Call (.Name x p) (e::es) [] pos) (Vf r t):=by
 intro pins s σ H Q I h;refine wpAny_Call_Name_kw (gy I g hm v ?_ hn b);exact PyProof.Rows.callWith_builtin1 (zM (d pos pins s σ H _ I h) λus s1 ⟨vs,H1,i,a,q⟩=>c pins s1 σ H1 vs us Q i a q) he l
def YH (c:j9 X (.type T) r)(g:Gl X x)(hm:X.mg x=none)(v:bootBuiltins x=some (.type T))(d:PA X (e::es) t)(hn:x ≠ "__name__":=by decide)(b:(x==("__debug__":Str))=false:=by decide)
  (he:starEach (e::es) X.env=(false,eval e X.env)::starEach es X.env:=by rfl)(l:(backTo pos (starEach es X.env)).any (·.1)=false:=by rfl):PE X (.Call (.Name x p) (e::es) [] pos) (Vf r t):=by
 intro pins s σ H Q I h;refine wpAny_Call_Name_kw (gy I g hm v ?_ hn b);exact PyProof.Rows.callWith_type1 (zM (d pos pins s σ H _ I h) λus s1 ⟨vs,H1,i,a,q⟩=>c pins s1 σ H1 vs us Q i a q) he l
end
end L2
variable {X:L2.Cx}{o:L2.HO}{H:L2.Hp}{kvs:List (L2.Key×L2.V)}{vs xs ys:List L2.V}{r:List L2.V->L2.Hp->L2.VK->Prop}{σ:L2.St}{v:L2.V}
namespace HT
open PySem PyProof.Rows
section
open PySem.SeqAt
open PySem.AutoSeq1 (wpAny_loadPart')
open PySem.MeetsSeq PySem.MeetsSeq2 PySem.MeetsSeq3
end
section
variable {prog:Program}{A:Around}
def Dm {t:Addr}{vs ws:bw}(a:IsTup s.heap t vs.toArray)(f:IsTup s.heap b ws.toArray)(v:vs≠[])
  (i:ws=[]->Q (.ref t) s)(g:ws≠[]->Q (.ref s.heap.objs.size) { s with heap:=s.heap.push { cls:=.type "tuple",data:=.seq (vs++ws).toArray } })
  (z:vs.length+ws.length<=sizeLine):wpAny (model prog w) A (binaryOp .Add (.ref t) (.ref b)) Q E s:=by
 obtain⟨⟨cls,D,data,sl⟩,ho,c,n,hd⟩:=id a;obtain⟨⟨C,d,data2,S⟩,h,H,N,hd2⟩:=id f;simp only at c hd H hd2;subst c hd H hd2;have e:vs.toArray++ws.toArray=(vs++ws).toArray:=by simp
 by_cases hw:ws=[]
 ·exact concat_meets ⟨_,ho,rfl⟩ ⟨_,h,rfl⟩ noFill_tuple_add seq_tuple_add slot_tuple_add entry_tuple_add (args_tuple_add_2 _ _)
   (tuple_addW1 t b vs.toArray ws.toArray n N D d sl S (by simpa using v) (by simp[hw])) ⟨ho,h,i hw⟩
 ·refine concat_meets ⟨_,ho,rfl⟩ ⟨_,h,rfl⟩ noFill_tuple_add seq_tuple_add slot_tuple_add entry_tuple_add (args_tuple_add_2 _ _)
   (tuple_addW2 t b vs.toArray ws.toArray n N D d sl S (by simpa using v) (by simpa using hw) (by rw[aq,aq];exact z)) ⟨ho,h,?_⟩
  rw[e];exact g hw
noncomputable def z9 (n d:Nat):Option Int->Nat
 |none=>d|some v=>if v<0 then(v+(n:Int)).toNat else min v.toNat n
def HS (n d:Nat):z9 n d none=d:=rfl
def EI (n d k:Nat):z9 n d (some (k:Int))=min k n:=by
 show(if (k:Int)<0 then((k:Int)+(n:Int)).toNat else min (k:Int).toNat n)=min k n;rw[ao (by omega),aH]
def Bw (n d:Nat)(hd:d<=n)(o:bF):z9 n d o<=n:=by
 cases o with
 |none=>exact hd|some v=>
  show(if v<0 then(v+(n:Int)).toNat else min v.toNat n)<=n
  by_cases h:v<0
  ·rw[aj h];omega
  ·rw[ao h];exact Nat.min_le_right _ _
def Ri (v:Int)(n d:Nat):(if v<0 then max (v+(n:Int)) 0 else min v (n:Int))=((z9 n d (some v):Nat):Int):=by
 show(if v<0 then max (v+(n:Int)) 0 else min v (n:Int))=(((if v<0 then(v+(n:Int)).toNat else min v.toNat n):Nat):Int)
 by_cases h:v<0
 ·simp only[aj h];omega
 ·simp only[ao h];omega
def LR (lo h:bF)(n:Nat):Builtin.Slice.sliceAdjust lo h 1 (n:Int)=(((z9 n 0 lo:Nat):Int),((z9 n n h:Nat):Int)):=by
 have H:¬((1:Int)<0):=by omega
 unfold Builtin.Slice.sliceAdjust;simp only[H,if_false];refine Prod.ext ?_ ?_
 ·cases lo with
  |none=>rfl|some v=>exact Ri v n 0
 ·cases h with
  |none=>rfl|some v=>exact Ri v n n
def LX (i j:Nat):Builtin.Slice.slicePlaces (i:Int) (j:Int) 1=j-i:=by
 unfold Builtin.Slice.slicePlaces;have h:(1:Int) > 0:=by omega
 simp only[h,if_true,Int.ediv_one]
 split<;>omega
def Tz {v:Value}{o:bF}{Q:Option Int->Shared->Prop}(p:IsPart v o)(h:Q o s):wpAny (model prog w) A (Builtin.Slice.slicePartIndex v) Q E s:=by
 cases p with
 |none=>exact slicePart_none h|int i t=>exact slicePart_int h
def VJ {sl:Addr}{l v:Value}{lo i:bF}{Q:Int×Int×Nat->Shared->Prop}(b:s.heap.IsSliceOf sl l v .none)(p:IsPart l lo)(pu:IsPart v i)
  (h:Q (((z9 n 0 lo:Nat):Int),1,z9 n n i-z9 n 0 lo) s):wpAny (model prog w) A (Builtin.Slice.sliceApplied (.ref sl) (pure (n:Int))) Q E s:=by
 obtain⟨os,H,c,a⟩:=id b;unfold Builtin.Slice.sliceApplied Builtin.Slice.sliceFields;refine bM (bM (wpAny_field H a (x:=l) rfl (bM (wpAny_field H a (x:=v) rfl (bM (wpAny_field H a (x:=.none) rfl (bN ?_)))))));refine bM (slicePart_none ?_);show wpAny _ _ (if ((1:Int)==0)=true then _ else _) _ _ s;rw[ao (by decide)]
 refine bM (Tz p (bM (Tz pu (bM (bN ?_)))));show wpAny _ _ (match Builtin.Slice.sliceAdjust lo i 1 (n:Int) with|(lo,i)=>pure (lo,(1:Int),Builtin.Slice.slicePlaces lo i 1)) _ _ s
 rw[LR lo i n];show wpAny _ _ (pure (((z9 n 0 lo:Nat):Int),(1:Int),Builtin.Slice.slicePlaces ((z9 n 0 lo:Nat):Int) ((z9 n n i:Nat):Int) 1)) _ _ s;rw[LX];exact bN h
def FL (xs:Array Value)(i k:Nat):((List.range k).filterMap λ(m:Nat)=>xs[((i:Int)+(m:Int) * 1).toNat]?).toArray=((xs.toList.drop i).take k).toArray:=by
 have e:(λ(m:Nat)=>xs[((i:Int)+(m:Int) * 1).toNat]?)=λm=>xs[i+m]?:=by
  funext m
  have:((i:Int)+(m:Int) * 1).toNat=i+m:=by omega
  rw[this]
 rw[e]
 have:=pick_run xs i k
 rw[List.filterMap_map]at this;have E:((λx=>xs[x]?) ∘ λx=>i+x)=λm=>xs[i+m]?:=rfl;rw[E]at this;rw[this]
def Nj {t sl:Addr}{l v:Value}{lo i:bF}(a:IsTup s.heap t items)(e:s.heap.IsSliceOf sl l v .none)(p:IsPart l lo)(pu:IsPart v i)
  (hw:¬(z9 items.size 0 lo=0/\z9 items.size items.size i=items.size))
  (h:Q (.ref s.heap.objs.size) { s with heap:=s.heap.push { cls:=.type "tuple",data:=.seq ((items.toList.drop (z9 items.size 0 lo)).take (z9 items.size items.size i-z9 items.size 0 lo)).toArray } })
  (z:items.size<=sizeLine):wpAny (model prog w) A (getItem (.ref t) (.ref sl)) Q E s:=by
 have H:sizeOk (.seq ((items.toList.drop (z9 items.size 0 lo)).take (z9 items.size items.size i-z9 items.size 0 lo)).toArray):=by
  show((items.toList.drop (z9 items.size 0 lo)).take (z9 items.size items.size i-z9 items.size 0 lo)).toArray.size<=sizeLine;rw[aq,bp,length_drop,length_toList];omega
 have n:z9 items.size items.size i<=items.size:=Bw _ _ (ak _) i;obtain⟨os,b,c,f⟩:=id e;have d:s.TypeIs (.ref sl) "slice":=⟨os,b,c⟩;unfold getItem
 try with_reducible refine wpAny_holding ?_
 first|refine bM (bN ?_)|skip
 refine bM (wpAny_sequenceKey a.typeIs (by decide) ?_)
 refine bM (wpAny_callSpecial?_slot (name:=Str.ofString "__getitem__") a.typeIs PyProof.Rows.slot_tuple_getitem
  (wpAny_call_entry PyProof.Rows.slot_tuple_getitem a.typeIs entry_tuple_getitem ?_ (args_tuple_getitem _ _)))
 show wpAny _ _ (Builtin.Tuple.tupleItemsOf (.ref t) >>= _) _ _ s;refine bM (tupleItemsOf_ a ?_);refine bM (wpAny_typeOf d ?_);rw[aj (by decide)]
 refine bM (VJ e p pu ?_);have o:¬((((z9 items.size 0 lo:Nat):Int)==0&&(1:Int)==1&&(z9 items.size items.size i-z9 items.size 0 lo)==items.size)=true):=by
  intro q;rw[ag,ag]at q;have j:((z9 items.size 0 lo:Nat):Int)=0:=eq_of_beq q.1.1;have g:z9 items.size items.size i-z9 items.size 0 lo=items.size:=eq_of_beq q.2;exact hw ⟨by omega,by omega⟩
 show wpAny _ _ (if (((z9 items.size 0 lo:Nat):Int)==0&&(1:Int)==1&&(z9 items.size items.size i-z9 items.size 0 lo)==items.size)=true then _ else _) _ _ s;rw[ao o,FL]
 first
  |exact bM (m:=Builtin.Tuple.tupleExact _) (wpAny_newObj_type (bN ⟨_,rfl,bN h⟩) H)
  |exact bM (m:=Builtin.Tuple.tupleExact _) (wpAny_newObj_type (bM (bN (bN ⟨_,rfl,bN h⟩))) H)
  |exact bM (bM (m:=Builtin.Tuple.tupleExact _) (wpAny_newObj_type (bN (bN ⟨_,rfl,bN h⟩)) H))
  |exact bM (bM (m:=Builtin.Tuple.tupleExact _) (wpAny_newObj_type (bN ⟨_,rfl,bN h⟩) H))
end
end HT
namespace L2
open PySem PySem.Spec PyProof.Rows
abbrev TO:=St->Hp->(Option Int->Hp->Prop)->Prop
def PO (X:Cx)(e:Option Expr)(t:TO):Prop:=
 ∀(pins:bz)(s:Shared)(σ:St)(H:Hp)(Q:Option Int->Hp->Prop),Inv X pins σ H s->t σ H Q->
  wpAny (model X.prog X.w) X.A (evalPart e X.env) (λu S=>∃o h,Inv X pins σ h S/\IsPart u o/\Q o h) X.xe s
noncomputable def Et:TO:=λ_ H Q=>Q none H
noncomputable def Ay (t:TE):TO:=λσ H Q=>t σ H λx H1=>∃i,x=.int i/\Q (some i) H1
section
variable {te:TE}{lo hi:Option Expr}{tl th:TO}{p2:Pos}
def Dv:PO X none Et:=by
 intro pins s σ H Q I h;rw[evalPart_none];exact bN ⟨none,H,I,.none,h⟩
def EG (h:PE X e te):PO X (some e) (Ay te):=by
 intro pins s σ H Q I hw;rw[evalPart_some];refine zM (h pins s σ H _ I hw) λu s1 ⟨x,H1,b,r,a⟩=>?_;obtain⟨i,rfl,q⟩:=a;obtain⟨t,rfl⟩:=r;exact⟨some i,H1,b,.int i t,q⟩
def Ye (X:Cx)(r:V->Option Int->Option Int->Hp->VK->Prop):Prop:=
 ∀(pins:bz)(s:Shared)(σ:St)(H:Hp)(x:V)(v l u:Value)(lo hi:bF)(sl:Addr)(Q:VK),Inv X pins σ H s->RelV x v->s.heap.IsSliceOf sl l u .none->IsPart l lo->IsPart u hi->r x lo hi H Q->
  ∃T id,typeLookup (.type T) "__getitem__"=pure (some (.builtin id))/\s.TypeIs v T/\wpAny (model X.prog X.w) X.A (getItem v (.ref sl)) (EP X pins σ Q) X.xe s
noncomputable def cg (r:V->Option Int->Option Int->Hp->VK->Prop)(e:TE)(t T:TO):TE:=λσ H Q=>e σ H λx H1=>t σ H1 λl a=>T σ a λu h=>r x l u h Q
def FY {r:V->Option Int->Option Int->Hp->VK->Prop}(n:Ye X r)(he:PE X e te)(hl:PO X lo tl)(m:PO X hi th):PE X (.Subscript e (.Slice lo hi none p2) pos) (cg r te tl th):=by
 intro pins s σ H Q I h;refine Subscript_ (zM (he pins s σ H _ I h) λv s1 ⟨x,H1,C,f,j⟩=>?_);refine wpAny_Slice (zM (hl pins s1 σ H1 _ C j) λc s2 ⟨l,D,B,p,i⟩=>zM (m pins s2 σ D _ B i) λa s3 ⟨u,d,z,pu,g⟩=>?_);rw[evalPart_none];refine bN ?_;have y:Inv X pins σ d { s3 with heap:=s3.heap.push { cls:=.type "slice",data:=.fields #[c,a,.none] } }:=z.kept (t':=s3.toks) λb ob q=>ae _ q
 obtain⟨T,id,hT,t,o⟩:=n pins { s3 with heap:=s3.heap.push { cls:=.type "slice",data:=.fields #[c,a,.none] } } σ d x v c a l u s3.heap.objs.size Q y f (Heap.IsSliceOf.new ..) p pu g
 show wpAny (model X.prog X.w) X.A (subscriptTail e (.Slice lo hi none p2) v (.ref s3.heap.objs.size)) (EP X pins σ Q) X.xe { s3 with heap:=s3.heap.push { cls:=.type "slice",data:=.fields #[c,a,.none] } }
 exact tail_any (ops:=[.ref s3.heap.objs.size,v]) t hT o (by with_unfolding_all rfl)
noncomputable def wk (xs:List V)(lo h:bF):List V:=(xs.drop (HT.z9 xs.length 0 lo)).take (HT.z9 xs.length xs.length h-HT.z9 xs.length 0 lo)
def Tn (xs:List V)(lo h:bF):(wk xs lo h).length<=xs.length:=by
 unfold wk;rw[bp,length_drop];omega
def AQ (K:Frag):V->Option Int->Option Int->Hp->VK->Prop:=λx lo h H Q=>∃a xs,x=.ref a/\qm K H a xs/\
 ¬(HT.z9 xs.length 0 lo=0/\HT.z9 xs.length xs.length h=xs.length)/\∀p,H p=none->Q (.ref p) (upd H p (.tup (wk xs lo h)))
def Be:Ye X (AQ X.K):=by
 intro pins s σ H x v l u lo c sl Q I d f p pu h;obtain⟨a,xs,rfl,e,hw,q⟩:=h;cases d;obtain⟨i,r,t,z⟩:=I.tuple e;have hlen:i.toArray.size=xs.length:=by rw[aq];exact r.length.symm
 refine⟨"tuple",_,PyProof.Rows.slot_tuple_getitem.lookup,t.typeIs,?_⟩;refine HT.Nj t f p pu (by rw[hlen];exact hw) ?_ (by rw[hlen];exact z)
 rw[hlen];refine⟨.ref s.heap.objs.size,_,I.laid (t':=s.toks) (o:=.tup (wk xs lo c)) (λb ob q=>ae _ q) (ak _) ?_,rfl,q _ (I.hok.fresh (ak _))⟩;exact⟨a3 (Tn xs lo c) z,_,(r.drop (HT.z9 xs.length 0 lo)).take (HT.z9 xs.length xs.length c-HT.z9 xs.length 0 lo),wU.new _ _⟩
def PN (K:Frag):R2:=λx y H Q=>∃a b xs Y,x=.ref a/\y=.ref b/\qm K H a xs/\qm K H b Y/\xs≠[]/\xs.length+Y.length<=sizeLine/\
 (Y=[]->Q (.ref a) H)/\(Y≠[]->∀p,H p=none->Q (.ref p) (upd H p (.tup (xs++Y))))
def Vals.nil_iff (r:Vals xs us):us=[]↔xs=[]:=by
 cases r with
 |nil=>simp|cons _ _=>simp
def F9:qB X (binaryOp .Add) (PN X.K):=by
 intro pins s σ H x y v u Q I f e h;obtain⟨a,b,xs,Y,rfl,rfl,t,n,m,d,j,g⟩:=h;cases f;cases e;obtain⟨l,c,P,_⟩:=I.tuple t;obtain⟨i,r,p,_⟩:=I.tuple n;refine HT.Dm P p (λz=>m (c.nil_iff.mp z)) (λz=>⟨.ref a,H,I,rfl,j (r.nil_iff.mp z)⟩) (λz=>?_) (by rw[<- c.length,<- r.length];exact d)
 refine⟨.ref s.heap.objs.size,_,I.laid (t':=s.toks) (o:=.tup (xs++Y)) (λb ob q=>ae _ q) (ak _) ?_,rfl,g (λw=>z (r.nil_iff.mpr w)) _ (I.hok.fresh (ak _))⟩;exact⟨by rw[aA];exact d,_,c.append r,wU.new _ _⟩
end
noncomputable def k6 (n:Nat)(i:Int):Option Nat:=if 0<=i then(if i<n then some i.toNat else none) else if -(n:Int)<=i then some (i+n).toNat else none
def kh (xs:List α)(i:Int):Option α:=(k6 xs.length i).bind λj=>xs[j]?
def Rb {i:Int}{j:Nat}(h:k6 n i=some j):seqIndex? i n=some j/\j<n/\-(n:Int)<=i/\i<n:=by
 unfold k6 at h
 by_cases h0:0<=i
 ·rw[aj h0]at h
  by_cases h1:i<n
  ·rw[aj h1]at h
   have e:i.toNat=j:=ax h;exact⟨by rw[seqIndex_of h0 h1,e],by omega,by omega,h1⟩
  ·rw[ao h1]at h;cases h
 ·rw[ao h0]at h
  by_cases h1:-(n:Int)<=i
  ·rw[aj h1]at h
   have e:(i+n).toNat=j:=ax h;exact⟨by rw[seqIndex_neg (by omega) h1,e],by omega,h1,by omega⟩
  ·rw[ao h1]at h;cases h
def G1 {xs:List α}{i:Int}{v:α}(h:kh xs i=some v):∃j,seqIndex? i xs.length=some j/\xs[j]? =some v/\j<xs.length/\-(xs.length:Int)<=i/\i<xs.length:=by
 unfold kh at h;cases e:k6 xs.length i with
 |none=>rw[e]at h;cases h|some j=>
  rw[e]at h;obtain⟨c,b,a,H⟩:=Rb e;exact⟨j,c,h,b,a,H⟩
def YV {xs:List α}{j:Nat}{v:α}(h:xs[j]? =some v):kh xs (j:Int)=some v:=by
 have H:j<xs.length:=(bP.mp h).1;have e:k6 xs.length (j:Int)=some j:=by
  unfold k6;rw[aj (by omega),aj (by omega)];simp
 unfold kh;rw[e];exact h
def Rm (b:Expr):Prop:=∀o i,subscripted b false o i=operate [o,i] (getItem o i)
def gM (X:Cx)(r:R2):Prop:=
 ∀(value slice:Expr)(pins:bz)(s:Shared)(σ:St)(H:Hp)(x y:V)(v u:Value)(Q:VK),Inv X pins σ H s->RelV x v->RelV y u->r x y H Q->
  subscripted slice false v u=operate [v,u] (getItem v u)->wpAny (model X.prog X.w) X.A (subscriptTail value slice v u) (EP X pins σ Q) X.xe s
def QS (X:Cx)(id:String)(r:V->List V->Hp->VK->Prop):Prop:=
 ∀(pins:bz)(s:Shared)(σ:St)(H:Hp)(x:V)(xs:List V)(v:Value)(us:bw)(Q:VK),Inv X pins σ H s->RelV x v->Vals xs us->r x xs H Q->
  wpAny (model X.prog X.w) X.A (call (.builtin id) (v::us)) (EP X pins σ Q) X.xe s
section
variable {a b:Expr}{ta tb:TE}
def gM.or {r c:R2}(h:gM X r)(h':gM X c):gM X (λx y H Q=>r x y H Q∨c x y H Q):=by
 intro value slice pins s σ H x y v u Q I b a q d;rcases q with q|q
 ·exact h value slice pins s σ H x y v u Q I b a q d
 ·exact h' value slice pins s σ H x y v u Q I b a q d
def BJ {r:R2}(f:gM X r)(i:PE X a ta)(g:PE X b tb)(e:Rm b):PE X (.Subscript a b pos) (Yd r ta tb):=by
 intro pins s σ H Q I h;exact Subscript_ (XT i g I h λv u s2 x y l j d c q=>f a b pins s2 σ l x y v u Q j d c q (e _ _))
def P2 (K:Frag):R2:=λx y H Q=>∃p xs i v,x=.ref p/\y=.int i/\qF K H p xs/\kh xs i=some v/\Q v H
def Oe (K:Frag):R2:=λx y H Q=>∃p xs i v,x=.ref p/\y=.int i/\qm K H p xs/\kh xs i=some v/\Q v H
def PQ:R2:=λx y H Q=>∃z i c,x=.str z/\y=.int i/\z.length<=sizeLine/\kh z.cps.toList i=some c/\Q (.str ⟨#[c]⟩) H
def Dy:gM X (P2 X.K):=by
 intro value slice pins s σ H x y v u Q I g f h e;obtain⟨p,xs,i,z,rfl,rfl,l,he,q⟩:=h;cases g;obtain⟨t,rfl⟩:=f;obtain⟨c,r,P,A⟩:=I.list l;obtain⟨j,a,o,B,n,m⟩:=G1 he;obtain⟨w,E,b⟩:=r.get o;have hl:=r.length;have hn:=ZR;have fin:EP X pins σ Q w s:=⟨z,H,I,b,q⟩
 by_cases h0:0<=i
 ·have d:i.toNat=j:=by
   rw[seqIndex_of h0 m]at a;exact ax a
  exact item_listR P.isList h0 (by omega) (by rw[d];simpa using E) fin e
 ·have d:(i+(c.toArray.size:Int)).toNat=j:=by
   rw[seqIndex_neg (by omega) n]at a
   rw[aq,<- hl];exact ax a
  exact subscriptTail_builtinR (x:=w) P.isList.typeIs slot_list_getitem.lookup
   (wpAny_getItem_list_neg (Q:=λr S=>r=w/\EP X pins σ Q r S) P.isList (by omega) (by rw[aq]<;>omega) (by omega) (by rw[d];simpa using E) ⟨rfl,fin⟩) e
def CC:gM X (Oe X.K):=by
 intro value slice pins s σ H x y v u Q I c b h e;obtain⟨p,xs,i,z,rfl,rfl,f,he,q⟩:=h;cases c;obtain⟨t,rfl⟩:=b;obtain⟨d,r,P,m⟩:=I.tuple f;obtain⟨j,l,g,A,o,n⟩:=G1 he;obtain⟨w,E,a⟩:=r.get g;have hl:=r.length;have hn:=ZR;have fin:EP X pins σ Q w s:=⟨z,H,I,a,q⟩;exact subscriptTail_builtinR (x:=w) P.typeIs slot_tuple_getitem.lookup
  (getItem_tuple (j:=j) (Q:=λr S=>r=w/\EP X pins σ Q r S) P (by omega) (by omega) (by rw[aq,<- hl];exact l) (by simpa using E) ⟨rfl,fin⟩) e
def C3:gM X PQ:=by
 intro value slice pins s σ H x y v u Q I b r h d;obtain⟨z,i,c,rfl,rfl,m,he,q⟩:=h;obtain⟨t,rfl⟩:=b;obtain⟨t',rfl⟩:=r;obtain⟨j,a,g,n,f,e⟩:=G1 he;have hl:z.cps.toList.length=z.length:=by simp[Str.length]
 rw[hl]at a f e;have hn:=ZR;exact tail_any (typeIs_str s z t) slot_str_getitem.lookup (getItem_str (c:=c) (by
  have l:decide (i < -(2 ^ 63:Int))=false:=aG (by omega)
  have E:decide (i ≥ 2 ^ 63)=false:=aG (by omega)
  rw[l,E,Bool.or_false]) (by rw[a];simpa using g) ⟨.str ⟨#[c]⟩,H,I.tok _,⟨_,rfl⟩,q⟩) d
def OE (K:Frag):R2:=λx y H Q=>P2 K x y H Q∨Oe K x y H Q∨PQ x y H Q
def D1:gM X (OE X.K):=Dy.or (CC.or C3)
def Ic (i:bw)(n j:Nat)(u:Value):Obj.mapSeq (·.setIfInBounds j u) { cls:=.type "list",data:=.seq i.toArray n }={ cls:=.type "list",data:=.seq (i.set j u).toArray n }:=by
 simp[Obj.mapSeq]
theorem Inv.lst {pins:bz}{σ:St}{H:Hp}{s:Shared}{p:Addr}{xs:List V}(I:Inv X pins σ H s)(h:H p=some (.lst xs)):
  ∃(i:bw) (n:Nat),Vals xs i/\s.heap.get? p=some { cls:=.type "list",data:=.seq i.toArray n }/\xs.length<=sizeLine:=by
 obtain⟨z,i,n,r,e⟩:=I.hok p _ h;exact⟨i,n,r,e,z⟩
def Inv.lstUpd {p:Addr}{its':bw}{N:Nat}{f:Obj->Obj}(I:Inv X pins σ H s)(h:H p=some (.lst xs))
  (ho:s.heap.get? p=some { cls:=.type "list",data:=.seq its.toArray n })(hf:f { cls:=.type "list",data:=.seq its.toArray n }={ cls:=.type "list",data:=.seq its'.toArray N })(r:Vals ys its')(z:ys.length<=sizeLine)(t:Nat):
  Inv X pins σ (upd H p (.lst ys)) { s with heap:=s.heap.update p f,toks:=t }:=by
 have e:(s.heap.update p f).get? p=some { cls:=.type "list",data:=.seq its'.toArray N }:=by
  rw[Heap.get?_update_self f ho (by rw[hf]<;>rfl),hf]
 refine I.write (x:=p) (e:=p) (by rw[h];trivial) (.inl rfl) (λb u a q=>(Heap.get?_update_other _ _ (Ne.symm a)).trans q) ⟨_,e⟩ ?_
 exact⟨z,its',N,r,e⟩
def PJ:V->V->V->Hp->(Hp->Prop)->Prop:=λo i v H Q=>∃p xs k j,o=.ref p/\i=.int k/\H p=some (.lst xs)/\k6 xs.length k=some j/\Q (upd H p (.lst (xs.set j v)))
def set_list:Kz X PJ:=by
 intro pins s σ H o i v ov x u Q I ro m l h;obtain⟨p,xs,k,j,rfl,rfl,d,w,q⟩:=h;cases ro;obtain⟨t,rfl⟩:=m;obtain⟨a,n,r,ho,z⟩:=I.lst d;obtain⟨b,y,f,e⟩:=Rb w;have hl:=r.length;have hn:=ZR;have g:Inv X pins σ (upd H p (.lst (xs.set j v))) { s with heap:=s.heap.update p (Obj.mapSeq (·.setIfInBounds j u)) }:=
  I.lstUpd d ho (Ic a n j u) (r.set l j) (by rw[List.length_set];exact z) s.toks
 by_cases h0:0<=k
 ·have c:k.toNat=j:=by
   rw[seqIndex_of h0 e]at b;exact ax b
  exact PySem.W.ki_setAt ho h0 (by omega) (by rw[aq,<- hl];exact e) (by rw[c];exact⟨_,g,q⟩)
 ·have c:(k+(a.toArray.size:Int)).toNat=j:=by
   rw[seqIndex_neg (by omega) f]at b
   rw[aq,<- hl];exact ax b
  exact PySem.W.ki_setBack ho (by omega) (by rw[aq,<- hl];exact f) (by omega) (by rw[c];exact⟨_,g,q⟩)
def M6 (lo H:bF)(n:Nat):(sliceBounds lo H none n).1=((HT.z9 n 0 lo:Nat):Int)/\(sliceBounds lo H none n).2.1=((HT.z9 n n H:Nat):Int)/\(sliceBounds lo H none n).2.2=1:=by
 refine⟨?_,?_,rfl⟩
 ·cases lo with
  |none=>simp[sliceBounds,HT.z9]|some i=>
   simp only[sliceBounds,HT.z9,getD_none,show(1:Int) > 0 by decide,if_true]
   by_cases h:i<0
   ·simp only[h,if_true]<;>omega
   ·simp only[h,if_false]<;>omega
 ·cases H with
  |none=>simp[sliceBounds,HT.z9]|some i=>
   simp only[sliceBounds,HT.z9,getD_none,show(1:Int) > 0 by decide,if_true]
   by_cases h:i<0
   ·simp only[h,if_true]<;>omega
   ·simp only[h,if_false]<;>omega
def N8 (i:bw)(lo h:bF):slicePick i.toArray lo h none=((i.drop (HT.z9 i.length 0 lo)).take (HT.z9 i.length i.length h-HT.z9 i.length 0 lo)).toArray:=by
 obtain⟨b,a,H⟩:=M6 lo h i.toArray.size;unfold slicePick;rw[b,a,H];simp only[sliceRange_one,pick_run,aq]<;>rfl
def P9 (K:Frag):V->Option Int->Option Int->Hp->VK->Prop:=λx lo h H Q=>∃a xs,x=.ref a/\qF K H a xs/\∀p,H p=none->Q (.ref p) (upd H p (.lst (wk xs lo h)))
def Dr:Ye X (P9 X.K):=by
 intro pins s σ H x v l u lo i sl Q I c f p pu h;obtain⟨a,xs,rfl,e,q⟩:=h;cases c;obtain⟨d,r,t,z⟩:=I.list e;have hlen:=r.length;refine⟨"list",_,slot_list_getitem.lookup,t.isList.typeIs,?_⟩;refine wpAny_getItem_list_slice t.isList f p pu .none (by simp) ?_ (by rw[aq]<;>omega)
 rw[N8,<- hlen];refine⟨.ref s.heap.objs.size,_,I.laid (t':=s.toks) (o:=.lst (wk xs lo i)) (λb ob q=>ae _ q) (ak _) ?_,rfl,q _ (I.hok.fresh (ak _))⟩;exact⟨a3 (Tn xs lo i) z,_,0,(r.drop (HT.z9 xs.length 0 lo)).take (HT.z9 xs.length xs.length i-HT.z9 xs.length 0 lo),av _ rfl⟩
noncomputable def yK:V->Bool
 |.non=>true|.bl _=>true|.int _=>true|.str _=>true|_=>false
noncomputable def kF:V->V->Bool
 |.non,.non=>true|.bl a,.bl b=>a==b|.bl a,.int b=>(if a then 1 else 0)==b|.int a,.bl b=>a==(if b then 1 else 0)|.int a,.int b=>a==b|.str a,.str b=>a==b|_,_=>false
def CF {A:Around}{y x:V}{v:Value}(c:RelV y u)(r:RelV x v)(d:yK y=true)(f:yK x=true):SeqAt.EqAt A s u v (kF y x):=by
 cases y with
 |non=>
  cases c;cases x with
  |non=>cases r;exact SeqAt.EqAt.same _|bl b=>cases r;exact SeqAt.EqAt.none_bool b|int b=>obtain⟨t,rfl⟩:=r;exact SeqAt.EqAt.none_int b t|str b=>obtain⟨t,rfl⟩:=r;exact SeqAt.EqAt.none_str b t|_=>exact absurd (show false=true from f) au
 |bl a=>
  cases c;cases x with
  |non=>cases r;exact SeqAt.EqAt.bool_none a|bl b=>cases r;exact SeqAt.EqAt.bool_bool a b|int b=>obtain⟨t,rfl⟩:=r;exact SeqAt.EqAt.bool_int a b t|str b=>obtain⟨t,rfl⟩:=r;exact SeqAt.EqAt.bool_str a b t|_=>exact absurd (show false=true from f) au
 |int a=>
  obtain⟨t',rfl⟩:=c;cases x with
  |non=>cases r;exact SeqAt.EqAt.int_none a t'|bl b=>cases r;exact SeqAt.EqAt.int_bool a t' b|int b=>obtain⟨t,rfl⟩:=r;exact SeqAt.EqAt.int_int a t' b t|str b=>obtain⟨t,rfl⟩:=r;exact SeqAt.EqAt.int_str a t' b t|_=>exact absurd (show false=true from f) au
 |str a=>
  obtain⟨t',rfl⟩:=c;cases x with
  |non=>cases r;exact SeqAt.EqAt.str_none a t'|bl b=>cases r;exact SeqAt.EqAt.str_bool a t' b|int b=>obtain⟨t,rfl⟩:=r;exact SeqAt.EqAt.str_int a t' b t|str b=>obtain⟨t,rfl⟩:=r;exact SeqAt.EqAt.str_str a t' b t|_=>exact absurd (show false=true from f) au
 |_=>exact absurd (show false=true from d) au
def yB (x:V)(u:Value):Bool:=match u with
 |.none=>kF .non x|.bool b=>kF (.bl b) x|.int i _=>kF (.int i) x|.str z _=>kF (.str z) x|_=>false
def G7 {x y:V}(r:RelV y u)(f:yK y=true):yB x u=kF y x:=by
 cases y with
 |non=>cases r;rfl|bl b=>cases r;rfl|int i=>obtain⟨t,rfl⟩:=r;rfl|str z=>obtain⟨t,rfl⟩:=r;rfl|_=>exact absurd (show false=true from f) au
theorem Jx {x:V}:∀{xs:List V}{us:bw},Vals xs us->xs.all yK=true->us.any (yB x)=xs.any λy=>kF y x
 |_,_,.nil,_=>rfl|y::xs,u::us,.cons r t,f=>by
  rw[all_cons,ag]at f;rw[any_cons,any_cons,G7 r f.1,Jx t f.2]
theorem ZF {A:Around}{x:V}{v:Value}(a:RelV x v)(b:yK x=true):∀{xs:List V}{us:bw},Vals xs us->xs.all yK=true->∀u∈us,SeqAt.EqAt A s u v (yB x u)
 |_,_,.nil,_=>λu h=>by cases h|y::xs,u::us,.cons r t,f=>λU h=>by
  rw[all_cons,ag]at f;rcases bQ.mp h with rfl|h
  ·rw[G7 r f.1];exact CF r a f.1 b
  ·exact ZF a b t f.2 U h
def Wh (x:V)(xs:List V):Bool:=xs.any λy=>kF y x
def Vn (K:Frag)(neg:Bool):R2:=λx y H Q=>∃p xs,y=.ref p/\(qF K H p xs∨qm K H p xs)/\yK x=true/\xs.all yK=true/\Q (.bl (if neg then !Wh x xs else Wh x xs)) H
def IH:qB X (compareOp .In) (Vn X.K false):=by
 intro pins s σ H x y v u Q I b c h;obtain⟨p,xs,rfl,a,f,fs,q⟩:=h;cases c;rcases a with a|a
 ·obtain⟨i,r,P,z⟩:=I.list a
  refine SeqAt.in_listAt (yB x) P.isList (λw hw=>ZF b f r fs w (by simpa using hw)) ⟨.bl _,H,I,rfl,?_⟩
  rw[show i.toArray.any (yB x)=i.any (yB x) by simp,Jx r fs]
  exact q
 ·obtain⟨i,r,P,z⟩:=I.tuple a
  refine SeqAt.in_tupleAt (yB x) P (λw hw=>ZF b f r fs w (by simpa using hw)) ⟨.bl _,H,I,rfl,?_⟩
  rw[show i.toArray.any (yB x)=i.any (yB x) by simp,Jx r fs]
  exact q
def M7:qB X (compareOp .NotIn) (Vn X.K true):=by
 intro pins s σ H x y v u Q I b c h;obtain⟨p,xs,rfl,a,f,fs,q⟩:=h;cases c;rcases a with a|a
 ·obtain⟨i,r,P,z⟩:=I.list a
  refine SeqAt.notIn_listAt (yB x) P.isList (λw hw=>ZF b f r fs w (by simpa using hw)) ⟨.bl _,H,I,rfl,?_⟩
  rw[show i.toArray.any (yB x)=i.any (yB x) by simp,Jx r fs]
  exact q
 ·obtain⟨i,r,P,z⟩:=I.tuple a
  refine SeqAt.notIn_tupleAt (yB x) P (λw hw=>ZF b f r fs w (by simpa using hw)) ⟨.bl _,H,I,rfl,?_⟩
  rw[show i.toArray.any (yB x)=i.any (yB x) by simp,Jx r fs]
  exact q
def MR:j9 X (.builtin "len") (λxs H Q=>∃p y,xs=[.ref p]/\(qF X.K H p y∨qm X.K H p y)/\Q (.int y.length) H):=by
 intro pins s σ H xs us Q I r h;obtain⟨p,y,rfl,a,q⟩:=h;obtain⟨u,rfl,x⟩:=vals1 r;cases x;have hn:=ZR;rcases a with a|a
 ·obtain⟨i,b,P,z⟩:=I.list a
  have hlen:=b.length;exact Calls.call_len_list P.isList (by simp only[aq]<;>omega) ⟨.int y.length,H,I.tok _,⟨s.toks+1,by rw[aq,hlen]⟩,q⟩
 ·obtain⟨i,b,P,z⟩:=I.tuple a
  have hlen:=b.length;exact len_tuple P (by simp only[aq]<;>omega) ⟨.int y.length,H,I.tok _,⟨s.toks+1,by rw[aq,hlen]⟩,q⟩
def MC:j9 X (.type "tuple") (λxs H Q=>∃p y,xs=[.ref p]/\((qF X.K H p y/\∀l,H l=none->Q (.ref l) (upd H l (.tup y)))∨(qm X.K H p y/\Q (.ref p) H))):=by
 intro pins s σ H xs us Q I r h;obtain⟨p,y,rfl,h⟩:=h;obtain⟨u,rfl,x⟩:=vals1 r;cases x;rcases h with ⟨c,q⟩|⟨c,q⟩
 ·obtain⟨i,a,P,z⟩:=I.list c
  have hlen:=a.length;refine call_tuple_list P.isList (λh' kp=>?_) (by simp only[aq]<;>omega)
  have d:Inv X pins σ H { s with heap:=h' }:=I.kept (t':=s.toks) kp
  have f:Inv X pins σ (upd H h'.objs.size (.tup y)) { s with heap:=h'.push { cls:=.type "tuple",data:=.seq i.toArray } }:=
   d.laid (t':=s.toks) (λb o e=>ae _ e) (ak _) (show jA X.prog X.w _ _ _ (.tup y) from ⟨z,i,a,wU.new _ _⟩)
  exact⟨.ref h'.objs.size,_,f,rfl,q _ (d.hok.fresh (ak _))⟩
 ·obtain⟨i,a,P,z⟩:=I.tuple c
  exact call_tuple_same P ⟨.ref p,H,I,rfl,q⟩
def We (K:Frag)(T:String)(x:V)(H:Hp):Prop:=match x with
 |.str _=>T = "str"
 |.int _=>T = "int"
 |.ref p=>(T = "list" /\ ∃xs,qF K H p xs)∨(T = "tuple" /\ ∃o,K.lookup p=some o/\o.cls=.type "tuple" /\ o.dict=none)∨
   (T = "dict" /\ ((∃kvs,H p=some (.dK kvs))∨∃kvs,H p=some (.dT kvs)))∨(T = "set" /\ ∃S n,H p=some (.set S n))
 |_=>False
def Bi {T:String}{x:V}{v:Value}(I:Inv X pins σ H s)(r:RelV x v)(ty:We X.K T x H):
  s.TypeIs v T/\∀a,v=.ref a->∃ob,s.heap.get? a=some ob/\ob.dict=none:=by
 cases x with
 |str z=>
  obtain⟨t,rfl⟩:=r;cases (show T = "str" from ty)
  exact⟨typeIs_str s z t,λ_ e=>nomatch e⟩
 |int i=>
  obtain⟨t,rfl⟩:=r;cases (show T = "int" from ty)
  exact⟨typeIs_int s i t,λ_ e=>nomatch e⟩
 |ref p=>
  cases r;rcases ty with ⟨rfl,xs,q⟩|⟨rfl,o,h,d,hd⟩|⟨rfl,h⟩|⟨rfl,S,n,h⟩
  ·obtain⟨b,_,P,_⟩:=I.list q
   refine⟨P.isList.typeIs,λa e=>?_⟩;cases e;obtain⟨o,n,e,c,hd,_⟩:=P;exact⟨o,e,hd⟩
  ·refine⟨⟨o,I.kIn p o h,d⟩,λa e=>?_⟩
   cases e;exact⟨o,I.kIn _ o h,hd⟩
  ·have z:∃o,s.heap.get? p=some o/\o.ExactDict:=by
    rcases h with ⟨kvs,h⟩|⟨kvs,h⟩
    ·obtain⟨_,_,_,_,o,_,_,e,ex,_⟩:=I.hok p _ h
     exact⟨o,e,ex⟩
    ·obtain⟨_,_,_,_,o,_,_,e,ex,_⟩:=I.hok p _ h
     exact⟨o,e,ex⟩
   obtain⟨o,e,ex⟩:=z;refine⟨⟨o,e,ex.1⟩,λa E=>?_⟩;cases E;exact⟨o,e,ex.2.1⟩
  ·obtain⟨o,_,_,_,e,ex,_⟩:=I.hok p _ h
   refine⟨⟨o,e,ex.1⟩,λa E=>?_⟩;cases E;exact⟨o,e,ex.2.1⟩
 |_=>exact False.elim ty
noncomputable def cj (K:Frag)(T:String)(r:V->List V->Hp->VK->Prop)(to:TE)(t:TA):TE:=λσ H Q=>to σ H λx H1=>We K T x H1/\t σ H1 λxs h=>r x xs h Q
variable {o:Expr}{es:bE}{to:TE}{t:TA}{name:Str}{T id:String}{r:V->List V->Hp->VK->Prop}
def Pp (p:PlainAttrs T)(slot:Slot T name id)(y:typeOf (.builtin id)=pure (.type "method_descriptor"))(hm:QS X id r)(ho:PE X o to)(j:PA X (e::es) t)
  (b:attributeBase o name X.env (eval o X.env)=eval o X.env:=by rfl)
  (w:((backTo cpos (starEach (e::es) X.env)).all (λx=>!x.1)&&(backToKw cpos (keywordEach [] X.env)).all (λx=>x.1.isSome)
   && decide ((e::es).length+([]:bJ).length+(if ([]:bJ).isEmpty then 0 else 1)<30))=true:=by rfl)
  (a:(apos.endLine==cpos.line)=true:=by rfl)(g:starEach (e::es) X.env=(false,eval e X.env)::starEach es X.env:=by rfl)(n:(backTo cpos (starEach es X.env)).any (·.1)=false:=by rfl):
  PE X (.Call (.Attribute o name apos) (e::es) [] cpos) (cj X.K T r to t):=by
 intro pins s σ H Q I h;refine wpAny_Call_method_late b w a rfl (zM (ho pins s σ H _ I h) λv s1 ⟨x,H1,i,c,ty,f⟩=>?_);obtain⟨m,l⟩:=Bi i c ty;refine⟨T,id,p,slot,y,m,l,?_⟩;have A:=j cpos pins s1 σ H1 _ i f;rw[g]at A ⊢;refine Calls.callWith_builtin (by show(false || (backTo cpos (starEach es X.env)).any (·.1))=false;rw[n]<;>rfl) (Calls.evalArgs_plain ?_)
 exact zM A λus s2 ⟨vs,z,u,d,q⟩=>hm pins s2 σ z x vs v us Q u c d q
end
def Vd (X:Cx)(id:String)(r:V->List V->Hp->VK->Prop):Prop:=
 ∀(pins:bz)(s:Shared)(σ:St)(H:Hp)(x:V)(xs:List V)(v:Value)(us:bw)(Q:VK),Inv X pins σ H s->RelV x v->Vals xs us->r x xs H Q->
  wpAny (model X.prog X.w) X.A (call (.builtin id) (v::us)) (EP X pins σ Q) X.xe s
def Vals.one {x:V}(h:Vals [x] us):∃u,us=[u]/\RelV x u:=by
 cases h with
 |cons r t=>cases t;exact⟨_,rfl,r⟩
def Vals.two {x y:V}(h:Vals [x,y] us):∃u v,us=[u,v]/\RelV x u/\RelV y v:=by
 cases h with
 |cons r t=>exact(Vals.one t).elim λv e=>⟨_,v,by rw[e.1],r,e.2⟩
theorem Vals.eraseIdx:∀{xs:List V}{us:bw}(i:Nat),Vals xs us->Vals (xs.eraseIdx i) (us.eraseIdx i)
 |_,_,_,.nil=>.nil|_,_,0,.cons _ t=>t|_,_,i+1,.cons r t=>.cons r (Vals.eraseIdx i t)
theorem Vals.rep (h:Vals xs us):∀k:Nat,Vals (List.replicate k xs).flatten (List.replicate k us).flatten
 |0=>.nil|k+1=>by
  rw[a4,a4,aZ,aZ];exact Vals.append h (Vals.rep h k)
theorem T5:∀(l:List α)(i:Nat),(l.eraseIdx i).length<=l.length
 |[],_=>ak _|_::_,0=>Nat.le_succ _|_::r,i+1=>Nat.succ_le_succ (T5 r i)
theorem foldl_rep (i:bw):∀(k:Nat)(acc:bw),
  List.foldl (λx1 x2=>x1++x2) acc.toArray (List.replicate k i.toArray)=(acc++(List.replicate k i).flatten).toArray
 |0,acc=>by simp|k+1,acc=>by
  have e:acc.toArray++i.toArray=(acc++i).toArray:=by simp
  have E:(acc++i)++(List.replicate k i).flatten=acc++(List.replicate (k+1) i).flatten:=by
   rw[a4,aZ,aP]
  rw[<- E,<- foldl_rep i k (acc++i),<- e,a4,List.foldl_cons]
section
variable {l:Addr}
def Inv.lset {its':bw}{f:Array Value->Array Value}(I:Inv X pins σ H s)(c:H l=some (.lst xs))
  (e:s.heap.get? l=some { cls:=.type "list",data:=.seq its.toArray n })(hf:f its.toArray=its'.toArray)(v:Vals ys its')(h:ys.length<=sizeLine):
  Inv X pins σ (upd H l (.lst ys)) { s with heap:=s.heap.update l (Obj.mapSeq f),toks:=t' }:=by
 have q:=PySem.IsL.update e f;rw[hf]at q;refine I.write (x:=l) (e:=l) (by rw[c];exact trivial) (.inl rfl) (λB u b a=>(Heap.get?_update_other s.heap (Obj.mapSeq f) (Ne.symm b)).trans a) ⟨_,q⟩ ?_
 exact⟨h,its',_,v,q⟩
def Inv.lnew (I:Inv X pins σ H s)(v:Vals ys its)(h:ys.length<=sizeLine):
  Inv X pins σ (upd H s.heap.objs.size (.lst ys)) { s with heap:=s.heap.push { cls:=.type "list",data:=.seq its.toArray },toks:=t' }:=
 I.laid (λ_ _ q=>ae _ q) (ak _) ⟨h,its,0,v,av _ rfl⟩
theorem Inv.fresh (I:Inv X pins σ H s):H s.heap.objs.size=none:=I.hok.fresh (ak _)
def Inv.lstM (I:Inv X pins σ H s)(h:H l=some (.lst xs)):xs.length<=sizeLine/\∃(i:bw) (n:Nat),Vals xs i/\xs.length=i.length/\s.heap.get? l=some { cls:=.type "list",data:=.seq i.toArray n }:=by
 obtain⟨z,i,n,r,e⟩:=I.hok l _ h;exact⟨z,i,n,r,r.length,e⟩
def Sy (h:n<=sizeLine):Builtin.List.listTooLong n=false:=by
 unfold Builtin.List.listTooLong;exact aG (by omega)
end
section
def Eb:V->List V->Hp->VK->Prop:=λx vs H Q=>∃l xs y,x=.ref l/\vs=[y]/\H l=some (.lst xs)/\xs.length<sizeLine/\Q .non (upd H l (.lst (xs++[y])))
def TR:Vd X "list.append" Eb:=by
 intro pins s σ H x vs v us Q I b c h;obtain⟨l,xs,y,rfl,rfl,a,f,q⟩:=h;cases b;obtain⟨u,rfl,d⟩:=c.one;obtain⟨z,i,n,r,hl,e⟩:=I.lstM a;refine call_meets F.slot_list_append ⟨_,e,rfl⟩ F.entry_list_append (F.args_list_append_2 _ _) (PySem.list_append l i.toArray n u (by rw[aq];omega)) ⟨e,?_⟩
 refine⟨.non,_,I.lset (its':=i++[u]) a e (by simp) (r.append (.cons d .nil)) ?_,rfl,q⟩
 rw[aA,aV];omega
def Ep:V->List V->Hp->VK->Prop:=λx vs H Q=>∃l b xs zs,x=.ref l/\vs=[.ref b]/\H l=some (.lst xs)/\H b=some (.lst zs)/\xs.length+zs.length<=sizeLine/\Q .non (upd H l (.lst (xs++zs)))
def IY:Vd X "list.extend" Ep:=by
 intro pins s σ H x vs v us Q I f j h;obtain⟨l,b,xs,zs,rfl,rfl,d,B,t,q⟩:=h;cases f;obtain⟨u,rfl,m⟩:=j.one;cases m;obtain⟨z,a,n,r,hl,e⟩:=I.lstM d;obtain⟨Z,i,N,o,p,E⟩:=I.lstM B;have c:a.toArray.size+i.toArray.size<=sizeLine:=by rw[aq,aq];omega
 have g:¬(!a.toArray.isEmpty&&Builtin.List.listTooLong (a.toArray.size+i.toArray.size))=true:=by
  rw[Sy c,Bool.and_false];exact au
 refine call_meets F.slot_list_extend ⟨_,e,rfl⟩ F.entry_list_extend (F.args_list_extend_2 _ _)
  (AutoSeq1.list_extend_list_list_0 l a.toArray n b i.toArray N g (by rw[aq];omega) (by omega)) ⟨e,E,?_⟩
 refine⟨.non,_,I.lset (its':=a++i) d e (by simp) (r.append o) ?_,rfl,q⟩
 rw[aA];omega
def CB:V->List V->Hp->VK->Prop:=λx vs H Q=>∃l xs i k y,x=.ref l/\vs=[.int i]/\H l=some (.lst xs)/\-(2 ^ 63)<=i/\i<2 ^ 63/\seqIndex? i xs.length=some k/\xs[k]? =some y/\Q y (upd H l (.lst (xs.eraseIdx k)))
def FG:Vd X "list.pop" CB:=by
 intro pins s σ H x vs v us Q I d f h;obtain⟨l,xs,i,k,y,rfl,rfl,c,p,o,m,j,q⟩:=h;cases d;obtain⟨u,rfl,g⟩:=f.one;obtain⟨t,rfl⟩:=g;obtain⟨z,a,n,r,hl,e⟩:=I.lstM c;obtain⟨w,hw,b⟩:=r.get j;refine call_meets F.slot_list_pop ⟨_,e,rfl⟩ F.entry_list_pop (F.args_list_pop_2 _ _)
  (MeetsSeq.list_pop_at l a.toArray n i t k w (fitsIndex_both p o) (by rw[aq,<- hl];exact m) (by rw[<- Array.getElem?_toList];exact hw) (by rw[aq];omega)) ⟨e,?_⟩
 refine⟨y,_,I.lset (its':=a.eraseIdx k) c e ?_ (r.eraseIdx k) ?_,b,q⟩
 ·show a.toArray.eraseIdxIfInBounds k=(a.eraseIdx k).toArray
  rw[List.eraseIdxIfInBounds_toArray]
 ·have:=T5 xs k
  omega
def PR:R2:=λx y H Q=>∃l b xs zs,x=.ref l/\y=.ref b/\H l=some (.lst xs)/\H b=some (.lst zs)/\xs.length+zs.length<=sizeLine/\∀p,H p=none->Q (.ref p) (upd H p (.lst (xs++zs)))
def C1:qB X (binaryOp .Add) PR:=by
 intro pins s σ H x y v u Q I d c h;obtain⟨l,b,xs,zs,rfl,rfl,j,B,o,q⟩:=h;cases d;cases c;obtain⟨z,a,n,r,hl,e⟩:=I.lstM j;obtain⟨Z,i,N,f,g,m⟩:=I.lstM B;refine PySem.P.add_list e m ?_ (by rw[aq,aq];omega)
 have E:a.toArray++i.toArray=(a++i).toArray:=by simp
 rw[E];exact⟨.ref _,_,I.lnew (t':=s.toks) (r.append f) (by rw[aA];omega),rfl,q _ I.fresh⟩
def P0:R2:=λx y H Q=>∃l k xs,x=.ref l/\y=.int k/\H l=some (.lst xs)/\-(2 ^ 63)<=k/\k<2 ^ 63/\xs.length * k.toNat<=sizeLine/\
 ∀p,H p=none->Q (.ref p) (upd H p (.lst (List.replicate k.toNat xs).flatten))
def len_rep (xs:List α)(k:Nat):(List.replicate k xs).flatten.length=k * xs.length:=by
 induction k with
 |zero=>simp|succ k i=>rw[a4,aZ,aA,i,Nat.succ_mul,add_comm]
def Cp:qB X (binaryOp .Mult) P0:=by
 intro pins s σ H x y v u Q I f d h;obtain⟨l,k,xs,rfl,rfl,j,A,o,c,q⟩:=h;cases f;obtain⟨t,rfl⟩:=d;obtain⟨z,i,n,r,hl,e⟩:=I.lstM j;have hlen:i.toArray.size * k.toNat<=sizeLine:=by rw[aq,<- hl];exact c
 have p:¬i.toArray.size * k.toNat > (2 ^ 63-1)/8:=by
  have:(sizeLine:Nat)<=(2 ^ 63-1)/8:=by decide
  omega
 have b:¬(!Builtin.List.listFitsIndex k)=true:=by
  rw[fitsIndex_both A o];exact au
 have g:¬Builtin.List.listTooLong (i.toArray.size * k.toNat)=true:=by
  rw[Sy hlen];exact au
 have w:List.foldl (λx1 x2=>x1++x2) #[] (List.replicate (if i.toArray.isEmpty=true then 0 else k.toNat) i.toArray)=(List.replicate k.toNat i).flatten.toArray:=by
  have f0:∀m:Nat,List.foldl (λx1 x2=>x1++x2) #[] (List.replicate m i.toArray)=(List.replicate m i).flatten.toArray:=λm=>by
   have:=foldl_rep i m []
   rw[bb]at this;exact this
  rw[f0];cases i with
  |nil=>simp|cons a B=>rw[ao (by simp)]
 refine wpAny_binaryOp_repeat_ref (T := "list") (U := "int") (by decide) ⟨_,e,rfl⟩ (λS=>typeIs_int S k t) noFill_list_mul F.fills_int_mul F.slot_int_rmul repeat_list F.slot_int_index.lookup
  (call_meets F.slot_int_rmul (typeIs_int s k t) F.entry_int_rmul (F.args_int_rmul_2 _ _) (int___rmul___int_list k t l i.toArray n)
   ⟨e,rfl,⟨_,e,rfl⟩,call_meets F.slot_list_mul ⟨_,e,rfl⟩ F.entry_list_mul (F.args_list_mul_2 _ _) (AutoListH.list___mul___list_int_3 l i.toArray n k t b p g) ⟨e,?_⟩⟩)
 rw[w];exact⟨.ref _,_,I.lnew (t':=s.toks) (r.rep k.toNat) (by rw[len_rep,Nat.mul_comm];exact c),rfl,q _ I.fresh⟩
end
section
set_option maxRecDepth 100000 in
end
end L2
namespace Att
open PySem PySem.W PySem.Calls PyProof.Rows
def NM {P:Params}:∀(ns:bt)(vs:bw),WellAll P h vs (ns.map WData.int)->IntsAre vs ns:=by
 intro ns
 induction ns with
 |nil=>
  intro vs w;rw[map_nil]at w;cases w;exact .nil
 |cons n ns i=>
  intro vs w;rw[aS]at w;cases w with
  |cons a b=>
   cases a;exact .cons _ _ (i _ b)
def Ip {l:OpenLaw}(hn:l.most=some n){P:Params}{args:List WData}{vals:bw}
  (H:l.row.toRowW.claim.pre args=true)(f:WellAll P h vals args):
  ∃a vs ns,vals=[Value.ref a]/\args=[WData.list (ns.map WData.int)]/\h.get? a=some { cls:=.type "list",data:=.seq vs.toArray }/\IntsAre vs ns/\ns.length<=n:=by
 have g:WShape.hasAll [] args [.list .int]=true:=(pre_splitW H).1;have i:l.pre.holds [] { args:=args }=true:=(pre_splitW H).2;obtain⟨d,r,rfl,p,o⟩:=hasAllW_cons g;obtain rfl:=hasAllW_nil o;obtain⟨xs,rfl,m⟩:=hasW_list p;obtain⟨ns,rfl⟩:=items_int m;have hlen:ns.length<=n:=by
  unfold OpenLaw.pre at i;have e:(WTm.not (.lt (.lit (.int (n:Int))) (.len (.arg 0)))).holds [] { args:=[.list (ns.map .int)] }=true:=by
   have e:=(holds_andW i).1;rw[hn]at e;exact e
  have c:=condW_of e (w_not (w_lt w_lit (w_len_list (w_arg rfl))));rw[ai]at c;refine Nat.le_of_not_lt λq=>?_;have Q:(n:Int)<((ns.length:Nat):Int):=by omega
  first
   |(rw[aC Q]at c;exact absurd c (by decide))
   |(simp at c;omega)
 cases f with
 |cons j w=>
  cases w;cases j with
  |list ho b=>exact⟨_,_,ns,rfl,rfl,ho,NM ns _ b,hlen⟩
def IZ (l:OpenLaw)(args:List WData):l.row.toRowW.claim.post args (.bool true) args=true:=
 postW_of (r:=l.row.toRowW) (X:=(true==true))
  (show WShape.has [] (.bool true) .bool=true by first|rfl|decide|simp[WShape.has,WShape.arms,WShape.armsAll])
  (show(WTm.eq .res (.lit (.bool true))).value [] { args:=args,res:=some (.bool true),after:=args }=some (.bool (true==true)) from w_eq_bool (w_res rfl) w_lit) rfl
def Ly {l:OpenLaw}{q:Program}{loose:bC}{d:DefRec}
  (hn:l.most=some n)(i:d.params.defaults=[])
  (call:∀(w:World)(S s:Shared)(mg m:bG)(b:Addr)(o:Obj)(pm cd doc:Value)(a:Addr)(vs:bw)(ns:bt),
   Ground q loose [] XP w S mg m s.heap->YP w s.heap->
   s.heap.get? b=some o->o.data=.func (docDef d.name d.params d.body d.scope pm cd doc)->s.heap.CodeRec cd d.name->mg d.name=some (.ref b)->
   s.heap.get? a=some { cls:=.type "list",data:=.seq vs.toArray }->IntsAre vs ns->ns.length<=n->s.gens=#[]->
   codeAny (model l.prog w) callerA (.call (.ref b) ⟨[.ref a],[]⟩) (λr c=>r=.ok (.ret (.bool true))/\OldK s.heap c.heap/\c.os=s.os/\AllBare c.gens) s):
  WalkO q loose XP YP l.row.toRowW d [] (λf vs=>PySem.call f vs):=by
 intro w S s mg m G Y b o pm cd doc B kV ho hd j D g v args vals as h y p e u;obtain rfl:B=.none:=Dflts.none D i;obtain rfl:kV=.none:=Dflts.noKw D;obtain⟨a,vs,ns,rfl,rfl,H,hints,hlen⟩:=Ip hn h e;refine enter_call (codeAny_mono (call w S s mg m b o pm cd doc a vs ns G Y ho (fd_plain hd) j g H hints hlen v) λr c t=>?_);obtain⟨rfl,A,z,x⟩:=t;exact⟨.inl ⟨.bool true,.bool true,[],rfl,λ_=>rfl,.bool true,IZ l _,λ_=>⟨List.Pairwise.nil,λ_ hm=>(nomatch hm)⟩⟩,A,z,x⟩
end Att
namespace L2
open PySem PySem.Spec PyProof.Rows
theorem T4:∀{vs:bw}{ns:bt},IntsAre vs ns->Vals (ns.map V.int) vs
 |_,_,.nil=>.nil|_,_,.cons n t h=>.cons ⟨t,rfl⟩ (T4 h)
def KU (H:Hp):Prop:=∀b,H b=none∨∃o xs,H b=some (.frz o (.lst xs))
def F2 {K:Frag}{M:bG}{CX:kH}{k:Nat}{I:Addr}{sp:Sp}{S:Shared}{vs:bw}
  (KX:K.In S.heap)(j:S.heap.Ns mainGlobals mg)(c:S.heap.Ns builtinsNs M)(D:∀x:Str,x ≠ "__name__" -> M x=bootBuiltins x)(p:S.heap.NoLimit)(hg:S.gens=#[])
  (y:S.heap.get? a=some { cls:=.type "list",data:=.seq vs.toArray })(Q:IntsAre vs ns)(hl:ns.length<=sizeLine)(hr:jL k callerA)
  (F:∀base:Heap,K.In base->base.Ns mainGlobals mg->yA P w K mg base CX k I fd [x] sp)(g:∀(s:Shared)(u:Value),BindsTo s fd ⟨[u],[]⟩ [(x,u)])
  (B:∀H:Hp,KU H->qF K H a (ns.map V.int)->sp [.ref a] H (λv _=>v=.bl true) λ_ _ _=>False)
  (X:∀H e f,CX [] H S (λ_ _ _=>False) e f->False):
  codeAny (model P w) callerA (.call (.ref I) ⟨[.ref a],[]⟩) (λr f=>r=.ok (.ret (.bool true))/\OldK S.heap f.heap/\f.os=S.os/\AllBare f.gens) S:=by
 have L:=T4 Q;have l:=Q.length;have core:∀H:Hp,KU H->qF K H a (ns.map V.int)->jw P w H S.heap->(∀b,H b≠none->b=a)->(H a≠none->K.lookup a=none)->
   codeAny (model P w) callerA (.call (.ref I) ⟨[.ref a],[]⟩) (λr f=>r=.ok (.ret (.bool true))/\OldK S.heap f.heap/\f.os=S.os/\AllBare f.gens) S:=by
  intro H T hS hok U hK;have base_of:∀{b:Addr}{o:Obj},S.heap.get? b=some o->H b=none->(gF S.heap H).get? b=some o:=λe n=>Fc e n;have A:∀{b:Addr}{o:Obj}{es:Array DictEntry}{E:Nat},S.heap.get? b=some o->o.data=.dict es E->H b=none:=λ {b o es E} e d=>by
   cases q:H b with
   |none=>rfl|some u=>
    have J:b=a:=U b (by rw[q];simp)
    subst J;rw[y]at e;cases e;have d':Data.seq vs.toArray _=Data.dict es E:=d;cases d'
  have N:∀{b:Addr}{m:bG},S.heap.Ns b m->(gF S.heap H).Ns b m:=λ {b m} ⟨o,es,E,e,d,r⟩=>⟨o,es,E,base_of e (A e d),d,r⟩;have t:K.In (gF S.heap H):=λb o e=>base_of (KX b o e) (by
   cases q:H b with
   |none=>rfl|some u=>
    have J:b=a:=U b (by rw[q];simp)
    subst J;rw[hK (by rw[q];simp)]at e;cases e)
  have hM:Mod K mg (gF S.heap H):=⟨t,N j,⟨M,N c,D⟩,let ⟨mc,h1,h2⟩:=p;⟨mc,N h1,h2⟩⟩
  have e0:Kw P w K mg (gF S.heap H) callerA [] S H:=⟨rfl,hM,λb o e=>Dc e,Nat.le_of_eq (IA _ _),trivial,λb c=>absurd (show b∈([]:bx) from c) (by simp),hok,.of_eq hg⟩
  refine codeAny_mono ((F _ t (N j)).run callerA [] S H ⟨[.ref a],[]⟩ [.ref a] [.ref a] _ _ hr e0 (g S (.ref a)) (.cons rfl .nil) (B H T hS)) λr f h=>?_;cases r with
  |error e=>exact(X H e f h).elim|ok fl=>
   cases fl with
   |next=>exact False.elim h|brk=>exact False.elim h|cont=>exact False.elim h|ret u=>
    obtain⟨v,H',os,bare,un,i,r',q⟩:=h;have q':v=.bl true:=q;subst q';obtain rfl:u=Value.bool true:=r';refine⟨rfl,OldK.of_keep λb o e=>?_,os,bare⟩;cases q:H b with
    |none=>exact un.keep b o e q (by intro z;exact absurd (show b∈([]:bx) from z) (by simp)) (by simp)|some u=>
     rcases T b with z|⟨ob,xs,z⟩
     ·rw[q]at z;cases z
     ·have z2:=un.frzs b ob _ z
      obtain⟨Y,_⟩:=hok b _ z;obtain⟨e2,_⟩:=i b _ z2;rw[e]at Y;cases Y;exact e2
 cases C:K.lookup a with
 |some o=>
  have e:=KX a o C;rw[y]at e;cases e;refine core (λ_=>none) (λ_=>.inl rfl) (.inr ⟨_,vs.toArray,_,C,rfl,rfl,rfl,by rw[aq,l];exact hl,by simpa using L⟩) (λb u z=>by have Z:(none:Option HO)=some u:=z;cases Z) (λb z=>absurd rfl z) λz=>absurd rfl z
 |none=>
  refine core (λb=>if b=a then some (.frz { cls:=.type "list",data:=.seq vs.toArray } (.lst (ns.map V.int))) else none) (λb=>?_) (.inl (.inr ⟨{ cls:=.type "list",data:=.seq vs.toArray },aj rfl⟩)) (λb u z=>?_) (λb z=>?_) λ_=>C
  ·by_cases c:b=a
   ·exact .inr ⟨_,_,aj c⟩
   ·exact .inl (ao c)
  ·by_cases c:b=a
   ·have Z:=(aj c).symm.trans z
    cases Z;subst c;exact⟨y,by rw[ai];exact hl,vs,_,L,y⟩
   ·have Z:=(ao c).symm.trans z
    cases Z
  ·by_cases c:b=a
   ·exact c
   ·exact absurd (ao c) z
noncomputable abbrev Oj {K:Frag}(_:K.In h):Frag:=K
def DB {l:PySem.W.OpenLaw}{k:Nat}{q:Program}{loose:bC}{d:DefRec}{K:Params->Frag}{CX:World->kH}{sp:World->Sp}
  (hn:l.most=some n)(m:n<=sizeLine)(t:d.params.defaults=[])(A:jL k callerA)
  (E:∀(w:World)(h:Heap),YP w h->(K w.params).In h)
  (F:∀(w:World)(mg:bG)(c:Addr)(h:Heap),(K w.params).In h->h.Ns mainGlobals mg->mg d.name=some (.ref c)->
   ∃fd:FuncData,(∀(s:Shared)(u:Value),BindsTo s fd ⟨[u],[]⟩ [(x,u)])/\
    ∀base:Heap,(K w.params).In base->base.Ns mainGlobals mg->yA l.prog w (K w.params) mg base (CX w) k c fd [x] (sp w))
  (p:∀(w:World)(H:Hp)(a:Addr)(ns:bt),ns.length<=n->KU H->qF (K w.params) H a (ns.map V.int)->sp w [.ref a] H (λv _=>v=.bl true) λ_ _ _=>False)
  (X:∀(w:World)(H:Hp)(s:Shared)(e:Value)(i:Shared),CX w [] H s (λ_ _ _=>False) e i->False):
  PySem.W.WalkO q loose XP YP l.row.toRowW d [] (λf vs=>PySem.call f vs):=by
 refine Att.Ly hn t λw y S mg M c o pm cd doc a vs ns G Y ho hd C r j hints hlen B=>?_;have z:=E w _ Y;obtain⟨fd,D,L⟩:=F w mg c _ z G.T.g r;exact F2 z G.T.g G.T.b G.T.builtins G.T.nolimit B j hints (a3 hlen m) A L D (λH J I=>p w H a ns hlen J I) λH e i=>X w H S e i
noncomputable def Qr (s:Stmt):Arguments:=match s with
 |.FunctionDef _ a _ _ _ _ _ _ _ _=>a|_=>{ posonlyargs:=[],args:=[],vararg:=none,kwonlyargs:=[],kw_defaults:=[],kwarg:=none,defaults:=[] }
noncomputable def gr (s:Stmt):bL:=match s with
 |.FunctionDef _ _ b _ _ _ _ _ _ _=>b|_=>[]
noncomputable def z8 (s:Stmt):Scope:=match s with
 |.FunctionDef _ _ _ _ _ _ sc _ _ _=>sc|_=>{ kind:=.function,names:=[],isGenerator:=false,isCoroutine:=false }
noncomputable abbrev kT:kH:=λ_ _ _ _ _ _=>False
noncomputable abbrev E0:XK:=λ_ _ _=>False
def AJ:Passes kT X E0:=λ_ _ _ _ _ _ _ h=>h.elim
structure gh (K:Frag)(x qual:Str)(st:Stmt)(f:Addr)(fd:FuncData):Prop where
 ex:∃(oc:Value) (od:bK) (kV doc pm:Value) (an:bK) (cdv ct:Value) (osl:Array (bB)),
  fd=fnOf x qual (Qr st) (gr st) (z8 st) .none kV doc pm an cdv ct/\K.lookup f=some ⟨oc,od,.func fd,osl⟩/\codeIn K cdv qual=true
 kp:keepIn K (.ref f)=true
section
variable {K:Frag}
def gh.ok {qual:Str}{st:Stmt}{f:Addr}{k:Nat}{sp:Sp}(F:gh K x qual st f fd)(S:qk N ps (z8 st))(len:∀vs H Q E,sp vs H Q E->vs.length=ps.length)
  (y:∀(c:Value)(A:Around)(outer:bH)(s:Shared)(H:Hp)(vs:List V)(Q:VK)(E:XK),jL k (A.deeper (envOfC qual (z8 st) s.heap.objs.size f c))->sp vs H Q E->
   ∃t,yD (Zl kT P w K mg base N qual (z8 st) f c A outer s H E).nox (gr st) t/\t { nx:=λ_ a=>Q .non a,rt:=Q } (start N vs) H):yA P w K mg base kT (k+1) f fd ps sp:=by
 obtain⟨e,b,kV,doc,pm,an,c,ct,o,rfl,lk,d⟩:=F.ex;refine BP lk d S len λA outer s H vs Q E r p=>?_;obtain⟨t,h,q⟩:=y c A outer s H vs Q E r p;exact⟨t,h.nox,q⟩
def gh.binds {qual:Str}{st:Stmt}{f:Addr}(F:gh K x qual st f fd)
  (h:∀(kV doc pm:Value)(an:bK)(c ct:Value)(us:bw),us.length=ps.length->bindArgs (fnOf x qual (Qr st) (gr st) (z8 st) .none kV doc pm an c ct) ⟨us,[]⟩=pure (ps.zip us)):Binds K fd ps []:=by
 obtain⟨a,d,kV,doc,pm,an,c,ct,o,rfl,lk,H⟩:=F.ex;exact .all (h kV doc pm an c ct)
def CM {qual:Str}{st:Stmt}{f:Addr}{a:Value}{o an:bK}{kV doc pm C ct:Value}(l:K.lookup f=some ⟨a,o,.func (fnOf x qual (Qr st) (gr st) (z8 st) .none kV doc pm an C ct),osl⟩)
  (c:codeIn K C qual=true)(k:keepIn K (.ref f)=true):gh K x qual st f (fnOf x qual (Qr st) (gr st) (z8 st) .none kV doc pm an C ct):=⟨⟨a,o,kV,doc,pm,an,C,ct,osl,rfl,l,c⟩,k⟩
end
def B8 {A:Around}{k:Nat}(h:jL k A):A.units+1<cLine:=Nat.lt_of_le_of_lt (Nat.add_le_add_left (by decide:1<=64) _) h.units
section
variable {κ:Type}[DecidableEq κ]
noncomputable def yx (kvs:List (κ×V))(k:κ):Option V:=(kvs.find? λK=>decide (K.1=k)).map (·.2)
noncomputable def putK (kvs:List (κ×V))(k:κ)(v:V):List (κ×V):=
 if (kvs.any λK=>decide (K.1=k))=true then kvs.map (λK=>if K.1=k then(K.1,v) else K) else kvs++[(k,v)]
def YK {p:κ×V}{r:List (κ×V)}{k:κ}(e:p.1=k):yx (p::r) k=some p.2:=by simp[yx,find?_cons,e]
def YR {p:κ×V}{r:List (κ×V)}{k:κ}(e:¬p.1=k):yx (p::r) k=yx r k:=by simp[yx,find?_cons,e]
theorem Sz (k:κ):∀kvs:List (κ×V),(kvs.any λK=>decide (K.1=k))=(yx kvs k).isSome
 |[]=>rfl|p::r=>by
  rw[any_cons]
  by_cases e:p.1=k
  ·simp only[YK e,aC e,Bool.true_or,isSome_some]
  ·rw[YR e,aG e,Bool.false_or];exact Sz k r
def Lx (kvs:List (κ×V))(k:κ)(v:V):(putK kvs k v).length<=kvs.length+1:=by
 unfold putK
 split
 ·rw[ai];omega
 ·rw[aA,bq,List.length_nil];omega
def Fm {kvs:List (κ×V)}{k:κ}(v:V)(h:yx kvs k=none):putK kvs k v=kvs++[(k,v)]:=by
 unfold putK;rw[Sz,h];exact ao (by decide)
def KV.val {kvs:List (κ×V)}{vs:List (κ×Value)}(r:KV kvs vs)(k:κ):gJ (yx kvs k) (valueAt vs k):=by
 unfold KV at r
 induction r with
 |nil=>exact True.intro|@cons p q ps Q h t i=>
  obtain⟨H,a⟩:=h
  by_cases e:p.1=k
  ·have E:q.1=k:=H.symm.trans e
   have b:valueAt (q::Q) k=some q.2:=by simp[valueAt,find?_cons,E]
   rw[YK e,b];exact a
  ·have E:¬q.1=k:=λz=>e (H.trans z)
   have b:valueAt (q::Q) k=valueAt Q k:=by simp[valueAt,find?_cons,E]
   rw[YR e,b];exact i
theorem KV.any {kvs:List (κ×V)}{vs:List (κ×Value)}(r:KV kvs vs)(k:κ):(kvs.any λK=>decide (K.1=k))=vs.any λK=>decide (K.1=k):=by
 unfold KV at r
 induction r with
 |nil=>rfl|cons h t i=>rw[any_cons,any_cons,i,h.1]
def KV.repl {kvs:List (κ×V)}{vs:List (κ×Value)}(r:KV kvs vs)(k:κ){y:V}(a:RelV y u):
  KV (kvs.map λK=>if K.1=k then(K.1,y) else K) (vs.map λK=>if K.1=k then(K.1,u) else K):=by
 unfold KV at r ⊢
 induction r with
 |nil=>exact .nil|@cons p q ps Q h t i=>
  rw[aS,aS];refine .cons ?_ i;obtain⟨H,b⟩:=h
  by_cases e:p.1=k
  ·rw[aj e,aj (H.symm.trans e)];exact⟨H,a⟩
  ·rw[ao e,ao (λz=>e (H.trans z))];exact⟨H,b⟩
def KV.put {kvs:List (κ×V)}{vs:List (κ×Value)}(r:KV kvs vs)(k:κ){y:V}(a:RelV y u):KV (putK kvs k y) (stored vs k u):=by
 unfold putK stored;rw[r.any k]
 by_cases e:(vs.any λK=>decide (K.1=k))=true
 ·rw[aj e,aj e];exact r.repl k a
 ·rw[ao e,ao e];exact Paired.snoc r ⟨rfl,a⟩
theorem KV.length {kvs:List (κ×V)}{vs:List (κ×Value)}(r:KV kvs vs):kvs.length=vs.length:=Paired.length r
end
def Xv {k:Key}(r:RelV (kV k) u):(yj P w).is k u=true:=by
 cases k with
 |inl i=>obtain⟨t,e⟩:=(show ∃t,u=Value.int i t from r);subst e;exact LI P w i t|inr x=>obtain⟨t,e⟩:=(show ∃t,u=Value.str x t from r);subst e;exact LG P w x t
theorem TN:∀{ks:List Key}{us:bw},Vals (ks.map kV) us->ItemsAre (yj P w) ks us
 |[],_,r=>by rw[map_nil]at r;cases r;exact .nil|k::ks,_,r=>by
  rw[aS]at r;cases r with
  |cons h t=>exact .cons (Xv h) (TN t)
abbrev KT (H:Hp):List (List Key×V)->List (List Key×Addr×Value)->Prop:=Paired λp q=>p.1=q.1/\H q.2.1=some (.tup (p.1.map kV))/\RelV p.2 q.2.2
def KT.val {kvs:List (List Key×V)}{xs:List (List Key×Addr×Value)}(r:KT H kvs xs)(k:List Key):gJ (yx kvs k) ((atKey xs k).map (·.2)):=by
 induction r with
 |nil=>exact True.intro|@cons p q ps Q h t i=>
  obtain⟨a,_,c⟩:=h
  by_cases e:p.1=k
  ·have E:q.1=k:=a.symm.trans e
   have b:atKey (q::Q) k=some q.2:=by simp[atKey,find?_cons,E]
   rw[YK e,b];exact c
  ·have E:¬q.1=k:=λz=>e (a.trans z)
   have b:atKey (q::Q) k=atKey Q k:=by simp[atKey,find?_cons,E]
   rw[YR e,b];exact i
section
def Pk {u:HO}(ok:jw P w H h)(e:Rd H a u):jA P w H h a u:=e.ok ok
def Xu (ok:jw P w H h)(e:Rd H a (.dK kvs)):kvs.length<=sizeLine/\(a==sysModules)=false/\∃vs,KV kvs vs/\h.DictOf (yj P w) a vs:=
 show jA P w H h a (.dK kvs) from Pk ok e
def Pn (ok:jw P w H h)(e:H a=some (.dK kvs)):kvs.length<=sizeLine/\(a==sysModules)=false/\∃vs,KV kvs vs/\h.DictOf (yj P w) a vs:=Xu ok (.inl e)
def RJ {ks:List Key}(ok:jw P w H h)(e:H a=some (.tup (ks.map kV))):(tupleKind (yj P w)).is h ks a:=by
 obtain⟨_,i,r,o,d,c,n,b⟩:=(show jA P w H h a (.tup (ks.map kV)) from ok a _ e)
 exact⟨o,i.toArray,n,d,c.1,b,by simpa using TN r⟩
def Pm {kvs:List (List Key×V)}(ok:jw P w H h)(e:Rd H a (.dT kvs)):kvs.length<=sizeLine/\(a==sysModules)=false/\
  ∃xs,KT H kvs xs/\h.DictOfH (tupleKind (yj P w)) a xs:=by
 obtain⟨z,y,xs,r,o,E,s,n,j,g,f,d⟩:=(show jA P w H h a (.dT kvs) from Pk ok e)
 refine⟨z,y,xs,r,o,E,s,n,j,g,f,λx b=>?_,d⟩;have all:∀{l:List (List Key×V)}{m:List (List Key×Addr×Value)},KT H l m->∀x∈m,(tupleKind (yj P w)).is h x.1 x.2.1:=by
  intro l m q
  induction q with
  |nil=>intro x b;exact nomatch b
  |@cons p q ps Q c t i=>
   intro x b;rcases bQ.mp b with e|b
   ·subst e
    exact RJ ok (by rw[<- c.1];exact c.2.1)
   ·exact i x b
 exact all r x b
end
def QF (H:Hp)(a:Addr)(y:V)(r:Option V):Prop:=
 (∃kvs k,Rd H a (.dK kvs)/\y=kV k/\r=yx kvs k)∨∃kvs k b,Rd H a (.dT kvs)/\y=.ref b/\H b=some (.tup (k.map kV))/\r=yx kvs k
theorem QF.k {k:Key}(e:H a=some (.dK kvs)):QF H a (kV k) (yx kvs k):=.inl ⟨kvs,k,.inl e,rfl,rfl⟩
section
variable {y:V}{o:Option V}{A:Around}
def Inv.big (I:Inv X pins σ H s):sysModules<s.heap.objs.size:=by
 have h:mainGlobals<s.heap.objs.size:=(I.mod.glob.keeps I.bk).lt;exact Nat.lt_trans (by decide) h
def Iv (j:A.units+1<cLine)(I:Inv X pins σ H s)(g:QF H a y (some v))(i:RelV y u)(h:∀c S,Inv X pins σ H S->RelV v c->Q c S):
  wpAny (model X.prog X.w) A (getItem (.ref a) u) Q E s:=by
 rcases g with ⟨kvs,k,e,f,l⟩|⟨kvs,k,b,e,f,n,l⟩
 ·subst f
  obtain⟨z,hd,vs,rel,D⟩:=Xu I.hok e;obtain⟨c,hw,r⟩:=gJ.some_of (v:=v) (o:=valueAt vs k) (by rw[l];exact rel.val k)
  exact wpAny_getItem_of (Xv i) D.mapOf hw (h c _ (I.tok _) r)
 ·subst f
  cases (show u=Value.ref b from i)
  obtain⟨z,hd,xs,rel,D⟩:=Pm I.hok e;obtain⟨c,hw,r⟩:=gJ.some_of (v:=v) (o:=(atKey xs k).map (·.2)) (by rw[l];exact rel.val k)
  obtain⟨p,m,d⟩:=Option.map_eq_some_iff.mp hw;refine wpAny_getItem_heap (tupleKind_room_in1 j) (RJ I.hok n) D m ?_;rw[d];exact h c _ (I.tok _) r
def DK {h':Heap}{ob:HO}(I:Inv X pins σ H s)(m:Ym (H a))(h:Heap.SameBut a s.heap h')(he:∃q,h'.get? a=some q)(new:jA X.prog X.w (upd H a ob) h' a ob):
  Inv X pins σ (upd H a ob) { s with heap:=h',toks:=t' }:=
 I.write (x:=a) (e:=a) m (.inl rfl) (λb q c z=>(h.2 b c).trans z) he new
def CZ {H:Hp}{h':Heap}{vs:List (Key×Value)}(z:kvs.length<=sizeLine)(hd:(a==sysModules)=false)(rel:KV kvs vs)(d:h'.DictOf (yj P w) a vs):
  jA P w H h' a (.dK kvs):=⟨z,hd,vs,rel,d⟩
end
def XS (i:Expr):Prop:=∀ov I,subscripted i false ov I=operate [ov,I] (getItem ov I)
def ER {prog:Program}{A:Around}{value slice:Expr}{T id:String}
  (hl:typeLookup (.type T) "__getitem__"=pure (some (.builtin id)))(e:XS slice)
  (h:wpAny (model prog w) A (eval value env) (λo b=>wpAny (model prog w) A (eval slice env) (λi S=>S.TypeIs o T/\wpAny (model prog w) A (getItem o i) Q E S) E b) E s):
  wpAny (model prog w) A (eval (.Subscript value slice pos) env) Q E s:=by
 refine Subscript_ (wpAny_mono h (λo b d=>wpAny_mono d (λi S H=>?_) λ_ _ x=>x) λ_ _ x=>x);obtain⟨hT,H⟩:=H;unfold subscriptTail;refine bM ?_;rw[getitemInPython_of_ne hT.not_modules];refine bM (wpAny_specialOf hT hl ?_);have fin:wpAny (model prog w) A (subscripted slice false o i) (λr a=>wpAny (model prog w) A (letTemporaryGo value o r >>= λ_=>pure r) Q E a) E S:=by
  rw[e o i];exact wpAny_operating (wpAny_mono H (λr a c=>bM (wpAny_letTemporaryGo (bN c))) λ_ _ x=>x)
 first
  |exact bN (bM fin)
  |exact bM (bN (bM fin))
  |exact bM fin
def Ls {y:V}{o:Option V}(I:Inv X pins σ H s)(g:QF H a y o):s.TypeIs (.ref a) "dict":=by
 rcases g with ⟨kvs,k,e,_,_⟩|⟨kvs,k,b,e,_,_,_⟩
 ·obtain⟨_,_,vs,_,d⟩:=Xu I.hok e
  exact d.typeIs
 ·obtain⟨_,_,xs,_,d⟩:=Pm I.hok e
  exact d.typeIs
noncomputable def B7 (td ty:TE):TE:=λσ H Q=>td σ H λx H1=>ty σ H1 λy h=>∃a v,x=.ref a/\QF h a y (some v)/\Q v h
section
variable {o i:Expr}{td ty:TE}
def Dj (f:X.A.units+1<cLine)(ho:PE X o td)(l:PE X i ty)(j:XS i):PE X (.Subscript o i pos) (B7 td ty):=by
 intro pins s σ H Q I h;refine ER PySem.F.slot_dict_getitem.lookup j (zM (ho pins s σ H _ I h) λu s1 ⟨x,H1,n,d,e⟩=>zM (l pins s1 σ H1 _ n e) λt s2 ⟨y,p,b,c,a,v,ex,g,q⟩=>?_);subst ex;obtain rfl:u=Value.ref a:=d;exact⟨Ls b g,Iv f b g c λw s3 m r=>⟨v,p,m,r,q⟩⟩
end
def Fv (h:Heap)(b:sysModules<h.objs.size):jA P w H (h.push { cls:=.type "dict",data:=.dict #[] }) h.objs.size (.dK []):=
 ⟨zero_le _,beq_eq_false_iff_ne.mpr (Ne.symm (aO b)),[],.nil,Heap.DictOf.new h⟩
def C8:TE:=λ_ H Q=>∀p,H p=none->Q (.ref p) (upd H p (.dK []))
section
def FI:PE X (.Dict [] [] pos) C8:=λpins s σ H Q I h=>
 wpAny_Dict_empty ⟨.ref s.heap.objs.size,_,I.laid (a:=s.heap.objs.size) (o:=.dK []) (t':=s.toks) (λ_ _ q=>ae _ q) (ak _) (Fv s.heap I.big),rfl,h _ (I.hok.fresh (ak _))⟩
end
noncomputable def wc (env:Env):List (Str×NameKind)->List (Str×Addr)->List (Str×Addr)
 |[],acc=>acc|(n,k)::r,acc=>wc env r (if k==.free then(n,(env.cells.lookup n).getD 0)::acc else acc)
def Fg (f:Str×NameKind->List (Str×Addr)->Sem (ForInStep (bI)))
  (hf:∀n k r,f (n,k) r=if (k==NameKind.free)=true then(do let c <- cellOf env n;pure (ForInStep.yield ((n,c)::r))) else pure (ForInStep.yield r)):
  ∀(names:List (Str×NameKind))(acc:bI),(∀y∈names,y.2=.free->∃c,env.cells.lookup y.1=some c)->(forIn names acc f:Sem (bI))=pure (wc env names acc):=by
 intro names
 induction names with
 |nil=>intro acc _;rfl|cons y r i=>
  intro acc b;obtain⟨n,k⟩:=y;rw[forIn_cons,hf];unfold wc;have h:=i (if k==.free then(n,(env.cells.lookup n).getD 0)::acc else acc) (λy g=>b y (aI _ g))
  by_cases a:k=.free
  ·subst a
   obtain⟨c,d⟩:=b (n,.free) aJ rfl;have e:cellOf env n=pure c:=by unfold cellOf;rw[d]
   have H:List.lookup n env.cells=some c:=d;simp only[e,H,Option.getD_some,beq_self_eq_true,if_true]at h ⊢;exact h
  ·have j:(k==NameKind.free)=false:=by simpa using a
   simp only[j,Bool.false_eq_true,if_false]at h ⊢;exact h
def L6 (h:∀y∈scope.names,y.2=.free->∃c,env.cells.lookup y.1=some c):closureFor scope env=pure (wc env scope.names []):=by
 unfold closureFor;dsimp only;rw[Fg _ (λn k r=>rfl) scope.names [] h]
 rfl
theorem Qh {n:Str}{c:Addr}:∀(names:List (Str×NameKind))(acc:bI),(n,c)∈wc env names acc->(n,c)∈acc∨((n,NameKind.free)∈names/\c=(env.cells.lookup n).getD 0)
 |[],acc,h=>.inl h|(x,k)::r,acc,h=>by
  unfold wc at h;rcases Qh r _ h with h|⟨d,a⟩
  ·by_cases H:k=.free
   ·subst H
    simp only[beq_self_eq_true,if_true]at h;rcases bQ.mp h with e|h
    ·cases e;exact .inr ⟨aJ,rfl⟩
    ·exact .inl h
   ·have b:(k==NameKind.free)=false:=by simpa using H
    simp only[b,Bool.false_eq_true,if_false]at h;exact .inl h
  ·exact .inr ⟨aI _ d,a⟩
theorem TF {n:Str}:∀(names:List (Str×NameKind))(acc:bI),((n,NameKind.free)∈names∨(acc.lookup n).isSome=true)->((wc env names acc).lookup n).isSome=true
 |[],acc,h=>by
  rcases h with h|h
  ·cases h
  ·exact h
 |(x,k)::r,acc,h=>by
  unfold wc;refine TF r _ ?_;rcases h with h|h
  ·rcases bQ.mp h with e|h
   ·cases e
    right
    simp
   ·exact .inl h
  ·right
   by_cases H:(k==NameKind.free)=true
   ·rw[aj H,lookup_cons]
    cases a:n==x
    ·exact h
    ·rfl
   ·rw[ao H];exact h
theorem WX {n:Str}{c:Addr}:∀(names:List (Str×NameKind))(k:Nat)(acc:bI),(n,c)∈cellsFrom k names acc->(n,c)∈acc∨(k<=c/\(n,NameKind.cell)∈names)
 |[],_,_,h=>.inl h|(x,q)::r,k,acc,h=>by
  unfold cellsFrom at h
  by_cases a:(q==NameKind.cell)=true
  ·rw[aj a]at h
   have H:q=.cell:=by simpa using a
   rcases WX r _ _ h with h|⟨d,b⟩
   ·rcases bQ.mp h with e|h
    ·cases e;subst H;exact .inr ⟨ak _,aJ⟩
    ·exact .inl h
   ·exact .inr ⟨by omega,aI _ b⟩
  ·rw[ao a]at h
   rcases WX r _ _ h with h|⟨d,b⟩
   ·exact .inl h
   ·exact .inr ⟨d,aI _ b⟩
theorem WS:∀(names:List (Str×NameKind))(k:Nat)(acc:bI),(∀n c,(n,c)∈acc->c<k)->(∀n N c,(n,c)∈acc->(N,c)∈acc->n=N)->∀n N c,(n,c)∈cellsFrom k names acc->(N,c)∈cellsFrom k names acc->n=N
 |[],_,_,_,hi,n,N,c,h,h'=>hi n N c h h'|(x,q)::r,k,acc,hl,hi,n,N,c,h,h'=>by
  unfold cellsFrom at h h'
  by_cases a:(q==NameKind.cell)=true
  ·rw[aj a]at h h'
   refine WS r (k+1) ((x,k)::acc) (λm d hm=>?_) (λm M d hm H=>?_) n N c h h'
   ·rcases bQ.mp hm with e|hm
    ·cases e;exact bc _
    ·exact a5 (hl m d hm)
   ·rcases bQ.mp hm with e|hm
    ·rcases bQ.mp H with E|H
     ·cases e;cases E;rfl
     ·cases e;exact absurd (hl M _ H) (aT _)
    ·rcases bQ.mp H with E|H
     ·cases E;exact absurd (hl m _ hm) (aT _)
     ·exact hi m M d hm H
  ·rw[ao a]at h h'
   exact WS r k acc hl hi n N c h h'
theorem WD {n:Str}{c:Addr}:∀(names:List (Str×NameKind))(h:Heap)(acc:bI),(n,c)∈cellsFrom h.objs.size names acc->(n,c)∈acc∨(pushCells h names).IsCell c none
 |[],_,_,q=>.inl q|(x,k)::r,h,acc,q=>by
  unfold cellsFrom at q;unfold pushCells
  by_cases H:(k==NameKind.cell)=true
  ·rw[aj H]at q ⊢
   have:=WD r (h.push { cls:=.type "cell",data:=.cell none }) ((x,h.objs.size)::acc) (by rw[a8];exact q)
   rcases this with z|z
   ·rcases bQ.mp z with e|z
    ·cases e
     exact .inr ⟨_,pushCells_keeps r _ _ _ (av _ rfl),rfl⟩
    ·exact .inl z
   ·exact .inr z
  ·rw[ao H]at q ⊢
   exact WD r h acc q
def Nm {M:Model}{A:Around}{globals:Addr}{cl:bI}{qual:Str}{Q:Env->Shared->Prop}
  (h:Q { scope,locals:=s.heap.objs.size,globals,cells:=cellsFrom (s.heap.objs.size+1) scope.names cl,qual,func:=none,code:=env.code,frame:=env.frame,builtins:=env.builtins }
   { s with heap:=pushCells (s.heap.push { cls:=.type "dict",data:=.dict #[] }) scope.names }):
  wpAny M A (newFunctionEnv scope globals cl [] qual none .none (some env)) Q E s:=by
 simp only[newFunctionEnv,isSome_some,if_true];refine bM (wpAny_alloc ?_);refine bM (wpAny_layCells _ (λname kind cells=>by cases H:kind==NameKind.cell<;>simp[H]) _ _ _ _ ?_)
 rw[show({ s with heap:=s.heap.push { cls:=.type "dict",data:=.dict #[] } }:Shared).heap.objs.size=s.heap.objs.size+1 from a8 ..]
 rw[forIn_nil];exact bM (bN (bN h))
def jC (X:Cx)(N:bC)(scope:Scope)(s:Shared)(H:Hp)(fp:bx)(xe:bD):Cx where
 prog:=X.prog
 w:=X.w
 K:=X.K
 mg:=X.mg
 base:=X.base
 A:=X.A
 N:=N
 s0:=s
 H0:=H
 env:={ scope:=relabel scope X.env,locals:=s.heap.objs.size,globals:=X.env.globals,cells:=cellsFrom (s.heap.objs.size+1) scope.names (wc X.env scope.names []),qual:=X.env.qual,func:=none,code:=X.env.code,frame:=X.env.frame,builtins:=X.env.builtins }
 outer:=X.stack
 stack:=X.stack
 ex:=fp
 fn:=λx=>scope.names.lookup x==some .local || scope.names.lookup x==some .cell
 calm:=X.calm
 pn:=[]
 xe:=xe
structure wO (X:Cx)(scope:Scope):Prop where
 kind:scope.kind=.function
 nd:(scope.names.map (·.1)).Nodup
 free:∀y∈scope.names,y.2=.free->X.env.kindOf y.1=some .cell∨X.env.kindOf y.1=some .free
theorem Z8 {k:α}:∀{l:List (Str×α)},(l.map (·.1)).Nodup->(x,k)∈l->l.lookup x=some k
 |(y,q)::r,nd,h=>by
  rw[aS,List.nodup_cons]at nd;rw[lookup_cons];rcases bQ.mp h with e|h
  ·cases e;simp
  ·have ne:(x==y)=false:=by
    rw[beq_eq_false_iff_ne];intro e
    apply nd.1
    rw[<- e];exact List.mem_map_of_mem (f:=(·.1)) h
   rw[ne];exact Z8 nd.2 h
def WJ {k:NameKind}(h:(relabel scope env).names.lookup x=some k):scope.names.lookup x=some k∨(k=.cell/\scope.names.lookup x=some .free/\env.kindOf x=some .cell):=by
 unfold relabel at h;dsimp only at h;generalize scope.names=names at h ⊢
 induction names with
 |nil=>cases h|cons y r i=>
  obtain⟨n,q⟩:=y;rw[aS]at h;have split:(if (q==NameKind.free&&env.scope.kind==.function&&env.kindOf n==some .cell)=true then(n,NameKind.cell) else(n,q)).1=n:=by split<;>rfl
  rw[lookup_cons]at h ⊢;dsimp only at h;rw[split]at h;cases a:x==n with
  |false=>rw[a]at h;exact i h|true=>
   rw[a]at h;have e:x=n:=aM.mp a;subst e
   by_cases H:(q==NameKind.free&&env.scope.kind==.function&&env.kindOf x==some .cell)=true
   ·rw[aj H]at h
    simp only[ag,aM]at H;cases h
    right
    exact⟨rfl,by rw[H.1.1],H.2⟩
   ·rw[ao H]at h
    left
    exact h
section
def Inv.capt (I:Inv X pins σ H s)(S:wO X scope)(h:(x,NameKind.free)∈scope.names):∃c,X.env.cells.lookup x=some c:=I.ok.has x (S.free _ h rfl)
def Jt (I:Inv X pins σ H s)(S:wO X scope){c:Addr}(h:(x,c)∈cellsFrom (s.heap.objs.size+1) scope.names (wc X.env scope.names [])):
  ((x,NameKind.free)∈scope.names/\X.env.cells.lookup x=some c/\c<s.heap.objs.size)∨((x,NameKind.cell)∈scope.names/\s.heap.objs.size<c/\∀h0:Heap,h0.objs.size=s.heap.objs.size+1->(pushCells h0 scope.names).IsCell c none):=by
 rcases WX _ _ _ h with b|⟨b,d⟩
 ·left
  rcases Qh _ _ b with z|⟨z,e⟩
  ·cases z
  ·obtain⟨C,a⟩:=I.capt S z
   rw[a]at e;have E:c=C:=e;subst E;obtain⟨v,q⟩:=I.cell x c a;exact⟨z,a,q.lt⟩
 ·right
  refine⟨d,b,λh0 f=>?_⟩;have h':=h;rw[<- f]at h';rcases WD _ h0 _ h' with z|z
  ·exfalso
   rcases Qh _ _ z with z|⟨z,e⟩
   ·cases z
   ·obtain⟨C,a⟩:=I.capt S z
    rw[a]at e;have E:c=C:=e;subst E;obtain⟨v,q⟩:=I.cell x c a;exact aT _ (aD (a5 q.lt) b)
  ·exact z
def HL {xe:bD}{f:St}(I:Inv X pins σ H s)(S:wO X scope)(hf:∀b∈fp,yR X pins H b)(A:∀b∈fp,b<s.heap.objs.size)(hl:f.length=N.length)
  (hs:∀(j:Nat)(x:Str)(v:V),N[j]? =some x->f[j]? =some (some v)->(x,NameKind.free)∈scope.names/\∃i:Nat,X.N[i]? =some x/\σ[i]? =some (some v)):
  Inv (jC X N scope s H fp xe) [] f H { s with heap:=pushCells (s.heap.push { cls:=.type "dict",data:=.dict #[] }) scope.names }:=by
 have M:∀b o,s.heap.get? b=some o->(pushCells (s.heap.push { cls:=.type "dict",data:=.dict #[] }) scope.names).get? b=some o:=λb o e=>pushCells_keeps _ _ _ _ (ae _ e);have T:(s.heap.push { cls:=.type "dict",data:=.dict #[] }).objs.size=s.heap.objs.size+1:=a8 ..;have l:∀{x:Str}{c:Addr},(jC X N scope s H fp xe).env.cells.lookup x=some c->(x,c)∈cellsFrom (s.heap.objs.size+1) scope.names (wc X.env scope.names []):=λh=>PySem.mem_of_lookup h;have L:∀{x:Str},((jC X N scope s H fp xe).env.kindOf x=some .cell∨(jC X N scope s H fp xe).env.kindOf x=some .free)->∃c,(jC X N scope s H fp xe).env.cells.lookup x=some c:=λ {x} h=>by
  refine Option.isSome_iff_exists.mp (cellsFrom_some _ _ _ ?_);have two:scope.names.lookup x=some .cell∨scope.names.lookup x=some .free:=by
   rcases h with h|h
   ·rcases WJ h with z|⟨_,z,_⟩
    ·exact .inl z
    ·exact .inr z
   ·rcases WJ h with z|⟨z,_⟩
    ·exact .inr z
    ·cases z
  rcases two with z|z
  ·exact .inl z
  ·exact .inr (TF _ _ (.inl (PySem.mem_of_lookup z)))
 have exP:∀b∈fp,∀x c,(jC X N scope s H fp xe).env.cells.lookup x=some c->c≠b:=λb a x c e=>by
  rcases Jt I S (l e) with ⟨_,q,_⟩|⟨_,q,_⟩
  ·exact(hf b a).2.2.2.2.1 x c q
  ·intro z;subst z;exact aT _ (Nat.lt_trans q (A _ a))
 refine⟨⟨I.ok.mod,S.kind,I.ok.glob,I.ok.blt,ak _,λx y c h1 J=>?_,λx h=>L h,λx c g h=>?_,I.ok.hd,I.ok.frames,.inl rfl,λb a=>⟨?_,exP b a⟩,I.bs,a3 I.ok.bsz I.sz,λb o e a=>?_,λb a z=>?_,I.stack,I.stkFree⟩,
  rfl,I.bare,Un.kept M,⟨λ_=>none,?_,λj x v h1 J h3=>?_⟩,λx c e=>?_,I.fresh,λx c e=>?_,λp hp=>?_,I.hok.kept M,hl⟩
 ·refine WS _ _ _ (λn c h=>?_) (λn n' c h h'=>?_) x y c (l h1) (l J)
  ·rcases Qh _ _ h with z|⟨z,e⟩
   ·cases z
   ·obtain⟨c',D⟩:=I.capt S z
    rw[D]at e;have P:c=c':=e;subst P;obtain⟨v,q⟩:=I.cell n c D;exact a5 q.lt
  ·rcases Qh _ _ h with z|⟨z,e⟩
   ·cases z
   ·rcases Qh _ _ h' with Z|⟨Z,P⟩
    ·cases Z
    ·obtain⟨d,hd⟩:=I.capt S z
     obtain⟨d',B⟩:=I.capt S Z;rw[hd]at e;rw[B]at P;have K:c=d:=e;have e2:c=d':=P;subst K;subst e2;exact I.ok.inj _ _ _ hd B
 ·rcases Jt I S (l h) with ⟨z,_,_⟩|⟨_,z,_⟩
  ·exfalso
   have K:=Z8 S.nd z;have t:(scope.names.lookup x==some .local || scope.names.lookup x==some .cell)=true:=g;rw[K]at t;cases t
  ·exact le_of_lt z
 ·exact aO (A b a)
 ·obtain⟨_,_,_,E,_⟩:=hf b a
  rcases E with E|E
  ·exact I.ok.noex b o e E
  ·exact absurd (aD (aF e) (a3 I.ok.bsz E)) (aT _)
 ·obtain⟨_,J,h3,_⟩:=hf b a
  rcases bQ.mp (I.stkSub b z) with e|e
  ·exact J e
  ·exact h3 e
 ·exact(Heap.Ns.new s.heap (.type "dict")).keeps (pushCells_keeps _ _)
 ·obtain⟨g,i,K,e2⟩:=hs j x v h1 J
  obtain⟨m,hn,Y⟩:=I.loc;have Q:Yc X.env.scope x:=.inr (S.free _ g rfl);obtain⟨u,r,lk⟩:=Y i x v K e2 Q;refine⟨u,r,.inr ?_⟩;have w:(jC X N scope s H fp xe).env.kindOf x=some .cell∨(jC X N scope s H fp xe).env.kindOf x=some .free:=by
   rcases h3 with z|z|z
   ·exfalso
    rcases WJ z with Z|⟨Z,_⟩
    ·rw[Z8 S.nd g]at Z;cases Z
    ·cases Z
   ·exact .inl z
   ·exact .inr z
  refine⟨w,?_⟩;obtain⟨c,D⟩:=L w;refine⟨c,D,?_⟩;rcases Jt I S (l D) with ⟨_,q,_⟩|⟨q,_,_⟩
  ·rcases lk with ⟨z,_⟩|⟨_,c',C,cell⟩
   ·exfalso
    rcases S.free _ g rfl with k|k<;>(rw[k]at z;cases z)
   ·rw[q]at C;cases C
    exact cell.keeps M
  ·exfalso
   have a1:=Z8 S.nd g;have a2:=Z8 S.nd q;rw[a1]at a2;cases a2
 ·rcases Jt I S (l e) with ⟨_,q,_⟩|⟨_,_,q⟩
  ·obtain⟨v,z⟩:=I.cell x c q
   exact⟨v,z.keeps M⟩
  ·exact⟨_,q _ T⟩
 ·rcases Jt I S (l e) with ⟨_,q,_⟩|⟨_,q,_⟩
  ·exact I.freeC x c q
  ·exact I.hok.fresh (le_of_lt q)
 ·have U:p∈([]:bz):=hp
  cases U
end
abbrev kD:=Addr->St->Hp->(St->Hp->Prop)->Prop
noncomputable def J3 (elt:Expr)(gens:List Comprehension)(sc:Scope)(pos:Pos)(d:Nat)(acc:Value)(env:Env)(k:Sem Fin):Sem Fin:=
 match gens[d+1]? with
 |some g'=>do
  let x <- eval g'.iter env
  standAt g'.iter.pos
  let x <- foldedSetIterable g'.iter env x
  let _ <- runOwn (.compStart (.ListComp elt gens sc pos) (d+1) (<- holding [x] (pyIter x)) acc env) env
  k
 |none=>do
  (do let _ <- call (.builtin "list.append") [acc,<- eval elt env])
  k
theorem Ef {iter:Expr}{d:Nat}{it acc:Value}(h:gens[d]? =some ⟨tg,iter,ifs,0⟩)(H:∀g',gens[d+1]? =some g'->g'.is_async=0):
  compTurn (.ListComp elt gens sc pos) d it acc env=(do
   standAt iter.pos
   match <- pyNext it with
   |none=>pure (.done .next)|some v=>
    letOwnedTupleGo tg it v
    assign tg env v
    let mut ok:=true
    for c in ifs do
     if ok then ok <- isTrue c env (eval c env)
    if ok then J3 elt gens sc pos d acc env (again (.compLoop (.ListComp elt gens sc pos) d it acc env))
    else again (.compLoop (.ListComp elt gens sc pos) d it acc env)):=by
 unfold compTurn J3;dsimp only;rw[h];cases hn:gens[d+1]? with
 |none=>rfl|some g'=>
  obtain⟨t',i,f,a⟩:=g';have e:a=0:=H _ hn;subst e
  rfl
def gD (X:Cx)(ifs:bE)(t:TT):Prop:=
 ∀(pins:bz)(s:Shared)(σ:St)(H:Hp)(Q:Bool->Hp->Prop),Inv X pins σ H s->t σ H Q->
  wpAny (model X.prog X.w) X.A (forIn ifs true λc r=>if r=true then do let ok <- isTrue c X.env (eval c X.env);pure (ForInStep.yield ok) else pure (ForInStep.yield r)) (TP X pins σ Q) X.xe s
noncomputable def BE:TT:=λ_ H Q=>Q true H
def FH:gD X [] BE:=λpins s σ H Q I h=>wpAny_tests_nil ⟨H,I,h⟩
def HQ {c:Expr}{t:TT}(h:PT X c t):gD X [c] t:=λpins s σ H Q I hw=>wpAny_tests_one (h pins s σ H Q I hw)
def kf (X:Cx)(elt:Expr)(gens:List Comprehension)(sc:Scope)(pos:Pos)(d:Nat)(t:kD):Prop:=
 ∀(pins:bz)(s:Shared)(σ:St)(H:Hp)(D:Addr)(Q:St->Hp->Prop)(k:Sem Fin)(Q':Fin->Shared->Prop)(E:bD),Inv X pins σ H s->t D σ H Q->
  (∀S a h,Inv X pins a h S->Q a h->wpAny (model X.prog X.w) X.A k Q' E S)->wpAny (model X.prog X.w) X.A (J3 elt gens sc pos d (.ref D) X.env k) Q' E s
def Al (t:TE):kD:=λD σ H Q=>t σ H λy H1=>∃Y,H1 D=some (.lst Y)/\Y.length<sizeLine/\Q σ (upd H1 D (.lst (Y++[y])))
def J0 (J:It)(g:TG)(ti:TT)(tm:kD):kD:=λD σ H Q=>∃W:Nat->Nat->St->Hp->Prop,(∃m,W 0 m σ H)/\∀i m σ H,W i m σ H->
 (J.stop i H/\Q σ H)∨(J.go i H/\∃N:St->Hp->Prop,(∀c h,N c h->∃M,M<m/\W (i+1) M c h)/\∀x h,J.yld i H x h->g x σ h λa H1=>ti a H1 λb d=>if b=true then tm D a d N else N a d)
def Ab (w:TI)(g:TG)(ti:TT)(tm:kD):kD:=λD σ H Q=>w σ H λJ H1=>J0 J g ti tm D σ H1 Q
section
variable {iter:Expr}{d:Nat}
def Qt (h:∀e s,X.xe e s->False){t:Sem α}{Q':α->Shared->Prop}{S:Shared}(H:wpAny (model X.prog X.w) X.A t Q' X.xe S):wpAny (model X.prog X.w) X.A t Q' E S:=
 wpAny_mono H (λ_ _ z=>z) λe S z=>(h e S z).elim
def HX {t:TE}(x:∀e s,X.xe e s->False)(he:PE X elt t)(g:gens[d+1]? =none):kf X elt gens sc pos d (Al t):=by
 intro pins s σ H D Q k Q' E I h b;unfold J3;rw[g];refine bM (bM (Qt x (zM (he pins s σ H _ I h) λu s1 ⟨y,H1,f,r,Y,c,z,a⟩=>?_)));refine bM (Qt x (zM (TR pins s1 σ H1 (.ref D) [y] (.ref D) [u] (λ_ l=>Q σ l) f rfl (.cons r .nil) ⟨D,Y,y,rfl,rfl,c,z,a⟩) λ_ s2 ⟨_,j,i,_,q⟩=>?_));exact bN (b s2 σ j i q)
def ED {g:TG}{ti:TT}{tm:kD}(Z:∀e s,X.xe e s->False)(hc:X.calm=true)(hg:gens[d]? =some ⟨tg,iter,ifs,0⟩)(ha:∀g',gens[d+1]? =some g'->g'.is_async=0)(P:PG X tg g)(hi:gD X ifs ti)(hm:kf X elt gens sc pos d tm)
  {Q:St->Hp->Prop}{J:It}{it:Addr}{C:Nat->Heap->Prop}(T:Turn X.prog X.w X.K tg J fp it C)(I:Inv X pins σ H s)(st:C 0 s.heap)(hf:∀b∈fp,yR X pins H b)
  (h:J0 J g ti tm D σ H Q){R:Result->Shared->Prop}(hR:∀z a c,Inv X pins a c z->Q a c->R (.ok .next) z):
  codeAny (model X.prog X.w) X.A (.compLoop (.ListComp elt gens sc pos) d (.ref it) (.ref D) X.env) R s:=by
 obtain⟨W,⟨m0,w0⟩,turn⟩:=h;have S:∀{c:Hp},(∀b∈fp,c b=none)->∀b∈fp,yR X pins c b:=λhn b l=>⟨hn b l,(hf b l).2⟩;refine codeAny_loop rfl (λn z=>∃i a c,Inv X pins a c z/\C i z.heap/\(∀b∈fp,c b=none)/\W i n a c) (λn s3 hI=>?_) m0 ⟨0,σ,H,I,st,λb l=>(hf b l).1,w0⟩;show wpAny _ X.A ((compTurn (.ListComp elt gens sc pos) d (.ref it) (.ref D) X.env).onRaise (λx=>do noteFrame x X.env;theTreesLotGoes x)) _ _ s3
 refine wpAny_noted ?_;rw[Ef hg ha];refine bM (wpAny_standAt ?_);obtain⟨i,j,E,I3,wI,B,w3⟩:=hI;rcases turn i n j E w3 with ⟨stop,qn⟩|⟨go,N,hN,step⟩
 ·refine bM (zM (T.done X rfl rfl rfl hc i pins s3 j E _ I3 (S B) wI stop) λr s4 ⟨M,I4⟩=>?_)
  subst M;exact bN (hR s4 j E I4 qn)
 ·refine bM (zM (T.item X rfl rfl rfl hc i pins s3 j E _ I3 (S B) wI go) λr s4 ⟨u,M,h4⟩=>?_)
  subst M;refine bM (zM h4 λ_ s5 ⟨x,H5,I5,r5,y5,p,U⟩=>?_);have Y:=I5.pinned (S U) (T.obj _ _ p);have back:∀{f:St}{q:Hp}{t:Shared},Inv X (pins++JQ fp s5.heap) f q t->N f q->∃m,m<n/\∃i a c,Inv X pins a c t/\C i t.heap/\(∀b∈fp,c b=none)/\W i m a c:=λ {f q t} v n7=>by
   obtain⟨m',hm,w7⟩:=hN f q n7;refine⟨m',hm,i+1,f,q,v.unpinned,T.keep _ _ _ p λb l o e=>(v.pin (b,o) (aL _ (aL _ (YG l e)))).1,λb l=>?_,w7⟩;obtain⟨o,e,d⟩:=T.obj _ _ p b l;exact(v.pin (b,o) (aL _ (aL _ (YG l e)))).2.1
  refine bM (Qt Z (zM (P _ s5 j H5 x u _ Y r5 (step x H5 y5)) λ_ s6 ⟨y,H6,I6,q6⟩=>?_));refine bM (Qt Z (zM (hi _ s6 y H6 _ I6 q6) λok t ⟨q,v,L⟩=>?_));cases ok with
  |false=>exact bN ⟨rfl,back v L⟩|true=>
   rw[aj rfl]at L;exact hm _ t y q D _ _ _ _ v L λs8 σ8 H8 I8 q8=>bN ⟨rfl,back I8 q8⟩
def PK {g:TG}{ti:TT}{tm:kD}(i:∀e s,X.xe e s->False)(m:X.calm=true)(c:gens[d]? =some ⟨tg,iter,ifs,0⟩)(o:∀g',gens[d+1]? =some g'->g'.is_async=0)(t:PG X tg g)(j:gD X ifs ti)(hm:kf X elt gens sc pos d tm)
  {Q:St->Hp->Prop}{J:It}{it:Addr}{n:Nat->Heap->Prop}(T:Turn X.prog X.w X.K tg J fp it n)(I:Inv X pins σ H s)(st:n 0 s.heap)(hf:∀b∈fp,yR X pins H b)
  (h:J0 J g ti tm D σ H Q){R:Result->Shared->Prop}(p:∀S a f,Inv X pins a f S->Q a f->R (.ok .next) S):
  codeAny (model X.prog X.w) X.A (.compStart (.ListComp elt gens sc pos) d (.ref it) (.ref D) X.env) R s:=by
 have loop:=ED i m c o t j hm T I st hf h p;refine codeAny_of_tree ?_;show wpAny _ _ ((compStart (.ListComp elt gens sc pos) d (.ref it) (.ref D) X.env).onRaise (λx=>do noteFrame x X.env;standAt theWindowsPlace)) _ _ s
 refine wpAny_notedAt ?_;unfold compStart;have l:(clausesOf (.ListComp elt gens sc pos))[d]? =some ⟨tg,iter,ifs,0⟩:=c;rw[l];show wpAny _ _ (ask >>= _) _ _ s;refine bM (wpAny_askSetting (wpAny_ite ?_))
 split
 ·first
   |exact bM (bN (bN (And.intro rfl loop)))
   |exact bN (And.intro rfl loop)
 ·first
   |exact bM (wpAny_rule (bM (wpAny_standAt (bM (T.self _ 0 s _ _ st (bN (And.intro rfl loop)))))))
   |(refine bM (wpAny_rule ?_);show wpAny _ _ (standAt iter.pos >>= _) _ _ s;exact bM (wpAny_standAt (bM (T.self _ 0 s _ _ st (bN (And.intro rfl loop))))))
def HC {w:TI}{g:TG}{ti:TT}{tm:kD}(b:∀e s,X.xe e s->False)(n:X.calm=true)(c:gens[d+1]? =some ⟨tg,iter,ifs,0⟩)(o:∀g',gens[d+2]? =some g'->g'.is_async=0)(hw:PI X tg iter w)(t:PG X tg g)(m:gD X ifs ti)(hm:kf X elt gens sc pos (d+1) tm)
  (j:∀x,foldedSetIterable iter X.env x=pure x:=by intro _;rfl):kf X elt gens sc pos d (Ab w g ti tm):=by
 intro pins s σ H D Q k Q' E I h l;unfold J3;rw[c];refine bM (Qt b (zM (hw pins s σ H _ I h) λv s1 r=>?_));refine bM (wpAny_standAt (bM (wpAny_of_eq (j v) ?_)));refine bM (wpAny_holding (Qt b (zM r λi s2 p=>?_)));obtain⟨it,fp,A,J,B,e,u,T,k4,f2,q⟩:=p;subst e;refine bM (wpAny_runOwn (PK b n c o t m hm T u k4 f2 q λS a z y f=>?_));exact l S a z y f
end
noncomputable def wY (nl:Nat)(cap:bA)(σ:St):St:=List.replicate nl none++cap.map λi=>(σ[i]?).join
noncomputable def Ze (M N:bC)(scope:Scope)(nl:Nat)(cap:bA):Bool:=
 N.length==nl+cap.length&&(List.range cap.length).all λk=>match N[nl+k]?,M[cap.getD k 0]? with
  |some x,some y=>x==y&&scope.names.any λz=>z.1==x&&z.2==NameKind.free|_,_=>false
def HK {M:bC}{nl:Nat}(h:Ze M N scope nl cap=true):(wY nl cap σ).length=N.length/\
  ∀(j:Nat)(x:Str)(v:V),N[j]? =some x->(wY nl cap σ)[j]? =some (some v)->(x,NameKind.free)∈scope.names/\∃i:Nat,M[i]? =some x/\σ[i]? =some (some v):=by
 unfold Ze at h;rw[ag,aM]at h;obtain⟨n,m⟩:=h;refine⟨by unfold wY;simp[n],λj x v r E=>?_⟩
 unfold wY at E
 by_cases b:j<nl
 ·rw[ah (by simpa using b),List.getElem?_replicate]at E
  split at E<;>cases E
 ·rw[ar (by simpa using b),length_replicate,aw]at E
  cases c:cap[j-nl]? with
  |none=>rw[c]at E;cases E|some i=>
   rw[c]at E;have e:(σ[i]?).join=some v:=ax E;have f:j-nl<cap.length:=(bP.mp c).1;have H:=bU.mp m (j-nl) (bO.mpr f);have p:nl+(j-nl)=j:=by omega
   rw[p,r]at H;have q:cap.getD (j-nl) 0=i:=by rw[aa,c];rfl
   rw[q]at H;cases hm:M[i]? with
   |none=>rw[hm]at H;cases H|some y=>
    rw[hm]at H;rw[ag,aM]at H;obtain⟨l,g⟩:=H;subst l;obtain⟨z,d,a⟩:=List.any_eq_true.mp g;rw[ag,aM,aM]at a;refine⟨?_,i,hm,?_⟩
    ·obtain⟨t,Z⟩:=z
     obtain⟨a1,a2⟩:=a;cases a1;cases a2;exact d
    ·cases s:σ[i]? with
     |none=>rw[s]at e;cases e|some o=>rw[s]at e;cases o with
      |none=>cases e|some w=>cases e;rfl
noncomputable abbrev ye:Value->Shared->Prop:=λ_ _=>False
def Ko (K:Frag)(w:TI)(g:TG)(ti:TT)(tm:kD)(nl:Nat)(cap:bA):TE:=λσ H Q=>w σ H λJ h=>∀D,h D=none->K.lookup D=none->J0 J g ti tm D (wY nl cap σ) (upd h D (.lst [])) λ_ a=>Q (.ref D) a
section
variable {iter:Expr}{wi:TI}{g:TG}{ti:TT}{tm:kD}{nl:Nat}
def S9 (hc:X.calm=true)(S:wO X sc)(B:Ze X.N N sc nl cap=true)(ha:∀g',gs[0]? =some g'->g'.is_async=0)(hw:PI X tg iter wi)
  
  (hin:∀s H fp,Inv X pins σ H s->(∀b∈fp,yR X pins H b)->PG (jC X N sc s H fp ye) tg g/\gD (jC X N sc s H fp ye) ifs ti/\kf (jC X N sc s H fp ye) elt (⟨tg,iter,ifs,0⟩::gs) sc pos 0 tm)
  {Q:VK}(I:Inv X pins σ H s)(h:Ko X.K wi g ti tm nl cap σ H Q)
  {use:Option (Value->Sem Unit)}{Q':bD}
  (t:∀(D C:Addr)(l:Shared)(r:Hp)(m:bG),Inv X pins σ r l->Q (.ref D) r->l.heap.Ns C m->r C=none->C≠X.env.locals->X.s0.heap.objs.size<=C->(∀x c,X.env.cells.lookup x=some c->c≠C)->(∀q∈X.pn++pins,q.1≠C)->
   compPost (model X.prog X.w) X.A X.xe use Q' (.ref D) C (.ok .next) l)
  (hs:∀x,foldedSetIterable iter X.env x=pure x:=by intro _;rfl):
  wpAny (model X.prog X.w) X.A (comprehension (.ListComp elt (⟨tg,iter,ifs,0⟩::gs) sc pos) sc X.env p (newList []) false (eval iter X.env) use) Q' X.xe s:=by
 have j:∀y∈sc.names,y.2=.free->∃c,X.env.cells.lookup y.1=some c:=λy Z e=>I.ok.has _ (S.free y Z e);refine wpAny_comprehension_free (use:=use) rfl hs (L6 j) S.kind (λy Z e=>by
  obtain⟨y1,y2⟩:=y;have e':y2=.local:=e;subst e';exact Z8 S.nd Z) ?_
 refine zM (hw pins s σ H _ I h) λv s1 h1=>zM h1 λitv s2 h2=>?_;obtain⟨it,fp,tn,J,P,e,I2,T,k4,f2,q2⟩:=h2;subst e;refine wpAny_newObj_type ?_;have hD:P s2.heap.objs.size=none:=I2.fresh;have hKD:X.K.lookup s2.heap.objs.size=none:=by
  cases ek:X.K.lookup s2.heap.objs.size with
  |none=>rfl|some o=>exact absurd (aF (I2.kIn _ _ ek)) (aT _)
 have Y:=q2 _ hD hKD;generalize hs3:({ s2 with heap:=s2.heap.push { cls:=.type "list",data:=.seq ([]:bw).toArray } }:Shared)=s3
 have f:s3={ s2 with heap:=s2.heap.push { cls:=.type "list",data:=.seq ([]:bw).toArray } }:=hs3.symm
 have i:Inv X pins σ (upd P s2.heap.objs.size (.lst [])) s3:=by
  rw[f];exact I2.laid (t':=s2.toks) (λb u e=>ae _ e) (ak _) ⟨by simp,[],0,.nil,av _ rfl⟩
 have E:∀b∈fp,∃o,s2.heap.get? b=some o:=λb a=>let ⟨o,e,_⟩:=T.obj 0 _ k4 b a;⟨o,e⟩
 have U:s3.heap.objs.size=s2.heap.objs.size+1:=by rw[f];exact a8 ..
 have wI:tn 0 s3.heap:=T.keep _ _ _ k4 λb a o e=>by rw[f];exact ae _ e
 have L:∀b∈fp,b<s3.heap.objs.size:=λb a=>by
  obtain⟨o,e⟩:=E b a;rw[U];exact a5 (aF e)
 have M:∀b∈fp,yR X pins (upd P s2.heap.objs.size (.lst [])) b:=λb a=>by
  obtain⟨o,e⟩:=E b a;refine⟨?_,(f2 b a).2⟩;rw[qx (aO (aF e))];exact(f2 b a).1
 generalize upd P s2.heap.objs.size (.lst [])=H3 at i M Y;generalize s2.heap.objs.size=D at Y ⊢;refine Nm ?_;obtain⟨cl,cs⟩:=HK B (σ:=σ);have I4:=HL (xe:=ye) i S M L cl cs;obtain⟨hgt,hi,hm⟩:=hin s3 H3 fp i M;refine PK (X:=jC X N sc s3 H3 fp ye) (gens:=⟨tg,iter,ifs,0⟩::gs) (d:=0) (λ_ _ z=>z) hc rfl ha hgt hi hm T I4 (T.keep _ _ _ wI λb a o e=>pushCells_keeps _ _ _ _ (ae _ e)) (λb a=>?_) Y λl σ' r n q'=>?_
 ·obtain⟨g1,g2,g3,g4,g5,g6⟩:=M b a
  refine⟨g1,aO (L b a),λz=>?_,.inl a,(I4.ok.exf b a).2,λp hp=>absurd (show p∈([]:bz) from hp) (by simp)⟩
  rcases bQ.mp (i.stkSub b z) with e|e
  ·exact g2 e
  ·exact g3 e
 ·have I5:Inv X pins σ r l:=i.call' n.os n.base n.hok n.bare λb a=>by
   obtain⟨g1,g2,g3,g4,g5,g6⟩:=M b a;exact⟨g4,g2,g5,g6⟩
  obtain⟨m,hn,_⟩:=n.loc;refine t D _ l r m I5 q' hn n.free (ne_of_gt i.lt) i.sz (λx c e z=>?_) λq hq z=>?_
  ·obtain⟨v,w⟩:=i.cell x c e
   exact aT _ (aD w.lt (by rw[z];exact ak _))
  ·exact aT _ (aD (aF (i.pin q hq).1) (by rw[z];exact ak _))
def EE (f:X.calm=true)(S:wO X sc)(p:Ze X.N N sc nl cap=true)(j:∀g',gs[0]? =some g'->g'.is_async=0)(hw:PI X tg iter wi)
  (n:∀s H fp,PG (jC X N sc s H fp ye) tg g/\gD (jC X N sc s H fp ye) ifs ti/\kf (jC X N sc s H fp ye) elt (⟨tg,iter,ifs,0⟩::gs) sc pos 0 tm)
  (d:∀x,foldedSetIterable iter X.env x=pure x:=by intro _;rfl):PE X (.ListComp elt (⟨tg,iter,ifs,0⟩::gs) sc pos) (Ko X.K wi g ti tm nl cap):=by
 intro pins s σ H Q I h;rw[eval_ListComp];refine S9 (use:=none) f S p j hw (λs H fp _ _=>n s H fp) I h (λD C c y m w q hn v u t r l=>?_) d;exact⟨m,hn,λh' a=>⟨.ref D,y,w.turned (t':=c.toks) (λb o i e=>(a.2 b i).trans e) v u (.inr t) r l,rfl,q⟩⟩
def Ii {p:Pos}{c:Pos}(T:X.N.Nodup)(l:X.N[i]? =some x)(t:X.env.scope.names.lookup x=some .local)
  (w:swapsWith (.ListComp elt (⟨tg,iter,ifs,0⟩::gs) sc pos) (some (.Name x p)) c.line X.env=pure true)
  (M:X.calm=true)(S:wO X sc)(d:Ze X.N N sc nl cap=true)(Q:∀g',gs[0]? =some g'->g'.is_async=0)(hw:PI X tg iter wi)
  (n:∀s H fp,PG (jC X N sc s H fp ye) tg g/\gD (jC X N sc s H fp ye) ifs ti/\kf (jC X N sc s H fp ye) elt (⟨tg,iter,ifs,0⟩::gs) sc pos 0 tm)
  (J:∀x,foldedSetIterable iter X.env x=pure x:=by intro _;rfl):PS X (.Assign [.Name x p] (.ListComp elt (⟨tg,iter,ifs,0⟩::gs) sc pos) c) (Kx (Ko X.K wi g ti tm nl cap) (Kq i)):=by
 intro pins s σ H D I h;rw[exec_Assign_Name_used _ _ _ _ w];refine bM (wpAny_standAt (bM ?_));show wpAny _ X.A (do let _ <- comprehension (.ListComp elt (⟨tg,iter,ifs,0⟩::gs) sc pos) sc X.env _ (newList []) false (eval iter X.env) (some (assign (.Name x p) X.env))) _ _ s
 refine bM (wpAny_mono (S9 (use:=some (assign (.Name x p) X.env)) (Q':=λ_ j=>SP X pins D .next j) M S d Q hw (λs H fp _ _=>n s H fp) I h (λB C j H' m I' q hn Z y Y u U=>?_) J) (λ_ j L=>bN (bN L)) λ_ _ e=>e);show wpAny _ X.A (assign (.Name x p) X.env (.ref B)) _ _ _;refine wpAny_assign_Name (TM I' T l (.inl t) (v:=.ref B) rfl (λs2 I2 ⟨a,E,ea⟩=>?_) (.inr t));have r:C≠a:=by
  rcases ea with e|e
  ·rw[e];exact y
  ·exactλz=>u x a e z.symm
 refine⟨m,hn.sameBut E r,λh' f=>⟨_,H',I2.turned (t':=s2.toks) (λb o P e=>(f.2 b P).trans e) Z y (.inr Y) u U,q⟩⟩
end
end L2
namespace Mi
open PySem PySem.Spec PyProof.Rows L2
inductive W where
 |non|bl (b:Bool)|int (i:Int)|str (x:Str)|tup (xs:List W)|ref (n:Nat)
 |clo (k:Nat) (xs:List W) (P:Obj->Addr->Obj->List V->Prop)
 |xc (x:Str)
inductive O where
 |lst (xs:List W)|ro (xs:List W)|dct (kvs:List (Key×W))
 |td (kvs:List (List Int×W))
 |tr (kvs:List (List Int×W))
 |tab (q:Str) (P:Addr)
noncomputable def O.mut:O->Bool
 |.ro _=>false|.tr _=>false|_=>true
noncomputable abbrev Hx:=List O
noncomputable abbrev En:=List (Option W)
inductive R (α:Type) where
 |ok (a:α) (A:Hx)|exc (x:Str) (A:Hx)|bad
noncomputable def R.bind {β:Type}(r:R α)(f:α->Hx->R β):R β:=match r with
 |.ok a A=>f a A|.exc x A=>.exc x A|.bad=>.bad
def R.post (r:R α)(P:α->Hx->Prop)(E:Str->Hx->Prop):Prop:=match r with
 |.ok a A=>P a A|.exc x A=>E x A|.bad=>False
noncomputable def R.nox (r:R α):R α:=match r with
 |.ok a A=>.ok a A|.exc _ _=>.bad|.bad=>.bad
section
variable {β:Type}{r:R α}{f:α->Hx->R β}{P Q:α->Hx->Prop}{P':β->Hx->Prop}{E F:Str->Hx->Prop}
def zK {a:α}{A:Hx}:(R.ok a A).bind f=f a A:=rfl
def zW:(r.bind f).post P' E↔r.post (λa A=>(f a A).post P' E) E:=by cases r<;>exact Iff.rfl
def qw (h:r.post P E)(H:∀a A,P a A->Q a A)(b:∀x A,E x A->F x A):r.post Q F:=by
 cases r with
 |ok a A=>exact H _ _ h|exc x A=>exact b _ _ h|bad=>exact h
end
abbrev Ev:=En->Hx->R W
inductive AU (K:Frag)(H:Hp)(R:List V->Prop)(v:V):Prop
 |mk (a:Addr) (vs:List V) (e:v=.ref a) (h:qm K H a vs) (r:R vs)
inductive zau (H:Hp)(P:Obj->Addr->Obj->List V->Prop)(R:List V->Prop)(v:V):Prop
 |mk (a:Addr) (ob:Obj) (u:HO) (c:Addr) (oc:Obj) (uc:HO) (vs:List V) (e:v=.ref a) (h1:H a=some (.frz ob u)) (h2:H c=some (.frz oc uc)) (p:P ob c oc vs) (r:R vs)
inductive AK (R:V->Prop)(Rs:List V->Prop)(vs:List V):Prop
 |mk (v:V) (r:List V) (e:vs=v::r) (h:R v) (t:Rs r)
mutual
noncomputable def RV (K:Frag)(φ:bx)(H:Hp):W->V->Prop
 |.non,v=>v=.non|.bl b,v=>v=.bl b|.int i,v=>v=.int i|.str x,v=>v=.str x|.tup ws,v=>AU K H (zF K φ H ws) v|.ref n,v=>∃a,v=.ref a/\φ[n]? =some a|.clo _ ws P,v=>zau H P (zF K φ H ws) v|.xc x,v=>∃a o u C,v=.ref a/\H a=some (.frz o u)/\o.cls=.ref C/\nsIn K mainGlobals x=some (some (.ref C))
noncomputable def zF (K:Frag)(φ:bx)(H:Hp):List W->List V->Prop
 |[],vs=>vs=[]|w::ws,vs=>AK (RV K φ H w) (zF K φ H ws) vs
end
structure Le (K:Frag)(φ:bx)(H:Hp)(φ':bx)(H':Hp):Prop where
 ex:∀(n:Nat)(a:Addr),φ[n]? =some a->φ'[n]? =some a
 tp:∀a vs,qm K H a vs->qm K H' a vs
 fr:∀a o,H a=some o->(∀n:Nat,φ[n]?≠some a)->H' a=some o
 nw:∀(n:Nat)(a:Addr),φ'[n]? =some a->φ[n]? =some a∨H a=none
 st:∀a,H' a=none->H a=none
 fz:∀a o u,H a=some (.frz o u)->H' a=some (.frz o u)
def Le.refl {K φ H}:Le K φ H φ H:=⟨λ_ _ h=>h,λ_ _ h=>h,λ_ _ h _=>h,λ_ _ h=>.inl h,λ_ h=>h,λ_ _ _ h=>h⟩
def Le.trans {K φ H φ1 H1 φ2 H2}(a:Le K φ H φ1 H1)(b:Le K φ1 H1 φ2 H2):Le K φ H φ2 H2 where
 ex:=λn x h=>b.ex n x (a.ex n x h)
 tp:=λn x h=>b.tp n x (a.tp n x h)
 fr:=λc o h n=>b.fr c o (a.fr c o h n) λk e=>by
  rcases a.nw k c e with e|e
  ·exact n k e
  ·rw[h]at e;cases e
 nw:=λn c e=>by
  rcases b.nw n c e with e|e
  ·exact a.nw n c e
  ·exact .inr (a.st c e)
 st:=λc e=>a.st c (b.st c e)
 fz:=λc o u h=>b.fz c o u (a.fz c o u h)
def Le.off {K φ H φ' H'}(l:Le K φ H φ' H')(h:H D=some o)(n:∀k:Nat,φ[k]?≠some D):H' D=some o/\∀k:Nat,φ'[k]?≠some D:=
 ⟨l.fr D o h n,λk e=>by
  rcases l.nw k D e with e|e
  ·exact n k e
  ·rw[h]at e;cases e⟩
section
variable {K:Frag}{φ':bx}{H':Hp}
structure gP (K:Frag)(φ:bx)(H:Hp)(φ':bx)(H':Hp):Prop where
 ex:∀(n:Nat)(a:Addr),φ[n]? =some a->φ'[n]? =some a
 tp:∀a vs,qm K H a vs->qm K H' a vs
 fz:∀a o u,H a=some (.frz o u)->H' a=some (.frz o u)
mutual
theorem RV.monoW (l:gP K φ H φ' H'):∀{w:W}{v:V},RV K φ H w v->RV K φ' H' w v
 |.non,_,h=>h|.bl _,_,h=>h|.int _,_,h=>h|.str _,_,h=>h|.tup ws,_,⟨a,vs,e,t,r⟩=>⟨a,vs,e,l.tp _ _ t,zF.monoW l r⟩|.ref n,_,⟨a,e,f⟩=>⟨a,e,l.ex _ _ f⟩|.clo _ ws P,_,⟨a,ob,u,c,g,U,vs,e,d,b,i,r⟩=>⟨a,ob,u,c,g,U,vs,e,l.fz _ _ _ d,l.fz _ _ _ b,i,zF.monoW l r⟩|.xc x,_,⟨a,o,u,C,e,d,b⟩=>⟨a,o,u,C,e,l.fz _ _ _ d,b⟩
theorem zF.monoW (l:gP K φ H φ' H'):∀{ws:List W}{vs:List V},zF K φ H ws vs->zF K φ' H' ws vs
 |[],_,h=>h|w::ws,_,⟨v,r,e,h,t⟩=>⟨v,r,e,RV.monoW l h,zF.monoW l t⟩
end
def RV.mono {w:W}(h:RV K φ H w v)(l:Le K φ H φ' H'):RV K φ' H' w v:=RV.monoW ⟨l.ex,l.tp,l.fz⟩ h
def zF.mono {w:List W}{v:List V}(h:zF K φ H w v)(l:Le K φ H φ' H'):zF K φ' H' w v:=zF.monoW ⟨l.ex,l.tp,l.fz⟩ h
structure yh (K:Frag)(D:Addr)(φ:bx)(H:Hp)(φ':bx)(H':Hp):Prop where
 ex:∀(n:Nat)(a:Addr),φ[n]? =some a->φ'[n]? =some a
 tp:∀a vs,qm K H a vs->qm K H' a vs
 fr:∀a o,a≠D->H a=some o->(∀n:Nat,φ[n]?≠some a)->H' a=some o
 nw:∀(n:Nat)(a:Addr),φ'[n]? =some a->φ[n]? =some a∨H a=none
 st:∀a,H' a=none->H a=none
 fz:∀a o u,H a=some (.frz o u)->H' a=some (.frz o u)
def yh.refl {D}:yh K D φ H φ H:=⟨λ_ _ h=>h,λ_ _ h=>h,λ_ _ _ h _=>h,λ_ _ h=>.inl h,λ_ h=>h,λ_ _ _ h=>h⟩
def Le.toD {D}(l:Le K φ H φ' H'):yh K D φ H φ' H':=⟨l.ex,l.tp,λa o _ h n=>l.fr a o h n,l.nw,l.st,l.fz⟩
def yh.trans {D φ1 H1 φ2 H2}(a:yh K D φ H φ1 H1)(b:yh K D φ1 H1 φ2 H2):yh K D φ H φ2 H2 where
 ex:=λn x h=>b.ex n x (a.ex n x h)
 tp:=λn x h=>b.tp n x (a.tp n x h)
 fr:=λc o ne h n=>b.fr c o ne (a.fr c o ne h n) λk e=>by
  rcases a.nw k c e with e|e
  ·exact n k e
  ·rw[h]at e;cases e
 nw:=λn c e=>by
  rcases b.nw n c e with e|e
  ·exact a.nw n c e
  ·exact .inr (a.st c e)
 st:=λc e=>a.st c (b.st c e)
 fz:=λc o u h=>b.fz c o u (a.fz c o u h)
def RV.monoD {D}{w:W}(h:RV K φ H w v)(l:yh K D φ H φ' H'):RV K φ' H' w v:=RV.monoW ⟨l.ex,l.tp,l.fz⟩ h
def zF.monoD {D}{w:List W}{v:List V}(h:zF K φ H w v)(l:yh K D φ H φ' H'):zF K φ' H' w v:=zF.monoW ⟨l.ex,l.tp,l.fz⟩ h
theorem zF.length:∀{ws:List W}{vs:List V},zF K φ H ws vs->ws.length=vs.length
 |[],_,h=>by cases h;rfl|w::ws,_,⟨v,r,e,_,t⟩=>by subst e;simp[zF.length t]
theorem zF.get:∀{ws:List W}{vs:List V}{i:Nat}{w:W},zF K φ H ws vs->ws[i]? =some w->∃v,vs[i]? =some v/\RV K φ H w v
 |[],_,_,_,_,e=>by simp at e|w::ws,_,0,_,⟨v,r,e,h,t⟩,q=>by subst e;simp at q;subst q;exact⟨v,by simp,h⟩|w::ws,_,i+1,x,⟨v,r,e,h,t⟩,q=>by
  subst e;obtain⟨y,b,a⟩:=zF.get (i:=i) (w:=x) t (by simpa using q)
  exact⟨y,by simpa using b,a⟩
theorem zF.append:∀{ws us:List W}{vs xs:List V},zF K φ H ws vs->zF K φ H us xs->zF K φ H (ws++us) (vs++xs)
 |[],_,_,_,h,t=>by cases h;exact t|w::ws,_,_,_,⟨v,r,e,h,t⟩,T=>by subst e;exact⟨v,r++_,rfl,h,zF.append t T⟩
def zF.one {w:W}(h:RV K φ H w v):zF K φ H [w] [v]:=⟨v,[],rfl,h,rfl⟩
def zF.nil:zF K φ H [] []:=rfl
def zF.cons {w:W}{v:V}{ws:List W}{vs:List V}(h:RV K φ H w v)(t:zF K φ H ws vs):zF K φ H (w::ws) (v::vs):=⟨v,vs,rfl,h,t⟩
theorem zF.set {w:W}(q:RV K φ H w v):∀{ws:List W}{vs:List V}(i:Nat),zF K φ H ws vs->zF K φ H (ws.set i w) (vs.set i v)
 |[],_,_,h=>by cases h;exact rfl|_::_,_,0,⟨a,r,e,h,t⟩=>by subst e;exact⟨v,r,rfl,q,t⟩|_::_,_,i+1,⟨a,r,e,h,t⟩=>by subst e;exact⟨a,_,rfl,h,zF.set q i t⟩
theorem zF.drop:∀{ws:List W}{vs:List V}(n:Nat),zF K φ H ws vs->zF K φ H (ws.drop n) (vs.drop n)
 |[],_,n,h=>by cases h;rw[List.drop_nil,List.drop_nil];exact zF.nil|_::_,_,0,h=>by simpa using h|_::_,_,n+1,⟨v,r,e,h,t⟩=>by subst e;simpa using zF.drop n t
theorem zF.take:∀{ws:List W}{vs:List V}(n:Nat),zF K φ H ws vs->zF K φ H (ws.take n) (vs.take n)
 |[],_,n,h=>by cases h;rw[List.take_nil,List.take_nil];exact zF.nil|_::_,_,0,h=>by rw[take_zero,take_zero];exact zF.nil|_::_,_,n+1,⟨v,r,e,h,t⟩=>by subst e;exact⟨v,_,rfl,h,zF.take n t⟩
theorem zF.erase:∀{ws:List W}{vs:List V}(n:Nat),zF K φ H ws vs->zF K φ H (ws.eraseIdx n) (vs.eraseIdx n)
 |[],_,n,h=>by cases h;rw[List.eraseIdx_nil,List.eraseIdx_nil];exact zF.nil|_::_,_,0,⟨v,r,e,h,t⟩=>by subst e;simpa using t|_::_,_,n+1,⟨v,r,e,h,t⟩=>by subst e;exact⟨v,_,rfl,h,zF.erase n t⟩
theorem zF.ints:∀{ns:bt}{vs:List V},zF K φ H (ns.map W.int) vs↔vs=ns.map V.int
 |[],vs=>Iff.rfl|n::ns,vs=>by
  constructor
  ·rintro⟨v,r,e,h,t⟩
   rw[e,(show v=V.int n from h),zF.ints.mp t];rfl
  ·intro e
   exact⟨V.int n,ns.map V.int,e,rfl,zF.ints.mpr rfl⟩
def Vk (K:Frag)(H:Hp)(a:Addr)(xs:List V):Prop:=
 (∃ob,H a=some (.frz ob (.lst xs)))∨
  ∃(o:Obj) (its:Array Value) (n:Nat),K.lookup a=some o/\o.cls=.type "list" /\ o.dict=none/\o.data=.seq its n/\its.size<=sizeLine/\Vals xs its.toList
def Vk.sq (h:Vk K H a xs):qF K H a xs:=by
 rcases h with h|h
 ·exact .inl (.inr h)
 ·exact .inr h
inductive TabAt (H:Hp)(q:Str)(cv:Value):Prop
 |mk (c:Addr) (oc:Obj) (u:HO) (vs:Array Value) (t:Tok) (e:cv=.ref c) (h:H c=some (.frz oc u)) (d:oc.data=.fields vs/\vs[1]? =some (.str q t))
def KA (H:Hp)(q:Str)(p:Array Value):Prop:=TriplesOk p.toList/\∀pos c,codeAmong pos p.toList=some c->TabAt H q c
def KA.mono {q:Str}{p:Array Value}(h:KA H q p)(l:∀a o u,H a=some (.frz o u)->H' a=some (.frz o u)):KA H' q p:=
 ⟨h.1,λpos C e=>by obtain⟨c,b,u,vs,t,g,f,d⟩:=h.2 pos C e;exact⟨c,b,u,vs,t,g,l _ _ _ f,d⟩⟩
noncomputable def hT (ks:bt):Int:=reduceHash (Builtin.Tuple.tupleHashOf (ks.map hashInt))
def ck (a:Addr)(xs:List (List Int×Addr×V))(h:Heap):Prop:=(a==sysModules)=false/\xs.length<=sizeLine/\∃zs:List (List Int×Addr×Value),
 Paired (λ(p:List Int×Addr×V) (q:List Int×Addr×Value)=>p.1=q.1/\p.2.1=q.2.1/\RelV p.2.2 q.2.2) xs zs/\
 ∃o e E,h.get? a=some o/\o.ExactDict/\o.data=.dict e E/\e.toList=zs.map (λx=>(⟨hT x.1,.ref x.2.1,x.2.2⟩:DictEntry))/\(zs.map (·.1)).Nodup
def cm (a:Addr)(xs:List (List Int×Addr×V))(o:Obj):Prop:=(a==sysModules)=false/\xs.length<=sizeLine/\∃zs:List (List Int×Addr×Value),
 Paired (λ(p:List Int×Addr×V) (q:List Int×Addr×Value)=>p.1=q.1/\p.2.1=q.2.1/\RelV p.2.2 q.2.2) xs zs/\
 ∃e E,o.ExactDict/\o.data=.dict e E/\e.toList=zs.map (λx=>(⟨hT x.1,.ref x.2.1,x.2.2⟩:DictEntry))/\(zs.map (·.1)).Nodup
def OR (K:Frag)(φ:bx)(H:Hp)(a:Addr):O->Prop
 |.lst ws=>∃vs,H a=some (.lst vs)/\zF K φ H ws vs|.ro ws=>∃vs,Vk K H a vs/\zF K φ H ws vs|.dct kvs=>∃us,H a=some (.dK us)/\us.map (·.1)=kvs.map (·.1)/\zF K φ H (kvs.map (·.2)) (us.map (·.2))|.td kvs=>∃xs:List (List Int×Addr×V),H a=some (.ext (ck a xs))/\xs.map (·.1)=kvs.map (·.1)/\(∀x∈xs,qm K H x.2.1 (x.1.map V.int))/\zF K φ H (kvs.map (·.2)) (xs.map (·.2.2))|.tr kvs=>∃(ob:Obj) (u:HO) (xs:List (List Int×Addr×V)),H a=some (.frz ob u)/\cm a xs ob/\xs.map (·.1)=kvs.map (·.1)/\(∀x∈xs,qm K H x.2.1 (x.1.map V.int))/\zF K φ H (kvs.map (·.2)) (xs.map (·.2.2))|.tab q P=>a=P/\∃p,H a=some (.tbl p)/\KA H q p
structure zL (K:Frag)(φ:bx)(A:Hx)(H:Hp):Prop where
 len:φ.length=A.length
 inj:∀(i j:Nat)(a:Addr)(o o':O),φ[i]? =some a->φ[j]? =some a->A[i]? =some o->A[j]? =some o'->o.mut=true->o'.mut=true->i=j
 ob:∀(n:Nat)(o:O),A[n]? =some o->∃a,φ[n]? =some a/\OR K φ H a o
variable {A:Hx}
def OR.there {o:O}(h:OR K φ H a o)(m:o.mut=true):∃u,H a=some u/\(∀xs,u≠.tup xs)/\(∀ob v,u≠.frz ob v):=by
 cases o with
 |lst ws=>obtain⟨vs,e,_⟩:=h;exact⟨_,e,λ_ z=>(by cases z),λ_ _ z=>(by cases z)⟩|ro ws=>cases m|dct kvs=>obtain⟨vs,e,_⟩:=h;exact⟨_,e,λ_ z=>(by cases z),λ_ _ z=>(by cases z)⟩|td kvs=>obtain⟨vs,e,_⟩:=h;exact⟨_,e,λ_ z=>(by cases z),λ_ _ z=>(by cases z)⟩|tr _=>cases m|tab q P=>obtain⟨_,vs,e,_⟩:=h;exact⟨_,e,λ_ z=>(by cases z),λ_ _ z=>(by cases z)⟩
def YS (h:qm K H a vs)(n:∀xs,H b≠some (.tup xs))(N:∀ob u,H b≠some (.frz ob u)):qm K (upd H b o) a vs:=by
 rcases h with (h|⟨ob,h⟩)|h
 ·exact .inl (.inl (by rw[qx];exact h;intro e;subst e;exact n _ h))
 ·exact .inl (.inr ⟨ob,by rw[qx];exact h;intro e;subst e;exact N _ _ h⟩)
 ·exact .inr h
theorem Le.upd {k:Nat}(c:φ[k]? =some b)(n:∀xs,H b≠some (.tup xs))(N:∀ob u,H b≠some (.frz ob u)):Le K φ H φ (upd H b o) where
 ex:=λ_ _ h=>h
 tp:=λ_ _ h=>YS h n N
 fr:=λa u h z=>by
  rw[qx];exact h;intro e;subst e;exact z k c
 nw:=λ_ _ h=>.inl h
 st:=λa h=>by
  by_cases e:a=b
  ·subst e;rw[j6]at h;cases h
  ·rw[qx e]at h;exact h
 fz:=λa ob u h=>by
  rw[qx];exact h;intro e;subst e;exact N _ _ h
def Le.new {p:Addr}(b:H p=none):Le K φ H φ (L2.upd H p o) where
 ex:=λ_ _ h=>h
 tp:=λ_ _ h=>YS h (λxs z=>by rw[b]at z;cases z) (λ_ _ z=>by rw[b]at z;cases z)
 fr:=λa u h z=>by
  rw[qx];exact h;intro e;subst e;rw[b]at h;cases h
 nw:=λ_ _ h=>.inl h
 st:=λa h=>by
  by_cases e:a=p
  ·subst e;rw[j6]at h;cases h
  ·rw[qx e]at h;exact h
 fz:=λa ob u h=>by
  rw[qx];exact h;intro e;subst e;rw[b]at h;cases h
def Le.alloc {p:Addr}(b:H p=none):Le K φ H (φ++[p]) (L2.upd H p o) where
 ex:=λn a h=>by
  have:=(bP.mp h).1
  rw[ah this];exact h
 tp:=(Le.new (φ:=φ) b).tp
 fr:=(Le.new (K:=K) (φ:=φ) b).fr
 nw:=λn a h=>by
  by_cases hn:n < φ.length
  ·rw[ah hn]at h;exact .inl h
  ·rw[ar (by omega)]at h
   have e:a=p:=by
    have:=mem_of_getElem? h
    simpa using this
   subst e;exact .inr b
 st:=(Le.new (K:=K) (φ:=φ) b).st
 fz:=(Le.new (K:=K) (φ:=φ) b).fz
def Le.ofD (b:H D=none)(l:yh K D φ (L2.upd H D o) φ' H'):Le K φ H φ' H' where
 ex:=l.ex
 tp:=λa vs h=>l.tp a vs ((Le.new (K:=K) (φ:=φ) b).tp a vs h)
 fr:=λa u h n=>by
  have ne:a≠D:=by rintro rfl;rw[b]at h;cases h
  exact l.fr a u ne (by rw[qx ne];exact h) n
 nw:=λn a e=>by
  rcases l.nw n a e with e|e
  ·exact .inl e
  ·by_cases h:a=D
   ·subst h;rw[j6]at e;cases e
   ·rw[qx h]at e;exact .inr e
 st:=λa e=>by
  have E:=l.st a e
  by_cases h:a=D
  ·subst h;rw[j6]at E;cases E
  ·rw[qx h]at E;exact E
 fz:=λa ob u h=>l.fz a ob u (by rw[qx];exact h;rintro rfl;rw[b]at h;cases h)
theorem yh.upd (b:H D=some (.lst xs)):yh K D φ H φ (L2.upd H D o) where
 ex:=λ_ _ h=>h
 tp:=λa vs h=>YS h (λxs z=>by rw[b]at z;cases z) (λ_ _ z=>by rw[b]at z;cases z)
 fr:=λa u ne h n=>by rw[qx ne];exact h
 nw:=λ_ _ h=>.inl h
 st:=λa e=>by
  by_cases h:a=D
  ·subst h;rw[j6]at e;cases e
  ·rw[qx h]at e;exact e
 fz:=λa ob u h=>by
  rw[qx];exact h;intro e;subst e;rw[b]at h;cases h
def OR.keep {o:O}(h:OR K φ H a o)(l:Le K φ H φ' H')(e:∀u,H a=some u->H' a=some u):OR K φ' H' a o:=by
 cases o with
 |lst ws=>obtain⟨vs,q,r⟩:=h;exact⟨vs,e _ q,r.mono l⟩|dct kvs=>obtain⟨vs,q,k,r⟩:=h;exact⟨vs,e _ q,k,r.mono l⟩|td kvs=>obtain⟨vs,q,k,t,r⟩:=h;exact⟨vs,e _ q,k,λx b=>l.tp _ _ (t x b),r.mono l⟩|tr kvs=>obtain⟨ob,u,vs,q,d,k,t,r⟩:=h;exact⟨ob,u,vs,e _ q,d,k,λx b=>l.tp _ _ (t x b),r.mono l⟩|tab q P=>obtain⟨k,p,q,r⟩:=h;exact⟨k,p,e _ q,r.mono l.fz⟩|ro ws=>
  obtain⟨vs,q,r⟩:=h;refine⟨vs,?_,r.mono l⟩;rcases q with ⟨ob,q⟩|q
  ·exact .inl ⟨ob,e _ q⟩
  ·exact .inr q
theorem zL.alloc {p:Addr}{u:HO}{o:O}(S:zL K φ A H)(r:H p=none)(new:OR K (φ++[p]) (L2.upd H p u) p o):Le K φ H (φ++[p]) (L2.upd H p u)/\zL K (φ++[p]) (A++[o]) (L2.upd H p u):=by
 have l:Le K φ H (φ++[p]) (L2.upd H p u):=Le.alloc r;have old:∀(i:Nat) a,(φ++[p])[i]? =some a->i<A.length->φ[i]? =some a:=λi a e b=>by
  rw[ah (by rw[S.len];exact b)]at e;exact e
 refine⟨l,by simp[S.len],λi j a x w m g f c m1 m2=>?_,λn o' e=>?_⟩
 ·by_cases b:i<A.length
  ·by_cases d:j<A.length
   ·rw[ah b]at f
    rw[ah d]at c;exact S.inj i j a x w (old i a m b) (old j a g d) f c m1 m2
   ·exfalso
    rw[ah b]at f;have t:j=A.length:=by have:=(bP.mp c).1;simp at this;omega
    subst t;rw[ar (by rw[S.len];exact ak _),S.len]at g
    simp at g;obtain⟨B,E,q⟩:=S.ob i x f;rw[old i a m b]at E;cases E;obtain⟨z,h,_⟩:=q.there m1;rw[<- g,r]at h;cases h
  ·have v:i=A.length:=by have:=(bP.mp f).1;simp at this;omega
   by_cases d:j<A.length
   ·exfalso
    rw[ah d]at c;subst v;rw[ar (by rw[S.len];exact ak _),S.len]at m
    simp at m;obtain⟨B,E,q⟩:=S.ob j w c;rw[old j a g d]at E;cases E;obtain⟨z,h,_⟩:=q.there m2;rw[<- m,r]at h;cases h
   ·have:=(bP.mp c).1;simp at this;omega
 ·by_cases hn:n<A.length
  ·rw[ah hn]at e
   obtain⟨a,E,q⟩:=S.ob n o' e;refine⟨a,l.ex _ _ E,q.keep l λz h=>?_⟩;rw[qx];exact h;intro y;subst y;rw[r]at h;cases h
  ·have s:n=A.length:=by have:=(bP.mp e).1;simp at this;omega
   subst s;rw[ar (ak _)]at e;simp at e;subst e;exact⟨p,by rw[ar (by rw[S.len];exact ak _),S.len];simp,new⟩
def zL.write {p:Addr}{u:HO}{o o':O}(S:zL K φ A H)(hn:A[n]? =some o)(m:o.mut=true)(X:o'.mut=true)(c:φ[n]? =some p)(new:OR K φ (L2.upd H p u) p o'):
  Le K φ H φ (L2.upd H p u)/\zL K φ (A.set n o') (L2.upd H p u):=by
 obtain⟨U,e,q⟩:=S.ob n o hn;rw[c]at e;cases e;obtain⟨z,h,nt,N⟩:=q.there m;have l:Le K φ H φ (L2.upd H p u):=Le.upd c (λxs e=>by rw[h]at e;exact nt xs (ax e)) λob v e=>by rw[h]at e;exact N ob v (ax e)
 have mt:∀(i:Nat)(w:O),(A.set n o')[i]? =some w->w.mut=true->∃f,A[i]? =some f/\f.mut=true:=λi w e M=>by
  by_cases hi:i=n
  ·subst hi;exact⟨o,hn,m⟩
  ·rw[ay (Ne.symm hi)]at e;exact⟨w,e,M⟩
 refine⟨l,by simp[S.len],λi j a C B Q P L J m1 m2=>?_,λi w e=>?_⟩
 ·obtain⟨s,E,k1⟩:=mt i C L m1
  obtain⟨g,T,D⟩:=mt j B J m2;exact S.inj i j a s g Q P E T k1 D
 ·by_cases hi:i=n
  ·subst hi
   have:i<A.length:=(bP.mp hn).1
   rw[aB this]at e;cases e;exact⟨p,c,new⟩
  ·rw[ay (Ne.symm hi)]at e
   obtain⟨a,E,r⟩:=S.ob i w e;refine⟨a,E,?_⟩
   by_cases hm:w.mut=true
   ·have ne:a≠p:=λz=>hi (S.inj i n a w o E (by rw[z];exact c) e hn hm m)
    exact r.keep l λz h=>by rw[qx ne];exact h
   ·cases w with
    |lst _=>exact absurd rfl hm|dct _=>exact absurd rfl hm|td _=>exact absurd rfl hm|tr _=>obtain⟨ob,u,vs,q,d,k,t,r⟩:=r;exact⟨ob,u,vs,l.fz _ _ _ q,d,k,λx I=>l.tp _ _ (t x I),r.mono l⟩|tab _ _=>exact absurd rfl hm|ro ws=>
     obtain⟨vs,b,y⟩:=r;refine⟨vs,?_,y.mono l⟩;rcases b with ⟨ob,b⟩|b
     ·refine .inl ⟨ob,?_⟩
      rw[qx];exact b;intro z;subst z;rw[h]at b;exact N _ _ (ax b)
     ·exact .inr b
def zL.lay {p:Addr}{u:HO}(S:zL K φ A H)(b:H p=none):zL K φ A (L2.upd H p u):=
 ⟨S.len,S.inj,λn o e=>by
  obtain⟨a,c,q⟩:=S.ob n o e;refine⟨a,c,q.keep (Le.new b) λz h=>?_⟩;rw[qx];exact h;intro E;subst E;rw[b]at h;cases h⟩
def zL.off (S:zL K φ A H)(b:H D=some (.lst xs))(n:∀k:Nat,φ[k]?≠some D):zL K φ A (L2.upd H D o):=
 ⟨S.len,S.inj,λk u e=>by
  obtain⟨a,E,q⟩:=S.ob k u e;have ne:a≠D:=λz=>n k (by rw[<- z];exact E)
  have l:yh K D φ H φ (L2.upd H D o):=yh.upd b;refine⟨a,E,?_⟩;cases u with
  |lst ws=>obtain⟨vs,q,r⟩:=q;exact⟨vs,by rw[qx ne];exact q,r.monoD l⟩|dct kvs=>obtain⟨vs,q,k,r⟩:=q;exact⟨vs,by rw[qx ne];exact q,k,r.monoD l⟩|td kvs=>obtain⟨vs,q,k,t,r⟩:=q;exact⟨vs,by rw[qx ne];exact q,k,λx h=>l.tp _ _ (t x h),r.monoD l⟩|tr kvs=>obtain⟨ob,u,vs,q,d,k,t,r⟩:=q;exact⟨ob,u,vs,l.fz _ _ _ q,d,k,λx h=>l.tp _ _ (t x h),r.monoD l⟩|tab _ _=>obtain⟨k,vs,q,r⟩:=q;exact⟨k,vs,by rw[qx ne];exact q,r.mono l.fz⟩|ro ws=>
   obtain⟨vs,q,r⟩:=q;refine⟨vs,?_,r.monoD l⟩;rcases q with ⟨ob,q⟩|q
   ·exact .inl ⟨ob,by rw[qx ne];exact q⟩
   ·exact .inr q⟩
def zL.notin (S:zL K φ A H)(h:H D=none)(c:K.lookup D=none):∀k:Nat,φ[k]?≠some D:=λk e=>by
 have b:k<A.length:=by rw[<- S.len];exact(bP.mp e).1
 obtain⟨a,E,q⟩:=S.ob k A[k] (by simp[b])
 rw[e]at E;cases E;cases ho:A[k] with
 |lst ws=>rw[ho]at q;obtain⟨vs,z,_⟩:=q;rw[h]at z;cases z|dct ws=>rw[ho]at q;obtain⟨vs,z,_⟩:=q;rw[h]at z;cases z|td _=>rw[ho]at q;obtain⟨vs,z,_⟩:=q;rw[h]at z;cases z|tr _=>rw[ho]at q;obtain⟨_,_,_,z,_⟩:=q;rw[h]at z;cases z|tab _ _=>rw[ho]at q;obtain⟨_,vs,z,_⟩:=q;rw[h]at z;cases z|ro ws=>
  rw[ho]at q;obtain⟨vs,z,_⟩:=q;rcases z with ⟨ob,z⟩|⟨o,i,n,z,_⟩
  ·rw[h]at z;cases z
  ·rw[c]at z;cases z
def zL.track {u:HO}{o:O}(S:zL K φ A H)(I:H D=some u)(n:∀k:Nat,φ[k]?≠some D)(new:OR K (φ++[D]) H D o):zL K (φ++[D]) (A++[o]) H:=by
 have l:gP K φ H (φ++[D]) H:=⟨λn a h=>by
  have:=(bP.mp h).1
  rw[ah this];exact h,λ_ _ h=>h,λ_ _ _ h=>h⟩
 have old:∀(i:Nat) a,(φ++[D])[i]? =some a->i<A.length->φ[i]? =some a:=λi a e b=>by
  rw[ah (by rw[S.len];exact b)]at e;exact e
 have last:∀a,(φ++[D])[A.length]? =some a->a=D:=λa e=>by
  rw[ar (by rw[S.len];exact ak _),S.len]at e
  simpa using e.symm
 refine⟨by simp[S.len],λi j a C B y w v f m1 m2=>?_,λk o' e=>?_⟩
 ·by_cases b:i<A.length
  ·by_cases c:j<A.length
   ·rw[ah b]at v
    rw[ah c]at f;exact S.inj i j a C B (old i a y b) (old j a w c) v f m1 m2
   ·exfalso
    have p:j=A.length:=by have:=(bP.mp f).1;simp at this;omega
    subst p;exact n i (by rw[<- last a w];exact old i a y b)
  ·have s:i=A.length:=by have:=(bP.mp v).1;simp at this;omega
   by_cases c:j<A.length
   ·exfalso
    subst s;exact n j (by rw[<- last a y];exact old j a w c)
   ·have:=(bP.mp f).1;simp at this;omega
 ·by_cases hn:k<A.length
  ·rw[ah hn]at e
   obtain⟨a,E,q⟩:=S.ob k o' e;refine⟨a,l.ex _ _ E,?_⟩;cases o' with
   |lst ws=>obtain⟨vs,z,r⟩:=q;exact⟨vs,z,r.monoW l⟩|dct ws=>obtain⟨vs,z,Z,r⟩:=q;exact⟨vs,z,Z,r.monoW l⟩|td _=>obtain⟨vs,z,Z,t,r⟩:=q;exact⟨vs,z,Z,λx g=>l.tp _ _ (t x g),r.monoW l⟩|tr _=>obtain⟨ob,u,vs,z,d,Z,t,r⟩:=q;exact⟨ob,u,vs,z,d,Z,λx g=>l.tp _ _ (t x g),r.monoW l⟩|tab _ _=>exact q|ro ws=>obtain⟨vs,z,r⟩:=q;exact⟨vs,z,r.monoW l⟩
  ·have m:k=A.length:=by have:=(bP.mp e).1;simp at this;omega
   subst m;rw[ar (ak _)]at e;simp at e;subst e;exact⟨D,by rw[ar (by rw[S.len];exact ak _),S.len];simp,new⟩
def Le.track {b:bx}{H0:Hp}(l:Le K b H0 φ H)(h0:H0 D=none):Le K b H0 (φ++[D]) H where
 ex:=λn a h=>by
  have h':=l.ex n a h
  have:=(bP.mp h').1
  rw[ah this];exact h'
 tp:=l.tp
 fr:=l.fr
 nw:=λn a e=>by
  by_cases hn:n < φ.length
  ·rw[ah hn]at e;exact l.nw n a e
  ·rw[ar (by omega)]at e
   have E:a=D:=by
    have:=mem_of_getElem? e
    simpa using this
   subst E;exact .inr h0
 st:=l.st
 fz:=l.fz
end
noncomputable abbrev St:=L2.St
abbrev XR:=Str->Hp->Prop
def PB (K:Frag)(φ:bx)(H:Hp)(Q:VK):W->Hx->Prop:=λw A=>∀a h v,Le K φ H a h->zL K a A h->RV K a h w v->Q v h
def cn (K:Frag)(φ:bx)(H:Hp)(Q:List V->Hp->Prop):List W->Hx->Prop:=λw A=>∀a h v,Le K φ H a h->zL K a A h->zF K a h w v->Q v h
noncomputable def EB (K:Frag)(φ:bx)(H:Hp)(X:XR):Str->Hx->Prop:=λx A=>∀a h,Le K φ H a h->zL K a A h->X x h
structure RE (K:Frag)(φ:bx)(H:Hp)(ρ:En)(σ:St):Prop where
 len:σ.length=ρ.length
 get:∀(i:Nat)(w:W),ρ[i]? =some (some w)->∃v,σ[i]? =some (some v)/\RV K φ H w v
section
variable {K:Frag}{φ1 φ':bx}{H1 H':Hp}{A:Hx}{ρ:En}{xr:XR}
theorem RE.mono (r:RE K φ H ρ σ)(l:Le K φ H φ' H'):RE K φ' H' ρ σ:=⟨r.len,λi w e=>let ⟨v,h1,h⟩:=r.get i w e;⟨v,h1,h.mono l⟩⟩
def PB.mono {Q:VK}{w:W}(h:PB K φ H Q w A)(l:Le K φ H φ1 H1):PB K φ1 H1 Q w A:=λa b v L=>h a b v (l.trans L)
def EB.mono (h:EB K φ H xr x A)(l:Le K φ H φ1 H1):EB K φ1 H1 xr x A:=λa b L=>h a b (l.trans L)
theorem RE.set {w:W}(r:RE K φ H ρ σ)(q:RV K φ H w v):RE K φ H (ρ.set i (some w)) (σ.set i (some v)):=
 ⟨by simp[r.len],λj u e=>by
  by_cases h:i=j
  ·subst h
   have a:i < ρ.length:=by
    have:=(bP.mp e).1
    simpa using this
   rw[aB a]at e;cases e;exact⟨v,by rw[aB (by rw[r.len];exact a)],q⟩
  ·rw[ay h]at e
   obtain⟨x,c,b⟩:=r.get j u e;exact⟨x,by rw[ay h];exact c,b⟩⟩
end
inductive MM (K:Frag)(xr:XR)(m:Ev)(σ:St)(H:Hp)(Q:VK):Prop
 |mk (φ:bx) (A:Hx) (ρ:En) (S:zL K φ A H) (re:RE K φ H ρ σ) (h:(m ρ A).post (PB K φ H Q) (EB K φ H xr))
noncomputable def tM (K:Frag)(x:XR)(m:Ev):TE:=λσ H Q=>MM K x m σ H Q
inductive MT (K:Frag)(xr:XR)(m:Ev)(σ:St)(H:Hp)(Q:Bool->Hp->Prop):Prop
 |mk (φ:bx) (A:Hx) (ρ:En) (S:zL K φ A H) (re:RE K φ H ρ σ) (h:(m ρ A).post (λw A'=>∃b,w=.bl b/\∀φ' H',Le K φ H φ' H'->zL K φ' A' H'->Q b H') (EB K φ H xr))
noncomputable def tT (K:Frag)(x:XR)(m:Ev):TT:=λσ H Q=>MT K x m σ H Q
abbrev Ea:=En->Hx->R (List W)
inductive MA (K:Frag)(xr:XR)(m:Ea)(σ:St)(H:Hp)(Q:List V->Hp->Prop):Prop
 |mk (φ:bx) (A:Hx) (ρ:En) (S:zL K φ A H) (re:RE K φ H ρ σ) (h:(m ρ A).post (cn K φ H Q) (EB K φ H xr))
noncomputable def K9 (K:Frag)(x:XR)(m:Ea):TA:=λσ H Q=>MA K x m σ H Q
def SE (X:Cx)(x:XR)(e:Expr)(m:Ev):Prop:=PE X e (tM X.K x m)
def ST (X:Cx)(x:XR)(e:Expr)(m:Ev):Prop:=PT X e (tT X.K x m)
def SW (X:Cx)(x:XR)(e:Expr)(m:Ev):Prop:=PW X e (tT X.K x m)
def SA (X:Cx)(x:XR)(e:bE)(m:Ea):Prop:=PA X e (K9 X.K x m)
section
variable {xr:XR}{a b:Expr}{es:bE}{m ma mb mc:Ev}
def PE.imp {t t':TE}(h:PE X e t)(i:∀σ H Q,t' σ H Q->t σ H Q):PE X e t':=λpins s σ H Q I hw=>h pins s σ H Q I (i σ H Q hw)
def PT.imp {t t':TT}(h:PT X e t)(i:∀σ H Q,t' σ H Q->t σ H Q):PT X e t':=λpins s σ H Q I hw=>h pins s σ H Q I (i σ H Q hw)
def PW.imp {t t':TT}(h:PW X e t)(i:∀σ H Q,t' σ H Q->t σ H Q):PW X e t':=λw pins s σ H Q I hw=>h w pins s σ H Q I (i σ H Q hw)
def PA.imp {t t':TA}(h:PA X es t)(i:∀σ H Q,t' σ H Q->t σ H Q):PA X es t':=λp pins s σ H Q I hw=>h p pins s σ H Q I (i σ H Q hw)
def tM.go {K:Frag}{A:Hx}{ρ:En}{Q:VK}{G:W->Hx->Prop}(S:zL K φ A H)(r:RE K φ H ρ σ)(h:(m ρ A).post G (EB K φ H xr))
  (k:∀w A1 a H1 v,G w A1->Le K φ H a H1->zL K a A1 H1->RV K a H1 w v->Q v H1):tM K xr m σ H Q:=
 ⟨φ,A,ρ,S,r,qw h (λw A1 g a H1 v l s q=>k w A1 a H1 v g l s q) λ_ _ z=>z⟩
def K9.go {K:Frag}{A:Hx}{ρ:En}{m:Ea}{Q:List V->Hp->Prop}{G:List W->Hx->Prop}(S:zL K φ A H)(r:RE K φ H ρ σ)(h:(m ρ A).post G (EB K φ H xr))
  (k:∀w A1 a H1 v,G w A1->Le K φ H a H1->zL K a A1 H1->zF K a H1 w v->Q v H1):K9 K xr m σ H Q:=
 ⟨φ,A,ρ,S,r,qw h (λw A1 g a H1 v l s q=>k w A1 a H1 v g l s q) λ_ _ z=>z⟩
def tT.go {K:Frag}{A:Hx}{ρ:En}{Q:Bool->Hp->Prop}{G:W->Hx->Prop}(S:zL K φ A H)(r:RE K φ H ρ σ)(h:(m ρ A).post G (EB K φ H xr))
  (k:∀w A1,G w A1->∃b,w=.bl b/\∀a H1,Le K φ H a H1->zL K a A1 H1->Q b H1):tT K xr m σ H Q:=
 ⟨φ,A,ρ,S,r,qw h (λw A1 g=>k w A1 g) λ_ _ z=>z⟩
noncomputable def zX (i:Nat):Ev:=λρ A=>match ρ[i]? with
 |some (some w)=>.ok w A|_=>.bad
noncomputable def zY (w:W):Ev:=λ_ A=>.ok w A
noncomputable def zh (g:W->W->Hx->R W)(a b:Ev):Ev:=λρ A=>(a ρ A).bind λx A1=>(b ρ A1).bind λy A2=>g x y A2
noncomputable def jH (g:W->Hx->R W)(a:Ev):Ev:=λρ A=>(a ρ A).bind λx A1=>g x A1
noncomputable abbrev wH:Str->Hx->Prop:=λ_ _=>False
def jO (K:Frag)(r:R2)(g:W->W->Hx->R W):Prop:=∀φ A H x y u v Q,zL K φ A H->RV K φ H u x->RV K φ H v y->(g u v A).post (PB K φ H Q) wH->r x y H Q
def K6 (K:Frag)(r:V->Hp->VK->Prop)(g:W->Hx->R W):Prop:=∀φ A H x u Q,zL K φ A H->RV K φ H u x->(g u A).post (PB K φ H Q) wH->r x H Q
def qE (r:R α):Prop:=∀x A,r≠.exc x A
def Ql {r:R α}{P:α->Hx->Prop}{E:Str->Hx->Prop}(n:qE r)(h:r.post P E):r.post P wH:=by
 cases r with
 |ok a A=>exact h|exc x A=>exact absurd rfl (n x A)|bad=>exact h
def zh.read {g:W->W->Hx->R W}{r:R2}(hn:∀x y A,qE (g x y A))(e:jO X.K r g):∀σ H Q,tM X.K xr (zh g ma mb) σ H Q->Yd r (tM X.K xr ma) (tM X.K xr mb) σ H Q:=by
 rintro σ H Q ⟨φ,A,ρ,S,re,h⟩
 refine tM.go S re (zW.mp h) λw A1 b H1 v i l j d=>?_;refine tM.go j (re.mono l) (qw (zW.mp i) (λ_ _ z=>z) λ_ _ z=>z.mono l) λc A2 a m v2 f L s q=>?_;exact e a A2 m v v2 w c Q s (d.mono L) q (qw (Ql (hn _ _ _) f) (λ_ _ z=>z.mono (l.trans L)) λ_ _ z=>z)
def jH.read {g:W->Hx->R W}{r:V->Hp->VK->Prop}(hn:∀x A,qE (g x A))(b:K6 X.K r g):∀σ H Q,tM X.K xr (jH g ma) σ H Q->Oi r (tM X.K xr ma) σ H Q:=by
 rintro σ H Q ⟨φ,A,ρ,S,re,h⟩
 refine tM.go S re (zW.mp h) λw A1 a H1 v c l s q=>?_;exact b a A1 H1 v w Q s q (qw (Ql (hn _ _) c) (λ_ _ z=>z.mono l) λ_ _ z=>z)
def we {op:Operator}{r:R2}{g:W->W->Hx->R W}(ho:qB X (binaryOp op) r)(hn:∀x y A,qE (g x y A))(h:jO X.K r g)(c:SE X xr a ma)(H:SE X xr b mb):SE X xr (.BinOp a op b pos) (zh g ma mb):=
 PE.imp (BR ho c H) (zh.read hn h)
def AA {op:UnaryOp}{r:V->Hp->VK->Prop}{g:W->Hx->R W}(ho:K4 X (unaryOp op) r)(hn:∀x A,qE (g x A))(h:K6 X.K r g)(H:SE X xr a ma):SE X xr (.UnaryOp op a pos) (jH g ma):=
 PE.imp (Pq ho H) (jH.read hn h)
def R3 {r:R2}{g:W->W->Hx->R W}(ho:qB X (compareOp op) r)(hn:∀x y A,qE (g x y A))(h:jO X.K r g)(c:SE X xr a ma)(H:SE X xr b mb)(hm:behindInMarks op b=false):SE X xr (.Compare a [op] [b] pos) (zh g ma mb):=
 PE.imp (ET ho c H hm) (zh.read hn h)
def tT.toM {K:Frag}{Q:Bool->Hp->Prop}(h:tT K xr m σ H Q):tM K xr m σ H λx d=>∃k,x=.bl k/\Q k d:=by
 obtain⟨φ,A,ρ,S,re,h⟩:=h;refine tM.go S re h λw A1 a H1 v ⟨b,e,q⟩ l s c=>?_;subst e;exact⟨b,c,q a H1 l s⟩
def RX {r:R2}{g:W->W->Hx->R W}(ho:qB X (compareOp op) r)(hn:∀x y A,qE (g x y A))(c:jO X.K r g)(e:SE X xr a ma)(d:SE X xr b mb)(hm:behindInMarks op b=false):ST X xr (.Compare a [op] [b] pos) (zh g ma mb):=
 PT.imp (E6 ho e d hm) λσ H Q h=>zh.read hn c σ H _ h.toM
noncomputable def yQ (g g':W->W->Hx->R W)(a b c:Ev):Ev:=λρ A=>(a ρ A).bind λx A1=>(b ρ A1).bind λy A2=>(g x y A2).bind λz d=>match z with
 |.bl true=>(c ρ d).bind λw e=>g' y w e|.bl false=>.ok (.bl false) d|_=>.bad
def yQ.read {g g':W->W->Hx->R W}{r i:R2}(hn:∀x y A,qE (g x y A))(P:jO X.K r g)(m:∀x y A,qE (g' x y A))(n:jO X.K i g'):
  ∀σ H Q,tM X.K xr (yQ g g' ma mb mc) σ H Q->Xb r i (tM X.K xr ma) (tM X.K xr mb) (tM X.K xr mc) σ H Q:=by
 rintro σ H Q ⟨φ,A,ρ,S,re,h⟩
 refine tM.go S re (zW.mp h) λw A1 D H1 v Y L S1 N=>?_;refine tM.go S1 (re.mono L) (qw (zW.mp Y) (λ_ _ z=>z) λ_ _ z=>z.mono L) λf A2 b C v2 U u S2 q=>?_;have j:=L.trans u;have o:=zW.mp U;have a:(g w f A2).post (PB X.K b C λz c=>∃k,z=.bl k/\if k=true then tM X.K xr mc σ c λI p=>i v2 I p Q else Q (.bl false) c) wH:=by
  refine qw (Ql (hn _ _ _) o) (λz A3 a e c zv t B M=>?_) λ_ _ z=>z;have l:=j.trans t;cases z with
  |bl k=>
   refine⟨k,M,?_⟩;cases k with
   |true=>
    rw[aj rfl];refine tM.go B (re.mono l) (qw (zW.mp a) (λ_ _ z=>z) λ_ _ z=>z.mono l) λE A4 d p v4 T s Z J=>?_;exact n d A4 p v2 v4 f E Q Z ((q.mono t).mono s) J (qw (Ql (m _ _ _) T) (λ_ _ z=>z.mono (l.trans s)) λ_ _ z=>z)
   |false=>
    rw[ao au];exact a e c _ l B rfl
  |non=>cases a|int _=>cases a|str _=>cases a|tup _=>cases a|ref _=>cases a|clo _ _ _=>cases a|xc _=>cases a
 exact P b A2 C v v2 w f _ S2 (N.mono u) q a
def Fi {c:Expr}{o:CmpOp}{r e:R2}{g g':W->W->Hx->R W}(ho:qB X (compareOp op) r)(hn:∀x y A,qE (g x y A))(f:jO X.K r g)(h:qB X (compareOp o) e)(H:∀x y A,qE (g' x y A))(d:jO X.K e g')
  (l:SE X xr a ma)(j:SE X xr b mb)(i:SE X xr c mc)(hm:lastMarks [op,o] [b,c]=false:=by with_unfolding_all rfl):SE X xr (.Compare a [op,o] [b,c] pos) (yQ g g' ma mb mc):=
 PE.imp (FU ho h l j i hm) (yQ.read hn f H d)
def Hw {c:Expr}{o:CmpOp}{r i:R2}{g g':W->W->Hx->R W}(ho:qB X (compareOp op) r)(hn:∀x y A,qE (g x y A))(j:jO X.K r g)(d:qB X (compareOp o) i)(e:∀x y A,qE (g' x y A))(f:jO X.K i g')
  (n:SE X xr a ma)(m:SE X xr b mb)(l:SE X xr c mc)(hm:lastMarks [op,o] [b,c]=false:=by with_unfolding_all rfl):ST X xr (.Compare a [op,o] [b,c] pos) (yQ g g' ma mb mc):=
 PT.imp (F6 ho d n m l hm) λσ H Q h=>yQ.read hn j e f σ H _ h.toM
noncomputable def jS (a b:Ev):Ev:=λρ A=>(a ρ A).bind λx A1=>match x with
 |.bl true=>b ρ A1|.bl false=>.ok (.bl false) A1|_=>.bad
noncomputable def gK (a b:Ev):Ev:=λρ A=>(a ρ A).bind λx A1=>match x with
 |.bl true=>.ok (.bl true) A1|.bl false=>b ρ A1|_=>.bad
noncomputable def jX (a:Ev):Ev:=λρ A=>(a ρ A).bind λx A1=>match x with
 |.bl k=>.ok (.bl (!k)) A1|_=>.bad
noncomputable def Va (c a b:Ev):Ev:=λρ A=>(c ρ A).bind λx A1=>match x with
 |.bl true=>a ρ A1|.bl false=>b ρ A1|_=>.bad
theorem tT.mono {K:Frag}{c:bx}{H1:Hp}{A1:Hx}{ρ:En}{Q:Bool->Hp->Prop}(S:zL K c A1 H1)(L:Le K φ H c H1)(re:RE K φ H ρ σ)
  (h:(m ρ A1).post (λw A=>∃b,w=.bl b/\∀a d,Le K φ H a d->zL K a A d->Q b d) (EB K φ H xr)):tT K xr m σ H1 Q:=
 ⟨c,A1,ρ,S,re.mono L,qw h (λw A ⟨b,e,q⟩=>⟨b,e,λa d l s=>q a d (L.trans l) s⟩) λ_ _ z=>z.mono L⟩
noncomputable def zr:Ea:=λ_ A=>.ok [] A
noncomputable def zi (a:Ev)(r:Ea):Ea:=λρ A=>(a ρ A).bind λx A1=>(r ρ A1).bind λxs A2=>.ok (x::xs) A2
noncomputable def ji (a:Ea):Ev:=λρ A=>(a ρ A).bind λxs A1=>.ok (.tup xs) A1
noncomputable def jt (a:Ea):Ev:=λρ A=>(a ρ A).bind λxs A1=>.ok (.ref A1.length) (A1++[.lst xs])
def gx {K:Frag}{A:Hx}{p:Addr}{ws:List W}(S:zL K φ A H)(h:H p=none)(r:zF K φ H ws vs):
  Le K φ H φ (upd H p (.tup vs))/\zL K φ A (upd H p (.tup vs))/\RV K φ (upd H p (.tup vs)) (.tup ws) (.ref p):=
 ⟨Le.new h,S.lay h,p,vs,rfl,qm.of j6,r.mono (Le.new h)⟩
def JP {K:Frag}{A:Hx}{p:Addr}{ws:List W}(S:zL K φ A H)(h:H p=none)(r:zF K φ H ws vs):
  Le K φ H (φ++[p]) (upd H p (.lst vs))/\zL K (φ++[p]) (A++[.lst ws]) (upd H p (.lst vs))/\RV K (φ++[p]) (upd H p (.lst vs)) (.ref A.length) (.ref p):=by
 have l:Le K φ H (φ++[p]) (upd H p (.lst vs)):=Le.alloc h;obtain⟨b,a⟩:=S.alloc (o:=.lst ws) h ⟨vs,j6,r.mono l⟩;exact⟨b,a,p,rfl,by rw[<- S.len];simp⟩
def Bc {m:Ea}(h:SA X xr es m)(hl:∀ρ A ws a,m ρ A=.ok ws a->ws.length<=sizeLine):SE X xr (.List es pos) (jt m):=
 PE.imp (CP h) λσ H Q ⟨φ,A,ρ,S,re,h⟩=>by
  have h':=zW.mp h;cases e:m ρ A with
  |ok ws a=>
   rw[e]at h';refine⟨φ,A,ρ,S,re,?_⟩;rw[e];intro b H1 vs l s q;refine⟨by rw[<- q.length];exact hl ρ A ws a e,λp c=>?_⟩
   obtain⟨a1,a2,d⟩:=JP s c q;exact h' _ _ _ (l.trans a1) a2 d
  |exc x a=>rw[e]at h';refine⟨φ,A,ρ,S,re,?_⟩;rw[e];exact h'|bad=>rw[e]at h';exact h'.elim
end
inductive Fl where
 |nx (ρ:En)|rt (w:W)|bk (ρ:En)|ct (ρ:En)
abbrev Ex:=En->Hx->R Fl
def FB (K:Frag)(φ:bx)(H:Hp)(D:Ends):Fl->Hx->Prop
 |.nx ρ,A=>∀a h b,Le K φ H a h->zL K a A h->RE K a h ρ b->D.nx b h|.rt w,A=>∀a h v,Le K φ H a h->zL K a A h->RV K a h w v->D.rt v h|.bk ρ,A=>∀a h b,Le K φ H a h->zL K a A h->RE K a h ρ b->D.bk b h|.ct ρ,A=>∀a h b,Le K φ H a h->zL K a A h->RE K a h ρ b->D.ct b h
def FB.mono {K:Frag}{c:bx}{H1:Hp}{D:Ends}{f:Fl}{A:Hx}(h:FB K φ H D f A)(l:Le K φ H c H1):FB K c H1 D f A:=by
 cases f with
 |nx ρ=>exactλa b v L=>h a b v (l.trans L)|rt ρ=>exactλa b v L=>h a b v (l.trans L)|bk ρ=>exactλa b v L=>h a b v (l.trans L)|ct ρ=>exactλa b v L=>h a b v (l.trans L)
inductive MS (K:Frag)(xr:XR)(m:Ex)(D:Ends)(σ:St)(H:Hp):Prop
 |mk (φ:bx) (A:Hx) (ρ:En) (S:zL K φ A H) (re:RE K φ H ρ σ) (h:(m ρ A).post (FB K φ H D) (EB K φ H xr))
noncomputable def tS (K:Frag)(x:XR)(m:Ex):TS:=λD σ H=>MS K x m D σ H
def SS (X:Cx)(x:XR)(st:Stmt)(m:Ex):Prop:=PS X st (tS X.K x m)
def Yk (X:Cx)(x:XR)(st:bL)(m:Ex):Prop:=yD X st (tS X.K x m)
section
variable {xr:XR}{a b c:Expr}{st:Stmt}{rest:bL}{m:Ev}{m1 m2:Ex}
def PS.imp {t t':TS}(h:PS X st t)(i:∀D σ H,t' D σ H->t D σ H):PS X st t':=λpins s σ H D I hw=>h pins s σ H D I (i D σ H hw)
def yD.imp {t t':TS}(h:yD X rest t)(i:∀D σ H,t' D σ H->t D σ H):yD X rest t':=λpins s σ H D I hw=>h pins s σ H D I (i D σ H hw)
noncomputable def zu:Ex:=λρ A=>.ok (.nx ρ) A
noncomputable def zm (m1 m2:Ex):Ex:=λρ A=>(m1 ρ A).bind λl A1=>match l with
 |.nx ρ1=>m2 ρ1 A1|f=>.ok f A1
noncomputable def ju (m:Ev):Ex:=λρ A=>(m ρ A).bind λ_ A1=>.ok (.nx ρ) A1
noncomputable def qi (m:Ev):Ex:=λρ A=>(m ρ A).bind λw A1=>.ok (.rt w) A1
noncomputable def qW (c:Ev)(a b:Ex):Ex:=λρ A=>(c ρ A).bind λx A1=>match x with
 |.bl true=>a ρ A1|.bl false=>b ρ A1|_=>.bad
noncomputable def zR (i:Nat)(m:Ev):Ex:=λρ A=>(m ρ A).bind λw A1=>.ok (.nx (ρ.set i (some w))) A1
def zR.read:∀D σ H,tS X.K xr (zR i m) D σ H->Kx (tM X.K xr m) (Kq i) D σ H:=by
 rintro D σ H ⟨φ,A,ρ,S,re,h⟩
 exact tM.go S re (zW.mp h) λw A1 a H1 v b l s q=>b a H1 _ l s ((re.mono l).set q)
noncomputable def Qy (g:W->W->W->Hx->R Unit)(me mo mi:Ev):Ex:=λρ A=>(me ρ A).bind λv A1=>(mo ρ A1).bind λo A2=>(mi ρ A2).bind λi b=>(g o i v b).bind λ_ a=>.ok (.nx ρ) a
def Pw (K:Frag)(t:ZW)(g:W->W->W->Hx->R Unit):Prop:=∀φ A H o i v w b wv Q,zL K φ A H->RV K φ H w o->RV K φ H b i->RV K φ H wv v->
 (g w b wv A).post (λ_ c=>∀a h,Le K φ H a h->zL K a c h->Q h) wH->t o i v H Q
def Fo {o i:Expr}{mo mi:Ev}{t:ZW}{g:W->W->W->Hx->R Unit}(N:Kz X t)(hn:∀o i v A,qE (g o i v A))(U:Pw X.K t g)(he:SE X xr e m)(ho:SE X xr o mo)(T:SE X xr i mi)
  (P:swapsWithSole [.Subscript o i tpos] e pos.line X.env=pure false:=by rfl)(hw:swappedStores [.Subscript o i tpos] e X.env=pure none:=by rfl)
  (j:(assignEach [.Subscript o i tpos] X.env).map (·.2)=[assign (.Subscript o i tpos) X.env]:=by rfl)
  (Y:∀v,assign (.Subscript o i tpos) X.env v=(do
   let ov <- holding [v] (eval o X.env)
   let iv <- holding [v,ov] (eval i X.env)
   standAt tpos
   holding [v,ov,iv] (setItem ov iv v)
   release [v,ov,iv] []):=by intro _;rfl):SS X xr (.Assign [.Subscript o i tpos] e pos) (Qy g m mo mi):=
 PS.imp (Pa he (Bg ho T N Y) P hw j) λD σ H ⟨φ,A,ρ,S,re,h⟩=>by
  refine tM.go S re (zW.mp h) λp A1 E H1 v1 j f S1 M=>?_;refine tM.go S1 (re.mono f) (qw (zW.mp j) (λ_ _ z=>z) λ_ _ z=>z.mono f) λn A2 C H2 v2 Z s S2 J=>?_;have l:=f.trans s;refine tM.go S2 (re.mono l) (qw (zW.mp Z) (λ_ _ z=>z) λ_ _ z=>z.mono l) λw B c H3 I a d S3 Q=>?_;have L:=l.trans d;refine U c B H3 v2 I v1 n w p _ S3 (J.mono d) Q (M.mono (s.trans d)) ?_;cases r:g n w p B with
  |ok u y=>
   rw[r]at a;exactλb H4 q S4=>a b H4 σ (L.trans q) S4 (re.mono (L.trans q))
  |exc x y=>exact absurd r (hn _ _ _ _ x y)|bad=>rw[r]at a;exact a.elim
structure ja where
 at_:Hx->Nat->Option (Option W)
 len:Nat
def gf (K:Frag)(φ:bx)(H:Hp)(j:ja)(J:It):Prop:=∀i a h A,gP K φ H a h->zL K a A h->
 (∀w,j.at_ A i=some (some w)->J.go i h/\∀x H1,J.yld i h x H1->Le K a h a H1/\zL K a A H1/\RV K a H1 w x)/\(j.at_ A i=some none->J.stop i h)
abbrev Ei:=En->Hx->R ja
inductive MI (K:Frag)(xr:XR)(mi:Ei)(σ:St)(H:Hp)(Rr:It->Hp->Prop):Prop
 |mk (φ:bx) (A:Hx) (ρ:En) (S:zL K φ A H) (re:RE K φ H ρ σ) (h:(mi ρ A).post (λj A1=>∀φ1 H1 J,Le K φ H φ1 H1->zL K φ1 A1 H1->gf K φ1 H1 j J->Rr J H1) (EB K φ H xr))
noncomputable def tI (K:Frag)(x:XR)(mi:Ei):TI:=λσ H r=>MI K x mi σ H r
def SI (X:Cx)(x:XR)(t iter:Expr)(mi:Ei):Prop:=PI X t iter (tI X.K x mi)
def PI.imp {t t':TI}(h:PI X tg e t)(i:∀σ H Q,t' σ H Q->t σ H Q):PI X tg e t':=λpins s σ H Q I hw=>h pins s σ H Q I (i σ H Q hw)
abbrev Tg:=W->En->Option En
inductive MG (K:Frag)(tw:Tg)(v:V)(σ:St)(H:Hp)(Q:St->Hp->Prop):Prop
 |mk (φ:bx) (A:Hx) (ρ:En) (w:W) (ρ':En) (S:zL K φ A H) (re:RE K φ H ρ σ) (rv:RV K φ H w v) (t:tw w ρ=some ρ') (q:∀σ',RE K φ H ρ' σ'->Q σ' H)
noncomputable def tG (K:Frag)(tw:Tg):TG:=λv σ H Q=>MG K tw v σ H Q
def SG (X:Cx)(t:Expr)(tw:Tg):Prop:=PG X t (tG X.K tw)
def PG.imp {t t':TG}(h:PG X tg t)(i:∀v σ H Q,t' v σ H Q->t v σ H Q):PG X tg t':=λpins s σ H v u Q I r hw=>h pins s σ H v u Q I r (i v σ H Q hw)
noncomputable def zI (i:Nat):Tg:=λw ρ=>some (ρ.set i (some w))
noncomputable def qN (i j:Nat):Tg:=λw ρ=>match w with
 |.tup [x,y]=>some ((ρ.set i (some x)).set j (some y))|_=>none
noncomputable def jF (j:ja)(st:W->Ex):Nat->Nat->Ex
 |0,i,ρ,A=>match j.at_ A i with
  |some none=>.ok (.nx ρ) A|_=>.bad
 |f+1,i,ρ,A=>match j.at_ A i with
  |some none=>.ok (.nx ρ) A|some (some w)=>(st w ρ A).bind λl A1=>match l with
   |.nx ρ1=>jF j st f (i+1) ρ1 A1|.ct ρ1=>jF j st f (i+1) ρ1 A1|.bk ρ1=>.ok (.nx ρ1) A1|.rt w=>.ok (.rt w) A1
  |none=>.bad
noncomputable def turn (tw:Tg)(body:Ex)(w:W):Ex:=λρ A=>match tw w ρ with
 |some ρ1=>body ρ1 A|none=>.bad
def qK (mi:Ei)(tw:Tg)(body:Ex):Ex:=λρ A=>(mi ρ A).bind λj A1=>jF j (turn tw body) j.len 0 ρ A1
inductive OM (K:Frag)(xr:XR)(j:ja)(t:W->Ex)(D:Ends)(φ1:bx)(H1:Hp)(f i:Nat)(σ':St)(H':Hp):Prop
 |mk (φ2:bx) (A2:Hx) (ρ2:En) (l:Le K φ1 H1 φ2 H') (S:zL K φ2 A2 H') (re:RE K φ2 H' ρ2 σ') (h:(jF j t f i ρ2 A2).post (FB K φ2 H' D) (EB K φ2 H' xr))
noncomputable def wq (c:Ev)(body:Ex):Nat->Ex
 |0,ρ,A=>.bad|f+1,ρ,A=>(c ρ A).bind λx A1=>match x with
  |.bl true=>(body ρ A1).bind λl A2=>match l with
   |.nx ρ1=>wq c body f ρ1 A2|.ct ρ1=>wq c body f ρ1 A2|.bk ρ1=>.ok (.nx ρ1) A2|.rt w=>.ok (.rt w) A2
  |.bl false=>.ok (.nx ρ) A1|_=>.bad
def Y9 (f:Nat)(c:Ev)(body:Ex):Ex:=wq c body f
noncomputable def Zd (nl:Nat)(cap:bA)(ρ:En):En:=List.replicate nl none++cap.map λi=>(ρ[i]?).join
theorem RE.wY {K:Frag}{ρ:En}{nl:Nat}(r:RE K φ H ρ σ):RE K φ H (Zd nl cap ρ) (L2.wY nl cap σ):=by
 refine⟨by simp[Zd,L2.wY],λi w e=>?_⟩
 unfold Zd at e;unfold L2.wY
 by_cases hi:i<nl
 ·rw[ah (by simpa using hi),List.getElem?_replicate]at e
  split at e<;>cases e
 ·rw[ar (by simpa using hi),length_replicate,aw]at e
  rw[ar (by simpa using hi),length_replicate,aw]
  cases c:cap[i-nl]? with
  |none=>rw[c]at e;cases e|some k=>
   rw[c]at e;have E:(ρ[k]?).join=some w:=ax e;cases h:ρ[k]? with
   |none=>rw[h]at E;cases E|some o=>cases o with
    |none=>rw[h]at E;cases E|some d=>
     rw[h]at E;cases E;obtain⟨v,b,a⟩:=r.get k w h;exact⟨v,by simp[b],a⟩
abbrev Em:=En->List W->Hx->R (En×List W)
noncomputable def qd:Nat:=100000
def zQ (elt:Ev):Em:=λρ acc A=>(elt ρ A).bind λy A1=>if acc.length<qd then .ok (ρ,acc++[y]) A1 else .bad
noncomputable def qV (j:ja)(tw:Tg)(ifs:Ev)(em:Em):Nat->Nat->Em
 |0,i,ρ,acc,A=>match j.at_ A i with
  |some none=>.ok (ρ,acc) A|_=>.bad
 |f+1,i,ρ,acc,A=>match j.at_ A i with
  |some none=>.ok (ρ,acc) A|some (some w)=>match tw w ρ with
   |some ρ1=>(ifs ρ1 A).bind λc A1=>match c with
    |.bl true=>(em ρ1 acc A1).bind λp A2=>qV j tw ifs em f (i+1) p.1 p.2 A2|.bl false=>qV j tw ifs em f (i+1) ρ1 acc A1|_=>.bad
   |none=>.bad
  |none=>.bad
def kO (mi:Ei)(tw:Tg)(ifs:Ev)(em:Em):Em:=λρ acc A=>(mi ρ A).bind λj A1=>qV j tw ifs em j.len 0 ρ acc A1
abbrev jv:=En->Hx->R (List W)
def zT (nl:Nat)(cap:bA)(mi:Ei)(tw:Tg)(ifs:Ev)(em:Em):jv:=λρ A=>(mi ρ A).bind λj A1=>(qV j tw ifs em j.len 0 (Zd nl cap ρ) [] A1).nox.bind λp A2=>.ok p.2 A2
def Vb (K:Frag)(D:Addr)(φ:bx)(H:Hp)(Q:St->Hp->Prop)(p:En×List W)(A1:Hx):Prop:=∀a H1 b zs,yh K D φ H a H1->(∀k:Nat,a[k]?≠some D)->zL K a A1 H1->RE K a H1 p.1 b->H1 D=some (.lst zs)->zF K a H1 p.2 zs->Q b H1
inductive ME (K:Frag)(em:Em)(D:Addr)(σ:St)(H:Hp)(Q:St->Hp->Prop):Prop
 |mk (φ:bx) (A:Hx) (ρ:En) (acc:List W) (ys:List V) (S:zL K φ A H) (re:RE K φ H ρ σ) (hD:H D=some (.lst ys)) (nD:∀k:Nat,φ[k]?≠some D) (rv:zF K φ H acc ys)
  (h:(em ρ acc A).post (Vb K D φ H Q) wH)
noncomputable def tE (K:Frag)(em:Em):kD:=λD σ H Q=>ME K em D σ H Q
noncomputable abbrev ka:XR:=λ_ _=>False
def SM (X:Cx)(elt:Expr)(gens:List Comprehension)(sc:Scope)(c:Pos)(d:Nat)(em:Em):Prop:=kf X elt gens sc c d (tE X.K em)
def kf.imp {d:Nat}{t t':kD}(h:kf X elt gens sc pos d t)(i:∀D σ H Q,t' D σ H Q->t D σ H Q):kf X elt gens sc pos d t':=
 λpins s σ H D Q k Q' E I hw a=>h pins s σ H D Q k Q' E I (i D σ H Q hw) a
def GI {K:Frag}{r:R α}{P:α->Hx->Prop}(h:r.post P wH):r.post P (EB K φ H ka):=qw h (λ_ _ z=>z) λ_ _ z=>z.elim
def Yh (X:Cx)(ifs:bE)(m:Ev):Prop:=gD X ifs (tT X.K ka m)
inductive Og (tw:Tg)(ifs:Ev)(em:Em)(j:ja)(K:Frag)(D:Addr)(φ:bx)(H:Hp)(Q:St->Hp->Prop)(f i:Nat)(σ':St)(H':Hp):Prop
 |mk (φ2:bx) (A2:Hx) (ρ2:En) (acc2:List W) (ys2:List V) (l:yh K D φ H φ2 H') (S:zL K φ2 A2 H') (re:RE K φ2 H' ρ2 σ') (hD:H' D=some (.lst ys2)) (nD:∀k:Nat,φ2[k]?≠some D) (ra:zF K φ2 H' acc2 ys2) (h:(qV j tw ifs em f i ρ2 acc2 A2).post (Vb K D φ H Q) wH)
def qV.read {tw:Tg}{ifs:Ev}{em:Em}{j:ja}{J:It}{K:Frag}{A:Hx}{ρ:En}{acc:List W}{Q:St->Hp->Prop}{f:Nat}
  (jr:gf K φ H j J)
  (S:zL K φ A H)(re:RE K φ H ρ σ)(hD:H D=some (.lst ys))(nD:∀k:Nat,φ[k]?≠some D)(ra:zF K φ H acc ys)
  (h:(qV j tw ifs em f 0 ρ acc A).post (Vb K D φ H Q) wH):
  J0 J (tG K tw) (tT K ka ifs) (tE K em) D σ H Q:=by
 refine⟨λi f b M=>Og tw ifs em j K D φ H Q f i b M,
  ⟨f,φ,A,ρ,acc,ys,.refl,S,re,hD,nD,ra,h⟩,?_⟩
 rintro i f T H2 ⟨g,A2,q,e,Y,v,S2,s,I,t,m,a⟩
 obtain⟨j1,j2⟩:=jr i g H2 A2 ⟨v.ex,v.tp,v.fz⟩ S2;cases E:j.at_ A2 i with
 |none=>cases f<;>(unfold qV at a;rw[E]at a;exact a.elim)|some o=>
  cases o with
  |none=>
   left
   refine⟨j2 E,?_⟩;cases f<;>(unfold qV at a;rw[E]at a;exact a g H2 T Y v t S2 s I m)
  |some w=>
   right
   obtain⟨go,yl⟩:=j1 w E;cases f with
   |zero=>unfold qV at a;rw[E]at a;exact a.elim|succ f=>
    unfold qV at a;rw[E]at a;refine⟨go,λb M=>Og tw ifs em j K D φ H Q f (i+1) b M,λb M z=>⟨f,bc _,z⟩,λx H3 y=>?_⟩;obtain⟨u,S3,q3⟩:=yl x H3 y;obtain⟨Z,X⟩:=u.off I t;dsimp only at a;cases et:tw w q with
    |none=>rw[et]at a;exact a.elim|some l=>
     rw[et]at a;refine⟨g,A2,q,w,l,S3,s.mono u,q3,et,λσ3 r=>?_⟩;refine tT.go S3 r (GI (zW.mp a)) λc A4 d=>?_;cases c with
     |bl k=>
      refine⟨k,rfl,λn H4 L S4=>?_⟩;obtain⟨C,N⟩:=L.off Z X;have B:=(v.trans (u.trans L).toD);cases k with
      |true=>
       rw[aj rfl];refine⟨n,A4,l,e,Y,S4,r.mono L,C,N,m.mono (u.trans L),qw (zW.mp d) (λp A5 h5 P H5 σ5 zs l5 n5 S5 U d5 r5=>?_) λ_ _ z=>z⟩;exact⟨P,A5,p.1,p.2,zs,B.trans l5,S5,U,d5,n5,r5,h5⟩
      |false=>
       rw[ao au];exact⟨n,A4,l,e,Y,B,S4,r.mono L,C,N,m.mono (u.trans L),d⟩
     |non=>cases d|int _=>cases d|str _=>cases d|tup _=>cases d|ref _=>cases d|clo _ _ _=>cases d|xc _=>cases d
def gf.mono {K:Frag}{b:bx}{H1:Hp}{j:ja}{J:It}(h:gf K φ H j J)(l:gP K φ H b H1):gf K b H1 j J:=
 λi c d A L=>h i c d A ⟨λn a e=>L.ex n a (l.ex n a e),λa vs e=>L.tp a vs (l.tp a vs e),λa o u e=>L.fz a o u (l.fz a o u e)⟩
inductive MF (K:Frag)(xr:XR)(mq:jv)(σ:St)(H:Hp)(Q:VK):Prop
 |mk (φ:bx) (A:Hx) (ρ:En) (S:zL K φ A H) (re:RE K φ H ρ σ) (h:(mq ρ A).post (λws A1=>∀φ1 H1 D ys,Le K φ H φ1 H1->zL K φ1 A1 H1->H D=none->H1 D=some (.lst ys)->(∀k:Nat,φ1[k]?≠some D)->zF K φ1 H1 ws ys->Q (.ref D) H1) (EB K φ H xr))
noncomputable def tF (K:Frag)(x:XR)(m:jv):TE:=λσ H Q=>MF K x m σ H Q
def SF (X:Cx)(x:XR)(e:Expr)(m:jv):Prop:=PE X e (tF X.K x m)
theorem zT.read {mi:Ei}{tw:Tg}{m:Ev}{em:Em}{nl:Nat}:∀σ H Q,tF X.K xr (zT nl cap mi tw m em) σ H Q->Ko X.K (tI X.K xr mi) (tG X.K tw) (tT X.K ka m) (tE X.K em) nl cap σ H Q:=by
 rintro σ H Q ⟨φ,A,ρ,S,re,h⟩
 refine⟨φ,A,ρ,S,re,qw (zW.mp h) (λj A1 u b H1 J l s q D c t=>?_) λ_ _ z=>z⟩;have ln:Le X.K b H1 b (upd H1 D (.lst [])):=Le.new c;have a:=zW.mp u;refine qV.read (q.mono ⟨ln.ex,ln.tp,ln.fz⟩) (s.lay c) ((re.mono (l.trans ln)).wY) j6 (s.notin c t) .nil ?_ (f:=j.len) (acc:=[]);cases e:qV j tw m em j.len 0 (Zd nl cap ρ) [] A1 with
 |ok p A2=>
  rw[e]at a;intro d y g zs o n w r v i;have L:=l.trans (Le.ofD c o);exact a d y D zs L w (l.st D c) v n i
 |exc x A2=>rw[e]at a;exact a.elim|bad=>rw[e]at a;exact a.elim
noncomputable def jh (q:jv):Ev:=λρ A=>(q ρ A).bind λws A1=>.ok (.ref A1.length) (A1++[.lst ws])
def jh.read {q:jv}{K:Frag}:∀σ H Q,tM K xr (jh q) σ H Q->tF K xr q σ H Q:=by
 rintro σ H Q ⟨φ,A,ρ,S,re,h⟩
 refine⟨φ,A,ρ,S,re,qw (zW.mp h) (λws A1 d b H1 D y L s h0 c N r=>?_) λ_ _ z=>z⟩;have l:Le K φ H (b++[D]) H1:=L.track h0;have lw:gP K b H1 (b++[D]) H1:=⟨λn a h=>by
  have:=(bP.mp h).1
  rw[ah this];exact h,λ_ _ h=>h,λ_ _ _ h=>h⟩
 refine d _ _ _ l (s.track (o:=.lst ws) c N ⟨y,c,r.monoW lw⟩) ⟨D,rfl,?_⟩;rw[<- s.len];simp
inductive MQ (K:Frag)(xr:XR)(mq:jv)(σ:St)(H:Hp)(Q:VK):Prop
 |mk (φ:bx) (A:Hx) (ρ:En) (S:zL K φ A H) (re:RE K φ H ρ σ) (h:(mq ρ A).post (λws A1=>∀φ1 H1 a ys,Le K φ H φ1 H1->zL K φ1 A1 H1->(qF K H1 a ys∨qm K H1 a ys)->zF K φ1 H1 ws ys->Q (.ref a) H1) (EB K φ H xr))
noncomputable def tQ (K:Frag)(x:XR)(m:jv):TE:=λσ H Q=>MQ K x m σ H Q
def SQ (X:Cx)(x:XR)(e:Expr)(m:jv):Prop:=PE X e (tQ X.K x m)
noncomputable def z7 (w:W)(A:Hx):Option (List W):=match w with
 |.tup ws=>some ws|.ref n=>match A[n]? with
  |some (.lst ws)=>some ws|some (.ro ws)=>some ws|_=>none
 |_=>none
def YF {K:Frag}{A:Hx}{w:W}{ws:List W}(S:zL K φ A H)(q:RV K φ H w v)(e:z7 w A=some ws):∃a y,v=.ref a/\(qF K H a y∨qm K H a y)/\zF K φ H ws y:=by
 unfold z7 at e;cases w with
 |tup xs=>cases e;obtain⟨a,y,b,f,E⟩:=q;exact⟨a,y,b,.inr f,E⟩|ref n=>
  obtain⟨a,b,f⟩:=q;dsimp only at e;cases d:A[n]? with
  |none=>rw[d]at e;cases e|some o=>
   rw[d]at e;obtain⟨g,E,r⟩:=S.ob n o d;rw[f]at E;cases E;cases o with
   |lst xs=>cases e;obtain⟨y,c,h⟩:=r;exact⟨a,y,b,.inl (qF.of c),h⟩|ro xs=>cases e;obtain⟨y,c,h⟩:=r;exact⟨a,y,b,.inl c.sq,h⟩|dct xs=>cases e|td _=>cases e|tr _=>cases e|tab _ _=>cases e
 |non=>cases e|bl _=>cases e|clo _ _ _=>cases e|xc _=>cases e|int _=>cases e|str _=>cases e
def zP (m:Ev):jv:=λρ A=>(m ρ A).bind λw A1=>match z7 w A1 with
 |some ws=>.ok ws A1|none=>.bad
def KH (w:W)(A:Hx):Option ja:=match z7 w A with
 |some ws=>some ⟨λA i=>(z7 w A).map λws=>ws[i]?,ws.length⟩|none=>none
def qp (m:Ev):Ei:=λρ A=>(m ρ A).bind λw A1=>match KH w A1 with
 |some j=>.ok j A1|none=>.bad
def cp (K:Frag)(t:TE):TI:=λσ H r=>t σ H λx H1=>∃a,x=.ref a/\(((∃xs,qF K H1 a xs)/\r (Ot K a) H1)∨((∃xs,qm K H1 a xs)/\r (OK K a) H1))
def Cg {l:Expr}{t:TE}(hl:PE X l t):PI X tg l (cp X.K t):=by
 intro pins s σ H m I h;refine zM (hl pins s σ H _ I h) λv s1 ⟨x,H1,i,g,Q⟩=>?_;obtain⟨a,e,q⟩:=Q;subst e;cases g;have f:∀b∈[s1.heap.objs.size],yR X pins H1 b:=λb j=>by
  have e:b=s1.heap.objs.size:=by simpa using j
  subst e;exact i.fpOk (ak _) (i.hok.fresh (ak _))
 rcases q with ⟨⟨xs,d⟩,q⟩|⟨⟨xs,d⟩,q⟩
 ·obtain⟨c,r,p,z⟩:=i.list d
  refine wpAny_pyIter_list p.isList ?_;exact⟨s1.heap.objs.size,[s1.heap.objs.size],_,_,H1,rfl,i.kept (t':=s1.toks) λb o e=>ae _ e,Hr a _,⟨_,av _ rfl,rfl,rfl⟩,f,q⟩
 ·obtain⟨c,r,p,z⟩:=i.tuple d
  refine wpAny_pyIter_tuple (show s1.heap.IsTuple a c.toArray from p) ?_
  exact⟨s1.heap.objs.size,[s1.heap.objs.size],_,_,H1,rfl,i.kept (t':=s1.toks) λb o e=>ae _ e,L1 a _,⟨_,av _ rfl,rfl,rfl⟩,f,q⟩
noncomputable def kx (lo:Int)(n:Nat):ja:=⟨λ_ i=>if i<n then some (some (.int (lo+i))) else some none,n⟩
def RY {K:Frag}{lo:Int}:gf K φ H (kx lo n) (Yg lo n):=λi a h A lw S=>by
 unfold kx;dsimp only
 by_cases hi:i<n
 ·rw[aj hi]
  refine⟨λw e=>?_,λe=>by cases e⟩
  cases e;exact⟨hi,λx H1 ⟨b,E⟩=>by subst b;exact⟨.refl,S,E⟩⟩
 ·rw[ao hi]
  exact⟨λw e=>(by cases e),λ_=>Nat.le_of_not_lt hi⟩
noncomputable def jy (i:Int):Bool:=decide (-(2 ^ 62)<=i)&&decide (i<2 ^ 62)
def gZ {i:Int}(h:jy i=true):-(2 ^ 62)<=i/\i<2 ^ 62:=by
 unfold jy at h;rw[ag,af,af]at h;exact h
def jc (m:Ev):Ei:=λρ A=>(m ρ A).bind λw A1=>match w with
 |.int j=>if jy j then .ok (kx 0 j.toNat) A1 else .bad|_=>.bad
def Xx (m M:Ev):Ei:=λρ A=>(m ρ A).bind λw A1=>(M ρ A1).bind λa A2=>match w,a with
 |.int i,.int j=>if jy i&&jy j then .ok (kx i (j-i).toNat) A2 else .bad|_,_=>.bad
end
abbrev Fn:=List W->Hx->R W
def AB (K:Frag)(x:Str)(C:Value):Prop:=nsIn K mainGlobals x=some (some C)
def XE (K:Frag)(E:XK)(x:Str)(H:Hp):Prop:=∀C d,AB K x C->E C d H
inductive gR (K:Frag)(n:Nat)(f:Fn)(vs:List V)(H:Hp)(Q:VK)(E:XK):Prop
 |mk (len:vs.length=n) (φ:bx) (A:Hx) (ws:List W) (S:zL K φ A H) (r:zF K φ H ws vs) (q:(f ws A).post (PB K φ H Q) (EB K φ H (XE K E)))
def gR.len {K:Frag}{f:Fn}{Q:VK}{E:XK}(h:gR K n f vs H Q E):vs.length=n:=by cases h;assumption
inductive zE (P:Program)(w:World)(K:Frag)(mg:bG)(base:Heap)(k:Nat)(x:Str)(n:Nat)(f:Fn):Prop
 |mk (fa:Addr) (fd:FuncData) (ps:bC) (F:yA P w K mg base kT k fa fd ps (gR K n f)) (at_:mg x=some (.ref fa)) (kp:keepIn K (.ref fa)=true) (bi:Binds K fd ps [])
noncomputable def zy (f:Fn)(a:Ea):Ev:=λρ A=>(a ρ A).bind λws A1=>f ws A1
section
variable {m ma:Ev}
def QP (m:Ea)(n:Nat):Prop:=∀ρ A ws a,m ρ A=.ok ws a->ws.length=n
def qJ:QP zr 0:=λ_ _ _ _ h=>by unfold zr at h;cases h;rfl
def qg {m:Ea}(h:QP m n):QP (zi ma m) (n+1):=λρ A ws a e=>by
 unfold zi at e;cases h1:ma ρ A with
 |ok x A1=>
  rw[h1,zK]at e;cases H:m ρ A1 with
  |ok xs A2=>rw[H,zK]at e;cases e;simp[h ρ A1 xs _ H]|exc x A2=>rw[H]at e;cases e|bad=>rw[H]at e;cases e
 |exc x A1=>rw[h1]at e;cases e|bad=>rw[h1]at e;cases e
end
noncomputable def zU (n:Nat)(m:Ex):Fn:=λws A=>(m (ws.map some++List.replicate (n-ws.length) none) A).nox.bind λf A1=>match f with
 |.rt w=>.ok w A1|.nx _=>.ok .non A1|_=>.bad
theorem RE.start {K:Frag}{ws:List W}(h:zF K φ H ws vs):RE K φ H (ws.map some++List.replicate (N.length-ws.length) none) (L2.start N vs):=by
 unfold L2.start;refine⟨by simp[h.length],λi w e=>?_⟩
 by_cases hi:i<ws.length
 ·rw[ah (by simpa using hi),aw]at e
  cases hw:ws[i]? with
  |none=>rw[hw]at e;cases e|some c=>
   rw[hw]at e;cases e;obtain⟨v,b,a⟩:=h.get hw;refine⟨v,?_,a⟩;rw[ah (by rw[ai,<- h.length];exact hi),aw,b];rfl
 ·rw[ar (by simpa using hi),List.getElem?_replicate]at e
  split at e<;>cases e
section
variable {K:Frag}
theorem zE.mono {j k:Nat}{f:Fn}(F:zE P w K mg base j x n f)(h:j<=k):zE P w K mg base k x n f:=by cases F with|mk d fd p F a b c=>exact⟨d,fd,p,F.mono h,a,b,c⟩
end
section
variable {K:Frag}
def jB {a:α}{A:Hx}:qE (R.ok a A):=λ_ _ h=>by cases h
def qM:qE (R.bad:R α):=λ_ _ h=>by cases h
def wQ {c:Prop} [Decidable c] {a b:R α}(H:qE a)(h:qE b):qE (if c then a else b):=by split<;>assumption
noncomputable def kY (f:Int->Int->W):W->W->Hx->R W
 |.int i,.int j,A=>.ok (f i j) A|_,_,_=>.bad
def gA {f:Int->Int->W}:∀x y A,qE (kY f x y A):=λx y A=>by
 unfold kY;split
 ·exact jB
 ·exact qM
noncomputable def wB (c:Int->Int->Bool)(f:Int->Int->W):W->W->Hx->R W
 |.int i,.int j,A=>if c i j then .ok (f i j) A else .bad|_,_,_=>.bad
def JT {c:Int->Int->Bool}{f:Int->Int->W}:∀x y A,qE (wB c f x y A):=λx y A=>by
 unfold wB;split
 ·exact wQ jB qM
 ·exact qM
def gw {f:Int->Int->W}{g:Int->Int->V}(h:∀i j φ H,RV K φ H (f i j) (g i j)):jO K (kZ g) (kY f):=λφ A H x y u v Q S a q p=>by
 cases u with
 |int i=>cases v with
  |int j=>obtain rfl:=a;obtain rfl:=q;exact⟨i,j,rfl,rfl,p φ H _ .refl S (h i j φ H)⟩|_=>exact p.elim
 |_=>exact p.elim
def JN {c:Int->Int->Bool}{C:Int->Int->Prop}{f:Int->Int->W}{g:Int->Int->V}(d:∀i j,c i j=true->C i j)(h:∀i j φ H,RV K φ H (f i j) (g i j)):jO K (rI C g) (wB c f):=λφ A H x y u v Q S b q p=>by
 cases u with
 |int i=>cases v with
  |int j=>
   obtain rfl:=b;obtain rfl:=q;unfold wB at p;dsimp only at p
   by_cases a:c i j=true
   ·rw[aj a]at p;exact⟨i,j,rfl,rfl,d i j a,p φ H _ .refl S (h i j φ H)⟩
   ·rw[ao a]at p;exact p.elim
  |_=>exact p.elim
 |_=>exact p.elim
noncomputable def Ya (i j:Int):Bool:=(decide (-(2 ^ 64)<i)&&decide (i<2 ^ 64)) || (decide (-(2 ^ 64)<j)&&decide (j<2 ^ 64))
noncomputable def Kv (_ j:Int):Bool:=decide (0<j)
def De (i j:Int)(h:Ya i j=true):J2 i j:=by
 unfold Ya at h;simp only[bj,ag,decide_eq_true_eq]at h;exact h
def EF (i j:Int)(h:Kv i j=true):(λ_ j=>0<j) i j:=by
 unfold Kv at h;simpa using h
def yM:=kY λi j=>.int (i-j)
def jU:=wB Kv λi j=>.int (i%j)
def XN:=kY λi j=>.int (Builtin.bitXor i j)
def Zq:=kY λi j=>.bl (decide (i<j))
def Zp:=kY λi j=>.bl (decide (i<=j))
def X4:=kY λi j=>.bl (decide (j<i))
def Vj:=kY λi j=>.bl (decide (j<=i))
noncomputable def KL (i j:Int):Bool:=decide (0<=j)&&decide (j<=1000000)&&decide (i.natAbs<2 ^ 64)
def RD (i j:Int)(h:KL i j=true):XW i j:=by
 unfold KL at h;simp only[ag,decide_eq_true_eq]at h;exact⟨h.1.1,h.1.2,h.2⟩
def QI:=wB KL λi j=>.int (i ^ j.toNat)
variable {a b c:Expr}
noncomputable def ZZ:W->Hx->R W
 |.int i,A=>.ok (.int (-i)) A|_,_=>.bad
structure yX (X:Cx)(op:CmpOp)(g:W->W->Hx->R W):Prop where
 ex:∃r:R2,qB X (compareOp op) r/\(∀x y A,qE (g x y A))/\jO X.K r g
 mks:∀b,op≠.In->op≠.NotIn->behindInMarks op b=false
def ZN {r:R2}{g:W->W->Hx->R W}(a:qB X (compareOp op) r)(H:∀x y A,qE (g x y A))(h:jO X.K r g):yX X op g:=⟨⟨r,a,H,h⟩,λb a1 a2=>HY b a1 a2⟩
def KN:yX X .Lt Zq:=ZN B0 gA (gw λ_ _ _ _=>rfl)
def Ky:yX X .LtE Zp:=ZN Ac gA (gw λ_ _ _ _=>rfl)
def P8:yX X .Gt X4:=ZN AG gA (gw λ_ _ _ _=>rfl)
def cq:yX X .GtE Vj:=ZN Ah gA (gw λ_ _ _ _=>rfl)
end
inductive Ty where
 |non|bl|int|str|tup|lst|dct
 deriving DecidableEq
noncomputable def Ty.nm:Ty->String
 |.non => "NoneType" | .bl => "bool" | .int => "int" | .str => "str" | .tup => "tuple" | .lst => "list" | .dct => "dict"
noncomputable def Wa (w:W)(A:Hx):Option Ty:=match w with
 |.non=>some .non|.bl _=>some .bl|.int _=>some .int|.str _=>some .str|.tup _=>some .tup|.ref n=>match A[n]? with
  |some (.lst _)=>some .lst|some (.dct _)=>some .dct|_=>none
 |_=>none
noncomputable def J8 (a b:Ty):Bool:=a==b || (a==.bl&&b==.int)
def Ry {K:Frag}(a b:Ty):kitOne K (.type a.nm) (.type b.nm)=some (J8 a b):=by
 cases a<;>cases b<;>rfl
section
variable {xr:XR}{K:Frag}{a c:Expr}{es:bE}{m:Ev}
def Wd (K:Frag)(H:Hp)(x:V)(t:Ty):Prop:=kA K H x (.type t.nm)∨∃a xs,x=.ref a/\qm K H a xs/\t=.tup
def HW {A:Hx}{w:W}{t:Ty}(S:zL K φ A H)(q:RV K φ H w v)(e:Wa w A=some t):Wd K H v t:=by
 cases w with
 |non=>cases e;obtain rfl:=q;exact .inl .non|bl k=>cases e;obtain rfl:=q;exact .inl (.bl k)|clo _ _ _=>cases e|xc _=>cases e|int k=>cases e;obtain rfl:=q;exact .inl (.int k)|str k=>cases e;obtain rfl:=q;exact .inl (.str k)|tup ws=>cases e;obtain⟨a,vs,rfl,h,_⟩:=q;exact .inr ⟨a,vs,rfl,h,rfl⟩|ref n=>
  obtain⟨a,rfl,c⟩:=q;unfold Wa at e;dsimp only at e;cases E:A[n]? with
  |none=>rw[E]at e;cases e|some o=>
   rw[E]at e;obtain⟨d,b,r⟩:=S.ob n o E;rw[c]at b;cases b;cases o with
   |lst ws=>cases e;obtain⟨vs,z,_⟩:=r;exact .inl (.lst z)|dct ws=>cases e;obtain⟨vs,z,_⟩:=r;exact .inl (.dK z)|td _=>cases e|tr _=>cases e|tab _ _=>cases e|ro ws=>cases e
def Wd.kit {x:V}{t:Ty}(I:Inv X pins σ H s)(r:RelV x u)(h:Wd X.K H x t):
  (∀{Q:bD}{E:bD}{A:Around}{c:Ty},(∀T,Q (.bool (J8 t c)) { s with toks:=T })->wpAny (model X.prog X.w) A (call (.builtin "isinstance") [u,.type c.nm]) Q E s):=by
 intro Q E A c q;rcases h with h|⟨a,xs,rfl,h,rfl⟩
 ·exact IQ I r h (Ry t c) q
 ·cases (show u=Value.ref a from r)
  obtain⟨i,_,⟨o,d,b,_⟩,_⟩:=I.tuple h;exact bg kitx_tuple I.kIn ⟨o,d,b⟩ (Ry .tup c) (λz=>nomatch z) q
def cu (K:Frag):List V->Hp->VK->Prop:=λxs H Q=>∃x t c,xs=[x,.ty (Ty.nm c)]/\Wd K H x t/\Q (.bl (J8 t c)) H
def EV:j9 X (.builtin "isinstance") (cu X.K):=by
 intro pins s σ H xs us Q I r h;obtain⟨x,t,c,rfl,d,q⟩:=h;obtain⟨u,U,rfl,b,a⟩:=vals2 r;cases (show U=Value.type c.nm from a)
 exact d.kit I b λT=>⟨.bl (J8 t c),H,I.tok T,rfl,q⟩
def Yf (t:Ty)(m:Ev):Ev:=λρ A=>(m ρ A).bind λw A1=>match Wa w A1 with
 |some t'=>.ok (.bl (J8 t' t)) A1|none=>.bad
def zB:W->W->Hx->R W:=λx y A=>match z7 x A,y with
 |some ws,.int i=>match kh ws i with
  |some w=>.ok w A|none=>.bad
 |_,_=>.bad
def Ak:∀x y A,qE (zB x y A):=λx y A=>by
 unfold zB;split
 ·split
  ·exact jB
  ·exact qM
 ·exact qM
def Ft {ws:List W}{i:Int}{w:W}(r:zF K φ H ws ys)(e:kh ws i=some w):∃y,kh ys i=some y/\RV K φ H w y:=by
 unfold kh at e ⊢;rw[<- r.length];cases h:k6 ws.length i with
 |none=>rw[h]at e;cases e|some j=>
  rw[h]at e;obtain⟨y,b,a⟩:=r.get (i:=j) e;exact⟨y,b,a⟩
def CU:jO K (OE K) zB:=λφ A H x y u v Q S d q p=>by
 unfold zB at p;cases es:z7 u A with
 |none=>rw[es]at p;exact p.elim|some ws=>
  rw[es]at p;cases v with
  |int i=>
   obtain rfl:=q;dsimp only at p;cases e:kh ws i with
   |none=>rw[e]at p;exact p.elim|some w=>
    rw[e]at p;obtain⟨a,Y,rfl,z,r⟩:=YF S d es;obtain⟨b,c,h⟩:=Ft r e;rcases z with z|z
    ·exact .inl ⟨a,Y,i,b,rfl,rfl,z,c,p φ H _ .refl S h⟩
    ·exact .inr (.inl ⟨a,Y,i,b,rfl,rfl,z,c,p φ H _ .refl S h⟩)
  |non=>exact p.elim|bl _=>exact p.elim|str _=>exact p.elim|tup _=>exact p.elim|ref _=>exact p.elim|clo _ _ _=>exact p.elim|xc _=>exact p.elim
def Zo (K:Frag)(r:List V->Hp->VK->Prop)(g:List W->Hx->R W):Prop:=∀φ A H a y ws Q,zL K φ A H->(qF K H a y∨qm K H a y)->zF K φ H ws y->(g ws A).post (PB K φ H Q) wH->r [.ref a] H Q
noncomputable def mQ (g:List W->Hx->R W)(q:jv):Ev:=λρ A=>(q ρ A).bind λws A1=>g ws A1
def mQ.read {g:List W->Hx->R W}{q:jv}(hn:∀ws A,qE (g ws A))(c:Zo X.K r g):∀σ H Q,tM X.K xr (mQ g q) σ H Q->Vf r (Pg (tQ X.K xr q) Of) σ H Q:=by
 rintro σ H Q ⟨φ,A,ρ,S,re,h⟩
 refine⟨φ,A,ρ,S,re,qw (zW.mp h) (λws A1 d b H1 a y l s z r=>?_) λ_ _ z=>z⟩;exact c b A1 H1 a y ws Q s z r (qw (Ql (hn _ _) d) (λ_ _ z=>z.mono l) λ_ _ z=>z)
def JY {id:String}{g:List W->Hx->R W}{q:jv}(d:j9 X (.builtin id) r)(hn:∀ws A,qE (g ws A))(a:Zo X.K r g)(hm:X.mg x=none)(v:bootBuiltins x=some (.builtin id))(f:SQ X xr e q)(c:Gl X x:=by rfl)
  (H:x ≠ "__name__":=by decide)(b:(x==("__debug__":Str))=false:=by decide)(he:starEach [e] X.env=(false,eval e X.env)::starEach [] X.env:=by rfl)(h:(backTo pos (starEach [] X.env)).any (·.1)=false:=by rfl):
  SE X xr (.Call (.Name x p) [e] [] pos) (mQ g q):=PE.imp (Jr d c hm v (jz f yd he) H b he h) (mQ.read hn a)
def Ao {id:String}{g:List W->Hx->R W}{q:jv}(d:j9 X (.type id) r)(hn:∀ws A,qE (g ws A))(a:Zo X.K r g)(hm:X.mg x=none)(v:bootBuiltins x=some (.type id))(f:SQ X xr e q)(c:Gl X x:=by rfl)
  (H:x ≠ "__name__":=by decide)(b:(x==("__debug__":Str))=false:=by decide)(he:starEach [e] X.env=(false,eval e X.env)::starEach [] X.env:=by rfl)(h:(backTo pos (starEach [] X.env)).any (·.1)=false:=by rfl):
  SE X xr (.Call (.Name x p) [e] [] pos) (mQ g q):=PE.imp (YH d c hm v (jz f yd he) H b he h) (mQ.read hn a)
noncomputable def qe:List W->Hx->R W:=λws A=>.ok (.int ws.length) A
def EK:Zo K (λxs H Q=>∃p y,xs=[.ref p]/\(qF K H p y∨qm K H p y)/\Q (.int y.length) H) qe:=λφ A H a y ws Q S z r p=>
 ⟨a,y,rfl,z,by rw[<- r.length];exact p φ H _ .refl S rfl⟩
noncomputable def je:List W->Hx->R W:=λws A=>.ok (.tup ws) A
def F8:Zo K (λxs H Q=>∃p y,xs=[.ref p]/\((qF K H p y/\∀l,H l=none->Q (.ref l) (upd H l (.tup y)))∨(qm K H p y/\Q (.ref p) H))) je:=λφ A H a y ws Q S z r p=>by
 refine⟨a,y,rfl,?_⟩;rcases z with z|z
 ·refine .inl ⟨z,λl hl=>?_⟩
  obtain⟨a1,a2,b⟩:=gx S hl r;exact p _ _ _ a1 a2 b
 ·exact .inr ⟨z,p φ H _ .refl S ⟨a,y,rfl,z,r⟩⟩
variable {b:Expr}
def YN {a:Addr}(I:Inv X pins σ H s)(l:X.calm=true)(z:qF X.K H a ys∨qm X.K H a ys)
  (h:∀(c:bw)(j:Addr)(fp wr:bx)(S:Nat->Heap->Prop)(s2:Shared),Vals ys c->ys.length<=sizeLine->Walks X.prog X.w X.A.in1 j fp wr c.length (λi v=>c[i]? =some v) S->S 0 s2.heap->(∀b∈fp,b<s2.heap.objs.size)->
   (∀(h':Heap)(T:Nat),(∀b o,b∉wr->s2.heap.get? b=some o->h'.get? b=some o)->Inv X pins σ H { s2 with heap:=h',toks:=T })->Q (.ref j) s2):
  wpAny (model X.prog X.w) X.A.in1 (pyIter (.ref a)) Q E s:=by
 have g:X.A.in1.handled=none:=I.ok.hd l;have keep:∀(o:Obj)(h':Heap)(T:Nat),(∀b u,b∉[s.heap.objs.size]->(s.heap.push o).get? b=some u->h'.get? b=some u)->Inv X pins σ H { s with heap:=h',toks:=T }:=λo h' T k=>I.kept λb u e=>k b u (by
  intro hm;have m:b=s.heap.objs.size:=by simpa using hm
  exact absurd (m ▸ aF e) (aT _)) (ae _ e)
 rcases z with z|z
 ·obtain⟨c,r,p,f⟩:=I.list z
  have t:a<s.heap.objs.size:=by obtain⟨o,n,e,_⟩:=p;exact aF e
  refine wpAny_pyIter_list p.isList ?_;have W:=Walks.list (prog:=X.prog) (w:=X.w) g s.heap.objs.size a (aO t) c.toArray;rw[aq]at W;simp only[List.getElem?_toArray]at W;refine h c s.heap.objs.size _ _ _ _ r f W ⟨⟨_,av _ rfl,rfl,rfl⟩,p.isList.at λo e=>ae _ e⟩ (λb d=>?_) λh' T k=>keep _ h' T k;show b<(s.heap.push _).objs.size;rw[a8];rcases bQ.mp d with e|d
  ·rw[e];exact bc _
  ·have e:b=a:=by simpa using d
   rw[e];exact a5 t
 ·obtain⟨c,r,p,f⟩:=I.tuple z
  have t:a<s.heap.objs.size:=p.lt;have P:s.heap.IsTuple a c.toArray:=p;refine wpAny_pyIter_tuple P ?_;have W:=Walks.tuple (prog:=X.prog) (w:=X.w) g s.heap.objs.size a (aO t) c.toArray;rw[aq]at W;simp only[List.getElem?_toArray]at W;refine h c s.heap.objs.size _ _ _ _ r f W ⟨⟨_,av _ rfl,rfl,rfl⟩,P.at λo e=>ae _ e⟩ (λb d=>?_) λh' T k=>keep _ h' T k;show b<(s.heap.push _).objs.size;rw[a8];rcases bQ.mp d with e|d
  ·rw[e];exact bc _
  ·have e:b=a:=by simpa using d
   rw[e];exact a5 t
noncomputable def J4:V->Option Bool
 |.bl b=>some b|.int i=>some (i != 0)|.non=>some false|_=>none
noncomputable def QM:W->Option Bool
 |.bl b=>some b|.int i=>some (i != 0)|.non=>some false|_=>none
def F1 {w:W}{k:Bool}(q:RV K φ H w v)(e:QM w=some k):J4 v=some k:=by
 cases w<;>first
  |(cases e;done)
  |(obtain rfl:=q;exact e)
def Hv {A:Around}{k:Bool}{Q:Bool->Shared->Prop}(r:RelV v u)(e:J4 v=some k)(h:Q k s):wpAny (model X.prog X.w) A (truthy u) Q E s:=by
 cases v with
 |bl b=>cases e;cases r;exact wpAny_truthy_bool h|int i=>
  cases e;obtain⟨t,rfl⟩:=r;exact PySem.P.truthy_int h
 |non=>cases e;cases r;exactλ_ _ _=>h|_=>cases e
def ko:List W->Option (List Bool)
 |[]=>some []|w::ws=>match QM w,ko ws with
  |some k,some ks=>some (k::ks)|_,_=>none
theorem Te:∀{ws:List W}{Y:List V}{ks:List Bool},zF K φ H ws Y->ko ws=some ks->∀(i:Nat)(y:V),Y[i]? =some y->∃k,ks[i]? =some k/\J4 y=some k
 |[],_,_,r,e,i,y,h=>by cases r;simp at h|w::ws,_,ks,⟨v,r,g,q,t⟩,e,i,y,h=>by
  subst g;unfold ko at e;cases E:QM w with
  |none=>rw[E]at e;cases e|some k=>
   cases a:ko ws with
   |none=>rw[E,a]at e;cases e|some b=>
    rw[E,a]at e;cases e;cases i with
    |zero=>simp at h;subst h;exact⟨k,by simp,F1 q E⟩|succ i=>simp at h;obtain⟨c,f,d⟩:=Te t a i y h;exact⟨c,by simpa using f,d⟩
theorem TC:∀{ws:List W}{ks:List Bool},ko ws=some ks->ks.length=ws.length
 |[],_,e=>by cases e;rfl|w::ws,ks,e=>by
  unfold ko at e;cases a:QM w with
  |none=>rw[a]at e;cases e|some k=>
   cases E:ko ws with
   |none=>rw[a,E]at e;cases e|some K=>rw[a,E]at e;cases e;simp[TC E]
def range_all (ks:List Bool):(List.range ks.length).all (λi=>ks.getD i false)=ks.all id:=by
 rw[Bool.eq_iff_iff,aR,aR]
 constructor
 ·intro h x b
  obtain⟨i,a,rfl⟩:=a6 b
  have:=h i (bO.mpr a)
  rw[aa,ab a]at this;exact this
 ·intro h i a
  have H:=bO.mp a;rw[aa,ab H];exact h _ (aK H)
def range_any (ks:List Bool):(List.range ks.length).any (λi=>ks.getD i false)=ks.any id:=by
 rw[Bool.eq_iff_iff,List.any_eq_true,List.any_eq_true]
 constructor
 ·rintro⟨i,a,h⟩
  have H:=bO.mp a;rw[aa,ab H]at h;exact⟨_,aK H,h⟩
 ·rintro⟨x,b,h⟩
  obtain⟨i,a,rfl⟩:=a6 b;refine⟨i,bO.mpr a,?_⟩;rw[aa,ab a];exact h
def XY (K:Frag)(f:List Bool->Bool):List V->Hp->VK->Prop:=λxs H Q=>∃a Y ks,xs=[.ref a]/\(qF K H a Y∨qm K H a Y)/\ks.length=Y.length/\(∀(i:Nat)(y:V),Y[i]? =some y->∃k,ks[i]? =some k/\J4 y=some k)/\Q (.bl (f ks)) H
def SK {ks:List Bool}{A:Around}(r:Vals ys its)(hl:ks.length=ys.length)(t:∀(i:Nat)(y:V),ys[i]? =some y->∃k,ks[i]? =some k/\J4 y=some k):TruthOf X.prog X.w A (λi v=>its[i]? =some v) λi=>ks.getD i false:=by
 intro i v s Q E P H;have b:i<its.length:=(bP.mp P).1;have h:i<ys.length:=by rw[r.length];exact b
 obtain⟨u,a,e⟩:=r.get (i:=i) (x:=ys[i]) (by simp[h])
 rw[P]at a;cases a;obtain⟨k,d,c⟩:=t i ys[i] (by simp[h])
 dsimp only at H;rw[aa,d]at H;exact Hv e c H
def FN (f:X.calm=true):j9 X (.builtin "all") (XY X.K λks=>ks.all id):=by
 intro pins s σ H xs us Q I r h;obtain⟨a,y,ks,rfl,z,hl,d,q⟩:=h;obtain⟨u,rfl,c⟩:=vals1 r;cases c;refine call_all_walk (YN I f z λb g fp wr S s2 v j W st p back=>?_);refine⟨g,fp,wr,_,_,S,λi=>ks.getD i false,rfl,W,st,SK v hl d,λh' t k=>?_⟩;have e:b.length=ks.length:=by rw[hl,v.length]
 rw[e,range_all];exact⟨.bl _,H,back h' t k,rfl,q⟩
def Fp (f:X.calm=true):j9 X (.builtin "any") (XY X.K λks=>ks.any id):=by
 intro pins s σ H xs us Q I r h;obtain⟨a,y,ks,rfl,z,hl,d,q⟩:=h;obtain⟨u,rfl,c⟩:=vals1 r;cases c;refine call_any_walk (YN I f z λb g fp wr S s2 v j W st p back=>?_);refine⟨g,fp,wr,_,_,S,λi=>ks.getD i false,rfl,W,st,SK v hl d,λh' t k=>?_⟩;have e:b.length=ks.length:=by rw[hl,v.length]
 rw[e,range_any];exact⟨.bl _,H,back h' t k,rfl,q⟩
def wX (f:List Bool->Bool):List W->Hx->R W:=λws A=>match ko ws with
 |some ks=>.ok (.bl (f ks)) A|none=>.bad
def RU {f:List Bool->Bool}:∀ws A,qE (wX f ws A):=λws A=>by
 unfold wX;split
 ·exact jB
 ·exact qM
def S7 {f:List Bool->Bool}:Zo K (XY K f) (wX f):=λφ A H a y ws Q S z r p=>by
 unfold wX at p;cases e:ko ws with
 |none=>rw[e]at p;exact p.elim|some ks=>
  rw[e]at p;exact⟨a,y,ks,rfl,z,by rw[TC e,r.length],Te r e,p φ H _ .refl S rfl⟩
abbrev ZX:=wX λks=>ks.all id
abbrev QG:=wX λks=>ks.any id
def Hn:qB X (compareOp .IsNot) (λx y H Q=>∃i j,x=.bl i/\y=.bl j/\Q (.bl (!(i==j))) H):=by
 intro pins s σ H x y v u Q I a r h;obtain⟨i,j,rfl,rfl,q⟩:=h;cases a;cases r;exact isnot_bool ⟨.bl _,H,I,rfl,q⟩
noncomputable def Xw:W->Bool
 |.non=>true|_=>false
def Ig {w:W}(q:RV K φ H w v):decide (v=.non)=Xw w:=by
 cases w with
 |non=>obtain rfl:=q;rfl|bl b=>obtain rfl:=q;rfl|clo _ _ _=>obtain⟨a,_,_,_,_,_,_,rfl,_⟩:=q;rfl|xc _=>obtain⟨a,_,_,_,rfl,_⟩:=q;rfl|int b=>obtain rfl:=q;rfl|str b=>obtain rfl:=q;rfl|tup ws=>obtain⟨a,vs,rfl,_⟩:=q;rfl|ref n=>obtain⟨a,rfl,_⟩:=q;rfl
def QR (neg:Bool):W->W->Hx->R W:=λx y A=>match x,y with
 |.bl i,.bl j=>.ok (.bl (if neg then !(i==j) else i==j)) A|w,.non=>.ok (.bl (if neg then !Xw w else Xw w)) A|_,_=>.bad
def Cr {n:Bool}:∀x y A,qE (QR n x y A):=λx y A=>by
 unfold QR;split
 ·exact jB
 ·exact jB
 ·exact qM
def IU:jO K (λx y H Q=>(y=.non/\Q (.bl (!decide (x=.non))) H)∨∃i j,x=.bl i/\y=.bl j/\Q (.bl (!(i==j))) H) (QR true):=λφ A H x y u v Q S b a p=>by
 cases v with
 |non=>
  have q:y=.non:=a;refine .inl ⟨q,?_⟩;rw[Ig b];cases u<;>exact p φ H _ .refl S rfl
 |bl j=>
  cases u with
  |bl i=>obtain rfl:=b;obtain rfl:=a;exact .inr ⟨i,j,rfl,rfl,p φ H _ .refl S rfl⟩|_=>exact p.elim
 |_=>cases u<;>exact p.elim
def RC:yX X .IsNot (QR true):=ZN (Dd.or Hn) Cr IU
end
noncomputable def Ob (outer sc:Scope):Bool:=sc.kind==.function&&decide ((sc.names.map (·.1)).Nodup)&&sc.names.all λy=>y.2 != .free || (outer.names.lookup y.1==some .cell || outer.names.lookup y.1==some .free)
def cps (h:Ob X.env.scope sc=true):wO X sc:=by
 unfold Ob at h;rw[ag,ag,af,aM,aR]at h;refine⟨h.1.1,h.1.2,λy H e=>?_⟩
 have:=h.2 y H
 rw[e]at this;simp only[bne_self_eq_false,Bool.false_or,bj,aM]at this;exact this
section
variable {xr:XR}{K:Frag}{a b:Expr}{ma mb:Ev}
theorem zL.lst {φ:bx}{A:Hx}{H:Hp}{n:Nat}{ws:List W}{v:V}(S:zL K φ A H)(q:RV K φ H (.ref n) v)(e:A[n]? =some (.lst ws)):∃p vs,v=.ref p/\φ[n]? =some p/\H p=some (.lst vs)/\zF K φ H ws vs:=by
 obtain⟨p,rfl,a⟩:=q;obtain⟨P,h,vs,c,b⟩:=S.ob n _ e;rw[a]at h;cases h;exact⟨p,vs,rfl,a,c,b⟩
def Hy {prog:Program}{A:Around}{t b:Addr}{ws:bw}(a:IsTup s.heap t ([]:bw).toArray)(e:IsTup s.heap b ws.toArray)(h0:Q (.ref b) s):
  wpAny (model prog w) A (binaryOp .Add (.ref t) (.ref b)) Q E s:=by
 obtain⟨⟨cls,D,data,sl⟩,ho,c,n,hd⟩:=id a;obtain⟨⟨C,d,data2,S⟩,h,H,N,hd2⟩:=id e;simp only at c hd H hd2;subst c hd H hd2;exact concat_meets ⟨_,ho,rfl⟩ ⟨_,h,rfl⟩ noFill_tuple_add seq_tuple_add slot_tuple_add entry_tuple_add (args_tuple_add_2 _ _)
   (tuple_addW0 t b ([]:bw).toArray ws.toArray n N D d sl S (by simp)) ⟨ho,h,h0⟩
noncomputable def Pd (K:Frag):R2:=λx y H Q=>∃a b Y,x=.ref a/\y=.ref b/\qm K H a []/\qm K H b Y/\Q (.ref b) H
def Hz:qB X (binaryOp .Add) (Pd X.K):=by
 intro pins s σ H x y v u Q I c r h;obtain⟨a,b,Y,rfl,rfl,g,f,q⟩:=h;cases c;cases r;obtain⟨e,d,P,_⟩:=I.tuple g;obtain⟨i,j,p,_⟩:=I.tuple f;cases d;exact Hy P p ⟨.ref b,H,I,rfl,q⟩
def qU:W->W->Hx->R W:=λx y A=>match x,y with
 |.int i,.int j=>.ok (.int (i+j)) A|.tup xs,.tup Y=>if xs.length+Y.length<=qd then .ok (.tup (xs++Y)) A else .bad|.ref n,.ref k=>match A[n]?,A[k]? with
  |some (.lst xs),some (.lst Y)=>if xs.length+Y.length<=qd then .ok (.ref A.length) (A++[.lst (xs++Y)]) else .bad|_,_=>.bad
 |_,_=>.bad
def DN:∀x y A,qE (qU x y A):=λx y A=>by
 unfold qU
 split
 ·exact jB
 ·exact wQ jB qM
 ·split
  ·exact wQ jB qM
  ·exact qM
 ·exact qM
def Qj (h:n<=qd):n<=sizeLine:=by
 have:sizeLine=16777216:=sizeLine_eq
 unfold qd at h;omega
def EJ:jO K (λx y H Q=>kZ (λi j=>.int (i+j)) x y H Q∨PN K x y H Q∨Pd K x y H Q∨PR x y H Q) qU:=λφ A H x y u v Q S f q p=>by
 cases u with
 |int i=>cases v with
  |int j=>obtain rfl:=f;obtain rfl:=q;exact .inl ⟨i,j,rfl,rfl,p φ H _ .refl S rfl⟩|_=>exact p.elim
 |tup xs=>cases v with
  |tup Y=>
   obtain⟨a1,b,rfl,t1,c⟩:=f;obtain⟨a2,a,rfl,t,r⟩:=q;unfold qU at p;dsimp only at p
   by_cases h:xs.length+Y.length<=qd
   ·rw[aj h]at p
    by_cases s:b=[]
    ·subst s
     have g:xs=[]:=by
      have:=c.length
      simpa using this
     subst g;exact .inr (.inr (.inl ⟨a1,a2,a,rfl,rfl,t1,t,p φ H _ .refl S ⟨a2,a,rfl,t,r⟩⟩))
    ·refine .inr (.inl ⟨a1,a2,b,a,rfl,rfl,t1,t,s,by rw[<- c.length,<- r.length];exact Qj h,λe=>?_,λne l hl=>?_⟩)
     ·subst e
      have g:Y=[]:=by
       have:=r.length
       simpa using this
      subst g;rw[append_nil]at p;exact p φ H _ .refl S ⟨a1,b,rfl,t1,c⟩
     ·obtain⟨o,m,B⟩:=gx S hl (c.append r)
      exact p _ _ _ o m B
   ·rw[ao h]at p;exact p.elim
  |_=>exact p.elim
 |ref n=>cases v with
  |ref k=>
   unfold qU at p;dsimp only at p;cases E:A[n]? with
   |none=>rw[E]at p;exact p.elim|some C=>cases C with
    |lst xs=>
     cases d:A[k]? with
     |none=>rw[E,d]at p;exact p.elim|some z=>cases z with
      |lst Y=>
       rw[E,d]at p;dsimp only at p;obtain⟨w,v1,rfl,f1,g1,c⟩:=S.lst f E;obtain⟨P,v2,rfl,f2,g2,r⟩:=S.lst q d
       by_cases h:xs.length+Y.length<=qd
       ·rw[aj h]at p
        refine .inr (.inr (.inr ⟨w,P,v1,v2,rfl,rfl,g1,g2,by rw[<- c.length,<- r.length];exact Qj h,λl hl=>?_⟩))
        obtain⟨o,m,B⟩:=JP S hl (c.append r);exact p _ _ _ o m B
       ·rw[ao h]at p;exact p.elim
      |_=>rw[E,d]at p;exact p.elim
    |_=>rw[E]at p;exact p.elim
  |_=>exact p.elim
 |_=>cases v<;>exact p.elim
def qh:W->W->Hx->R W:=λx y A=>match x,y with
 |.int i,.int j=>if Ya i j then .ok (.int (i * j)) A else .bad|.ref n,.int k=>match A[n]? with
  |some (.lst xs)=>if jy k&&decide (xs.length * k.toNat<=qd) then .ok (.ref A.length) (A++[.lst (List.replicate k.toNat xs).flatten]) else .bad|_=>.bad
 |_,_=>.bad
def Ck:∀x y A,qE (qh x y A):=λx y A=>by
 unfold qh
 split
 ·exact wQ jB qM
 ·split
  ·exact wQ jB qM
  ·exact qM
 ·exact qM
theorem zF.rep {ws:List W}(r:zF K φ H ws vs):∀n:Nat,zF K φ H (List.replicate n ws).flatten (List.replicate n vs).flatten
 |0=>.nil|n+1=>by rw[a4,a4,aZ,aZ];exact r.append (zF.rep r n)
def DL:jO K (λx y H Q=>rI J2 (λi j=>.int (i * j)) x y H Q∨P0 x y H Q) qh:=λφ A H x y u v Q S a q p=>by
 cases v with
 |int j=>cases u with
  |int i=>
   obtain rfl:=a;obtain rfl:=q;unfold qh at p;dsimp only at p
   by_cases c:Ya i j=true
   ·rw[aj c]at p;exact .inl ⟨i,j,rfl,rfl,De i j c,p φ H _ .refl S rfl⟩
   ·rw[ao c]at p;exact p.elim
  |ref n=>
   obtain rfl:=q;unfold qh at p;dsimp only at p;cases e:A[n]? with
   |none=>rw[e]at p;exact p.elim|some o=>cases o with
    |lst xs=>
     rw[e]at p;dsimp only at p;obtain⟨P,v1,rfl,f1,g1,r⟩:=S.lst a e
     by_cases h:(jy j&&decide (xs.length * j.toNat<=qd))=true
     ·rw[aj h]at p
      rw[ag,af]at h;obtain⟨B,b⟩:=gZ h.1;refine .inr ⟨P,j,v1,rfl,rfl,g1,by omega,by omega,by rw[<- r.length];exact Qj h.2,λl hl=>?_⟩
      obtain⟨c1,c2,C⟩:=JP S hl (r.rep j.toNat);exact p _ _ _ c1 c2 C
     ·rw[ao h]at p;exact p.elim
    |_=>rw[e]at p;exact p.elim
  |_=>exact p.elim
 |_=>cases u<;>exact p.elim
def yi:W->W->Hx->R W:=λx y A=>match x with
 |.ref n=>match A[n]? with
  |some (.lst ws)=>if ws.length<qd then .ok .non (A.set n (.lst (ws++[y]))) else .bad|_=>.bad
 |_=>.bad
noncomputable def QQ (x:W)(A:Hx):Bool:=match x with
 |.ref n=>match A[n]? with
  |some (.lst _)=>true|_=>false
 |_=>false
def Fz {A:Hx}{w:W}(S:zL K φ A H)(q:RV K φ H w v)(e:QQ w A=true):We K "list" v H:=by
 unfold QQ at e;cases w with
 |ref n=>
  dsimp only at e;cases E:A[n]? with
  |none=>rw[E]at e;cases e|some o=>cases o with
   |lst ws=>obtain⟨p,vs,rfl,_,h,_⟩:=S.lst q E;exact .inl ⟨rfl,_,qF.of h⟩|_=>rw[E]at e;cases e
 |_=>cases e
def jQ (g:W->W->Hx->R W)(a b:Ev):Ev:=λρ A=>(a ρ A).bind λx A1=>if QQ x A1 then(b ρ A1).bind λy A2=>g x y A2 else .bad
def Kr {nm:Str}{id:String}{r:V->List V->Hp->VK->Prop}{g:W->W->Hx->R W}(slot:Slot "list" nm id)(j:typeOf (.builtin id)=pure (.type "method_descriptor"))(hm:QS X id r)(hn:∀x y A,qE (g x y A))
  (t:∀φ A H x y u v Q,zL X.K φ A H->RV X.K φ H u x->RV X.K φ H v y->(g u v A).post (PB X.K φ H Q) wH->r x [y] H Q)(ho:SE X xr a ma)(he:SE X xr b mb)
  (s:starEach [b] X.env=(false,eval b X.env)::starEach [] X.env)(c:attributeBase a nm X.env (eval a X.env)=eval a X.env)
  (d:((backTo cpos (starEach [b] X.env)).all (λx=>!x.1)&&(backToKw cpos (keywordEach [] X.env)).all (λx=>x.1.isSome)
   && decide ([b].length+([]:bJ).length+(if ([]:bJ).isEmpty then 0 else 1)<30))=true)(e:(apos.endLine==cpos.line)=true):
  SE X xr (.Call (.Attribute a nm apos) [b] [] cpos) (jQ g ma mb):=
 PE.imp (Pp PySem.F.plainAttrs_list slot j hm ho (jz he yd s) c d e s (by rfl)) λσ H Q ⟨φ,A,ρ,S,re,h⟩=>by
  refine tM.go S re (zW.mp h) λw A1 n H1 v f l m q=>?_
  by_cases hl:QQ w A1=true
  ·rw[aj hl]at f
   refine⟨Fz m q hl,?_⟩;refine tM.go m (re.mono l) (qw (zW.mp f) (λ_ _ z=>z) λ_ _ z=>z.mono l) λo A2 i D v2 B L C p=>?_;exact t i A2 D v v2 w o Q C (q.mono L) p (qw (Ql (hn _ _ _) B) (λ_ _ z=>z.mono (l.trans L)) λ_ _ z=>z)
  ·rw[ao hl]at f;exact f.elim
def Hq:∀x y A,qE (yi x y A):=λx y A=>by
 unfold yi
 split
 ·split
  ·exact wQ jB qM
  ·exact qM
 ·exact qM
def wd:W->W->Hx->R W:=λx y A=>match x,y with
 |.ref n,.int i=>match A[n]? with
  |some (.lst ws)=>match (if jy i then seqIndex? i ws.length else none) with
   |some k=>match ws[k]? with
    |some w=>.ok w (A.set n (.lst (ws.eraseIdx k)))|none=>.bad
   |none=>.bad
  |_=>.bad
 |_,_=>.bad
def FA:∀x y A,qE (wd x y A):=λx y A=>by
 unfold wd
 split
 ·split
  ·split
   ·split
    ·exact jB
    ·exact qM
   ·exact qM
  ·exact qM
 ·exact qM
def kB:W->W->W->Hx->R Unit:=λo i v A=>match o,i with
 |.ref n,.int k=>match A[n]? with
  |some (.lst ws)=>match k6 ws.length k with
   |some j=>.ok () (A.set n (.lst (ws.set j v)))|none=>.bad
  |_=>.bad
 |_,_=>.bad
def RQ:∀o i v A,qE (kB o i v A):=λo i v A=>by
 unfold kB
 split
 ·split
  ·split
   ·exact jB
   ·exact qM
  ·exact qM
 ·exact qM
def Rw:Pw K PJ kB:=λφ A H o i v a w wv Q S f d q p=>by
 unfold kB at p;cases a with
 |ref n=>cases w with
  |int k=>
   obtain rfl:=d;dsimp only at p;cases e:A[n]? with
   |none=>rw[e]at p;exact p.elim|some g=>cases g with
    |lst ws=>
     rw[e]at p;dsimp only at p;cases E:k6 ws.length k with
     |none=>rw[E]at p;exact p.elim|some j=>
      rw[E]at p;obtain⟨l,vs,rfl,f1,g1,r⟩:=S.lst f e;have ln:Le K φ H φ (upd H l (.lst (vs.set j v))):=Le.upd f1 (λxs z=>by rw[g1]at z;cases z) (λ_ _ z=>by rw[g1]at z;cases z)
      obtain⟨c,b⟩:=S.write (o:=.lst ws) (o':=.lst (ws.set j wv)) e rfl rfl f1 ⟨_,j6,(r.mono ln).set (q.mono ln) j⟩;exact⟨l,vs,k,j,rfl,rfl,g1,by rw[<- r.length];exact E,p _ _ c b⟩
    |_=>rw[e]at p;exact p.elim
  |_=>exact p.elim
 |_=>cases w<;>exact p.elim
variable {es:bE}{m:Ev}
def BX {id:String}{g:W->Hx->R W}(i:j9 X (.builtin id) r)(hn:∀w A,qE (g w A))(f:K6 X.K (λv=>r [v]) g)(hm:X.mg x=none)(d:bootBuiltins x=some (.builtin id))(j:SE X xr e m)(b:Gl X x:=by rfl)
  (a:x ≠ "__name__":=by decide)(c:(x==("__debug__":Str))=false:=by decide)(he:starEach [e] X.env=(false,eval e X.env)::starEach [] X.env:=by rfl)(l:(backTo pos (starEach [] X.env)).any (·.1)=false:=by rfl):
  SE X xr (.Call (.Name x p) [e] [] pos) (jH g m):=PE.imp (Jr i b hm d (jz j yd he) a c he l) λσ H Q h=>jH.read (r:=λv=>r [v]) hn f σ H Q h
def DQ {id:String}{g:W->Hx->R W}(i:j9 X (.type id) r)(hn:∀w A,qE (g w A))(f:K6 X.K (λv=>r [v]) g)(hm:X.mg x=none)(d:bootBuiltins x=some (.type id))(j:SE X xr e m)(b:Gl X x:=by rfl)
  (a:x ≠ "__name__":=by decide)(c:(x==("__debug__":Str))=false:=by decide)(he:starEach [e] X.env=(false,eval e X.env)::starEach [] X.env:=by rfl)(l:(backTo pos (starEach [] X.env)).any (·.1)=false:=by rfl):
  SE X xr (.Call (.Name x p) [e] [] pos) (jH g m):=PE.imp (YH i b hm d (jz j yd he) a c he l) λσ H Q h=>jH.read (r:=λv=>r [v]) hn f σ H Q h
def Px {id:String}{g:W->W->Hx->R W}(o:j9 X (.builtin id) r)(hn:∀w j A,qE (g w j A))(n:jO X.K (λv c=>r [v,c]) g)(hm:X.mg x=none)(m:bootBuiltins x=some (.builtin id))(s:SE X xr a ma)(q:SE X xr b mb)(e:Gl X x)
  (d:x ≠ "__name__")(f:(x==("__debug__":Str))=false)(i:starEach [a,b] X.env=(false,eval a X.env)::starEach [b] X.env)(t:starEach [b] X.env=(false,eval b X.env)::starEach [] X.env)(l:(backTo pos (starEach [b] X.env)).any (·.1)=false):
  SE X xr (.Call (.Name x p) [a,b] [] pos) (zh g ma mb):=PE.imp (Jr o e hm m (jz s (jz q yd t) i) d f i l) λσ H Q h=>zh.read (r:=λv c=>r [v,c]) hn n σ H Q h
noncomputable def J6:W->Hx->R W
 |.int i,A=>.ok (.int (if i<0 then -i else i)) A|_,_=>.bad
noncomputable def Zk:W->Hx->R W
 |.int i,A=>.ok (.int i) A|.bl k,A=>.ok (.int (if k then 1 else 0)) A|_,_=>.bad
def Xt:=kY λi j=>.int (if j > i then j else i)
def Kj:=kY λi j=>.int (if j<i then j else i)
noncomputable def jV:W->Bool
 |.tup _=>false|.ref _=>false|.clo _ _ _=>false|.xc _=>false|_=>true
noncomputable def QJ:W->W->Bool
 |.non,.non=>true|.bl a,.bl b=>a==b|.bl a,.int b=>(if a then 1 else 0)==b|.int a,.bl b=>a==(if b then 1 else 0)|.int a,.int b=>a==b|.str a,.str b=>a==b|_,_=>false
def QT (x:W)(xs:List W):Bool:=xs.any λy=>QJ y x
def Jn {w:W}(q:RV K φ H w v)(e:jV w=true):yK v=true:=by
 cases w<;>first
  |(cases e;done)
  |(obtain rfl:=q;rfl)
def TU {w a:W}{b:V}(q:RV K φ H w v)(Q:RV K φ H a b)(e:jV w=true)(E:jV a=true):kF v b=QJ w a:=by
 cases w<;>cases a<;>first
  |(cases e;done)
  |(cases E;done)
  |(obtain rfl:=q;obtain rfl:=Q;rfl)
theorem Ss {x:W}(q:RV K φ H x v)(e:jV x=true):∀{xs:List W}{vs:List V},zF K φ H xs vs->xs.all jV=true->vs.all yK=true/\Wh v vs=QT x xs
 |[],_,r,_=>by cases r;exact⟨rfl,rfl⟩|w::ws,_,⟨y,r,E,h,t⟩,a=>by
  subst E;rw[all_cons,ag]at a;obtain⟨I,i⟩:=Ss q e t a.2;refine⟨by rw[all_cons,Jn h a.1,I];rfl,?_⟩
  unfold Wh QT at i ⊢;rw[any_cons,any_cons,i,TU h q a.1 e]
def Zm (neg:Bool):W->W->Hx->R W:=λx y A=>match z7 y A with
 |some ws=>if jV x&&ws.all jV then .ok (.bl (if neg then !QT x ws else QT x ws)) A else .bad|none=>.bad
abbrev X3:=Zm false
abbrev RO:=Zm true
def Pb {n:Bool}:∀x y A,qE (Zm n x y A):=λx y A=>by
 unfold Zm
 split
 ·exact wQ jB qM
 ·exact qM
def RN {n:Bool}:jO K (Vn K n) (Zm n):=λφ A H x y u v Q S q b p=>by
 unfold Zm at p;cases es:z7 v A with
 |none=>rw[es]at p;exact p.elim|some ws=>
  rw[es]at p;dsimp only at p
  by_cases hf:(jV u&&ws.all jV)=true
  ·rw[aj hf]at p
   rw[ag]at hf;obtain⟨a,Y,rfl,z,r⟩:=YF S b es;obtain⟨I,i⟩:=Ss q hf.1 r hf.2;exact⟨a,Y,rfl,z,Jn q hf.1,I,by rw[i];exact p φ H _ .refl S rfl⟩
  ·rw[ao hf]at p;exact p.elim
structure KD (X:Cx)(op:CmpOp)(g:W->W->Hx->R W):Prop where
 ex:∃r:R2,qB X (compareOp op) r/\(∀x y A,qE (g x y A))/\jO X.K r g
def cw:KD X .In X3:=⟨_,IH,Pb,RN⟩
def EA:KD X .NotIn RO:=⟨_,M7,Pb,RN⟩
end
noncomputable def yw (f:W->Option PyData):List W->Option (List PyData)
 |[]=>some []|w::ws=>match f w,yw f ws with
  |some d,some ds=>some (d::ds)|_,_=>none
def qO (A:Hx):Nat->W->Option PyData
 |_,.non=>some .none|_,.bl b=>some (.bool b)|_,.int i=>some (.int i)|_,.str x=>if PyData.strOk x then some (.str x) else none|_,.clo _ _ _=>none|_,.xc _=>none|0,.tup _=>none|0,.ref _=>none|n+1,.tup ws=>(yw (qO A n) ws).map .tuple|n+1,.ref k=>match z7 (.ref k) A with
  |some ws=>(yw (qO A n) ws).map .list|none=>none
def FP {K:Frag}{A:Hx}{us:List W}(S:zL K φ A H)(q:RV K φ H (.ref n) v)(e:z7 (.ref n) A=some us):∃a y,v=.ref a/\qF K H a y/\zF K φ H us y:=by
 obtain⟨a,rfl,d⟩:=q;unfold z7 at e;dsimp only at e;cases E:A[n]? with
 |none=>rw[E]at e;cases e|some o=>
  rw[E]at e;obtain⟨f,c,r⟩:=S.ob n o E;rw[d]at c;cases c;cases o with
  |lst xs=>cases e;obtain⟨y,b,h⟩:=r;exact⟨a,y,rfl,qF.of b,h⟩|ro xs=>cases e;obtain⟨y,b,h⟩:=r;exact⟨a,y,rfl,b.sq,h⟩|dct xs=>cases e|td _=>cases e|tr _=>cases e|tab _ _=>cases e
section
variable {a:Expr}
theorem Gz {K:Frag}{f:W->Option PyData}(hf:∀w v u d,RV K φ H w v->RelV v u->f w=some d->∃as,Reads h u d as):
  ∀{ws:List W}{vs:List V}{us:bw}{ds:List PyData},zF K φ H ws vs->Vals vs us->yw f ws=some ds->∃as,ReadsAll h us ds as
 |[],_,_,_,r,a,e=>by cases r;cases a;cases e;exact⟨[],.nil⟩|w::ws,_,_,ds,⟨v,r,l,q,t⟩,a,e=>by
  subst l;cases a with
  |cons g c=>
   unfold yw at e;cases E:f w with
   |none=>rw[E]at e;cases e|some d=>
    cases b:yw f ws with
    |none=>rw[E,b]at e;cases e|some D=>
     rw[E,b]at e;cases e;obtain⟨as,j⟩:=hf w v _ d q g E;obtain⟨bs,i⟩:=Gz hf t c b;exact⟨_,.cons j i⟩
def YM {A:Hx}(I:Inv X pins σ H s)(S:zL X.K φ A H):∀(n:Nat)(w:W)(v:V)(u:Value)(d:PyData),RV X.K φ H w v->RelV v u->qO A n w=some d->∃as,Reads s.heap u d as:=by
 intro n
 induction n with
 |zero=>
  intro w v u d q r e;cases w with
  |non=>obtain rfl:=q;cases r;cases e;exact⟨_,.none⟩|bl k=>obtain rfl:=q;cases r;cases e;exact⟨_,.bool k⟩|int k=>obtain rfl:=q;obtain⟨t,rfl⟩:=r;cases e;exact⟨_,.int k t⟩|str k=>
   obtain rfl:=q;obtain⟨t,rfl⟩:=r;unfold qO at e
   split at e
   ·cases e;exact⟨_,.str k t⟩
   ·cases e
  |tup _=>cases e|ref _=>cases e|clo _ _ _=>unfold qO at e;cases e|xc _=>unfold qO at e;cases e
 |succ n p=>
  intro w v u d q r e;cases w with
  |non=>obtain rfl:=q;cases r;cases e;exact⟨_,.none⟩|bl k=>obtain rfl:=q;cases r;cases e;exact⟨_,.bool k⟩|clo _ _ _=>unfold qO at e;cases e|xc _=>unfold qO at e;cases e|int k=>obtain rfl:=q;obtain⟨t,rfl⟩:=r;cases e;exact⟨_,.int k t⟩|str k=>
   obtain rfl:=q;obtain⟨t,rfl⟩:=r;unfold qO at e
   split at e
   ·cases e;exact⟨_,.str k t⟩
   ·cases e
  |tup ws=>
   obtain⟨a,vs,rfl,h,c⟩:=q;cases r;unfold qO at e;cases E:yw (qO A n) ws with
   |none=>rw[E]at e;cases e|some ds=>
    rw[E]at e;cases e;obtain⟨i,b,⟨o,l,j,k,g⟩,_⟩:=I.tuple h;obtain⟨as,f⟩:=Gz p c b E;exact⟨_,.tuple l j g (by simpa using f)⟩
  |ref k=>
   unfold qO at e;cases E:z7 (.ref k) A with
   |none=>rw[E]at e;cases e|some ws=>
    rw[E]at e;dsimp only at e;obtain⟨a,y,rfl,h,c⟩:=FP S q E;cases r;cases m:yw (qO A n) ws with
    |none=>rw[m]at e;cases e|some ds=>
     rw[m]at e;cases e;obtain⟨i,b,⟨o,x,l,j,_,g⟩,_⟩:=I.list h;obtain⟨as,f⟩:=Gz p c b m;exact⟨_,.list l j g (by simpa using f)⟩
def Iu {A:Hx}:∀(n:Nat)(w:W)(d:PyData),qO A n w=some d->d.canLay0=true/\d.depth<=n:=by
 intro n;have lst:∀{n:Nat},(∀(w:W)(d:PyData),qO A n w=some d->d.canLay0=true/\d.depth<=n)->∀(ws:List W)(ds:List PyData),yw (qO A n) ws=some ds->PyData.canLayAll0 ds=true/\PyData.depthAll ds<=n:=by
  intro n i ws
  induction ws with
  |nil=>intro ds e;cases e;exact⟨by simp[PyData.canLayAll0],by simp[PyData.depthAll]⟩|cons w ws I=>
   intro ds e;unfold yw at e;cases E:qO A n w with
   |none=>rw[E]at e;cases e|some d=>
    cases b:yw (qO A n) ws with
    |none=>rw[E,b]at e;cases e|some D=>
     rw[E,b]at e;cases e;obtain⟨h,c⟩:=i w d E;obtain⟨f,g⟩:=I D b;refine⟨by simp[PyData.canLayAll0,h,f],?_⟩
     simp only[PyData.depthAll];omega
 induction n with
 |zero=>
  intro w d e;cases w with
  |tup _=>cases e|ref _=>cases e|clo _ _ _=>unfold qO at e;cases e|xc _=>unfold qO at e;cases e|str x=>
   unfold qO at e
   split at e
   ·rename_i H;cases e;exact⟨by simp[PyData.canLay0,H],by simp[PyData.depth]⟩
   ·cases e
  |_=>cases e;exact⟨by simp[PyData.canLay0],by simp[PyData.depth]⟩
 |succ n i=>
  intro w d e;cases w with
  |clo _ _ _=>unfold qO at e;cases e|xc _=>unfold qO at e;cases e|tup ws=>
   unfold qO at e;cases a:yw (qO A n) ws with
   |none=>rw[a]at e;cases e|some ds=>
    rw[a]at e;cases e;obtain⟨h,c⟩:=lst i ws ds a;refine⟨by simp[PyData.canLay0,h],?_⟩
    simp only[PyData.depth];omega
  |ref k=>
   unfold qO at e;cases a:z7 (.ref k) A with
   |none=>rw[a]at e;cases e|some ws=>
    rw[a]at e;dsimp only at e;cases E:yw (qO A n) ws with
    |none=>rw[E]at e;cases e|some ds=>
     rw[E]at e;cases e;obtain⟨h,c⟩:=lst i ws ds E;refine⟨by simp[PyData.canLay0,h],?_⟩
     simp only[PyData.depth];omega
  |str x=>
   unfold qO at e
   split at e
   ·rename_i H;cases e;exact⟨by simp[PyData.canLay0,H],by simp[PyData.depth]⟩
   ·cases e
  |_=>cases e;exact⟨by simp[PyData.canLay0],by simp[PyData.depth]⟩
def wZ (neg:Bool):W->W->Hx->R W:=λx y A=>match qO A 8 x,qO A 8 y with
 |some d,some d'=>.ok (.bl (if neg then !PyData.eqv d d' else PyData.eqv d d')) A|_,_=>.bad
abbrev jY:=wZ false
abbrev q9:=wZ true
def Pf {n:Bool}:∀x y A,qE (wZ n x y A):=λx y A=>by
 unfold wZ
 split
 ·exact jB
 ·exact qM
def XZ (K:Frag)(neg:Bool):R2:=λx y H Q=>∃φ A u v d d',zL K φ A H/\RV K φ H u x/\RV K φ H v y/\qO A 8 u=some d/\qO A 8 v=some d'/\Q (.bl (if neg then !PyData.eqv d d' else PyData.eqv d d')) H
def YU {A:Hx}{w:W}{d:PyData}(h:qO A 8 w=some d):SeqAt.shaped d=true:=by
 obtain⟨H,a⟩:=Iu 8 w d h;unfold SeqAt.shaped;rw[H,Bool.true_and,af];omega
def DO (g:X.A.units+64<cLine):qB X (compareOp .Eq) (XZ X.K false):=by
 intro pins s σ H x y v u Q I b r h;obtain⟨φ,A,a,w,d,d',S,f,c,E,e,q⟩:=h;obtain⟨as,j⟩:=YM I S 8 a x v d f b E;obtain⟨bs,i⟩:=YM I S 8 w y u d' c r e;exact eq_dataH j i (YU E) (YU e) g ⟨.bl _,H,I,rfl,q⟩
def C4 (g:X.A.units+64<cLine):qB X (compareOp .NotEq) (XZ X.K true):=by
 intro pins s σ H x y v u Q I b r h;obtain⟨φ,A,a,w,d,d',S,f,c,E,e,q⟩:=h;obtain⟨as,j⟩:=YM I S 8 a x v d f b E;obtain⟨bs,i⟩:=YM I S 8 w y u d' c r e;exact ne_dataH j i (YU E) (YU e) g ⟨.bl _,H,I,rfl,q⟩
def Rh {K:Frag}{n:Bool}:jO K (XZ K n) (wZ n):=λφ A H x y u v Q S a q p=>by
 unfold wZ at p;cases e:qO A 8 u with
 |none=>rw[e]at p;exact p.elim|some d=>
  cases E:qO A 8 v with
  |none=>rw[e,E]at p;exact p.elim|some d'=>
   rw[e,E]at p;exact⟨φ,A,u,v,d,d',S,a,q,e,E,p φ H _ .refl S rfl⟩
def wV {k:Nat}(h:jL k X.A):yX X .Eq jY:=ZN (DO h.units) Pf Rh
def yY {k:Nat}(h:jL k X.A):yX X .NotEq q9:=ZN (C4 h.units) Pf Rh
end
mutual
noncomputable def W.nr:W->Bool
 |.tup ws=>qG ws|.ref _=>false|.clo _ ws _=>qG ws|_=>true
noncomputable def qG:List W->Bool
 |[]=>true|w::ws=>w.nr&&qG ws
end
def iso (f:Fn):Fn:=λus A=>if qG us then(match f us [] with
 |.ok w A1=>(match w with
  |.ref n=>(match A1[n]? with
   |some (.lst ws)=>if qG ws then .ok (.ref A.length) (A++[.lst ws]) else .bad|some (.dct kvs)=>if qG (kvs.map (·.2)) then .ok (.ref A.length) (A++[.dct kvs]) else .bad|_=>.bad)
  |w=>if w.nr then .ok w A else .bad)
 |_=>.bad) else .bad
def j3 (f:Fn):Fn:=λus A=>match us with
 |.ref n::us=>(match A[n]? with
  |some (.lst ws)=>if qG ws&&qG us then(match f (.ref 0::us) [.lst ws] with
   |.ok w A1=>(match (List.head? A1:Option O) with
    |some (.lst a)=>if qG a&&w.nr then .ok w (A.set n (.lst a)) else .bad|_=>.bad)
   |_=>.bad) else .bad
  |_=>.bad)
 |_=>.bad
section
variable {K:Frag}{φ' φ1:bx}{H' H1:Hp}{A A1:Hx}
mutual
theorem RV.nrm (tp:∀a vs,qm K H a vs->qm K H' a vs)(fz:∀a o u,H a=some (.frz o u)->H' a=some (.frz o u)):∀{w:W}{v:V},w.nr=true->RV K φ H w v->RV K φ' H' w v
 |.non,_,_,h=>h|.bl _,_,_,h=>h|.int _,_,_,h=>h|.str _,_,_,h=>h|.tup ws,_,n,⟨a,vs,e,t,r⟩=>⟨a,vs,e,tp _ _ t,zF.nrm tp fz n r⟩|.ref _,_,n,_=>nomatch n
 |.clo _ ws P,_,n,⟨a,ob,u,c,g,U,vs,e,d,b,i,r⟩=>⟨a,ob,u,c,g,U,vs,e,fz _ _ _ d,fz _ _ _ b,i,zF.nrm tp fz n r⟩|.xc _,_,_,⟨a,f,u,C,e,d,b⟩=>⟨a,f,u,C,e,fz _ _ _ d,b⟩
theorem zF.nrm (tp:∀a vs,qm K H a vs->qm K H' a vs)(fz:∀a o u,H a=some (.frz o u)->H' a=some (.frz o u)):∀{ws:List W}{vs:List V},qG ws=true->zF K φ H ws vs->zF K φ' H' ws vs
 |[],_,_,h=>h|w::ws,_,n,⟨v,r,e,h,t⟩=>by
  have N:(w.nr&&qG ws)=true:=n;rw[ag]at N;exact⟨v,r,e,RV.nrm tp fz N.1 h,zF.nrm tp fz N.2 t⟩
end
def zL.none:zL K [] [] H:=⟨rfl,λi j a o o' _ _ h=>by simp at h,λn o h=>by simp at h⟩
def zL.frame (S:zL K φ A H)(k:∀a o,H a=some o->H1 a=some o)(l:Le K φ H φ H1):zL K φ A H1:=
 ⟨S.len,S.inj,λn o e=>let ⟨a,h1,q⟩:=S.ob n o e;⟨a,h1,q.keep l λu h=>k a u h⟩⟩
def Le.apart (l:Le K [] H φ1 H1):Le K φ H φ H1/\∀a o,H a=some o->H1 a=some o:=
 have k:∀a o,H a=some o->H1 a=some o:=λa o h=>l.fr a o h λn e=>by simp at e
 ⟨⟨λ_ _ h=>h,l.tp,λa o h _=>k a o h,λ_ _ h=>.inl h,l.st,l.fz⟩,k⟩
def zL.trackN {u:HO}{o:O}(S:zL K φ A H)(I:H D=some u)(n:∀(k:Nat)(q:O),φ[k]? =some D->A[k]? =some q->q.mut=false)(new:OR K (φ++[D]) H D o):zL K (φ++[D]) (A++[o]) H:=by
 have l:gP K φ H (φ++[D]) H:=⟨λn a h=>by
  have:=(bP.mp h).1
  rw[ah this];exact h,λ_ _ h=>h,λ_ _ _ h=>h⟩
 have old:∀(i:Nat) a,(φ++[D])[i]? =some a->i<A.length->φ[i]? =some a:=λi a e f=>by
  rw[ah (by rw[S.len];exact f)]at e;exact e
 have last:∀a,(φ++[D])[A.length]? =some a->a=D:=λa e=>by
  rw[ar (by rw[S.len];exact ak _),S.len]at e
  simpa using e.symm
 refine⟨by simp[S.len],λi j a C B y w g b m1 m2=>?_,λk o' e=>?_⟩
 ·by_cases f:i<A.length
  ·rw[ah f]at g
   by_cases c:j<A.length
   ·rw[ah c]at b
    exact S.inj i j a C B (old i a y f) (old j a w c) g b m1 m2
   ·exfalso
    have s:j=A.length:=by have:=(bP.mp b).1;simp at this;omega
    subst s;have z:=n i C (by rw[<- last a w];exact old i a y f) g
    rw[m1]at z;cases z
  ·have v:i=A.length:=by have:=(bP.mp g).1;simp at this;omega
   by_cases c:j<A.length
   ·exfalso
    rw[ah c]at b;subst v;have z:=n j B (by rw[<- last a y];exact old j a w c) b
    rw[m2]at z;cases z
   ·have:=(bP.mp b).1;simp at this;omega
 ·by_cases hn:k<A.length
  ·rw[ah hn]at e
   obtain⟨a,E,q⟩:=S.ob k o' e;refine⟨a,l.ex _ _ E,?_⟩;cases o' with
   |lst ws=>obtain⟨vs,z,r⟩:=q;exact⟨vs,z,r.monoW l⟩|dct ws=>obtain⟨vs,z,Z,r⟩:=q;exact⟨vs,z,Z,r.monoW l⟩|td _=>obtain⟨vs,z,Z,t,r⟩:=q;exact⟨vs,z,Z,λx m=>l.tp _ _ (t x m),r.monoW l⟩|tr _=>obtain⟨ob,u,vs,z,d,Z,t,r⟩:=q;exact⟨ob,u,vs,z,d,Z,λx m=>l.tp _ _ (t x m),r.monoW l⟩|tab _ _=>exact q|ro ws=>obtain⟨vs,z,r⟩:=q;exact⟨vs,z,r.monoW l⟩
  ·have p:k=A.length:=by have:=(bP.mp e).1;simp at this;omega
   subst p;rw[ar (ak _)]at e;simp at e;subst e;exact⟨D,by rw[ar (by rw[S.len];exact ak _),S.len];simp,new⟩
def zL.adopt {o:O}(S:zL K φ A H)(l:Le K [] H φ1 H1)(d:φ1[n]? =some a)(m:∃u,H1 a=some u)(new:OR K (φ++[a]) H1 a o):
  Le K φ H (φ++[a]) H1/\zL K (φ++[a]) (A++[o]) H1/\RV K (φ++[a]) H1 (.ref A.length) (.ref a):=by
 obtain⟨L,k⟩:=l.apart (φ:=φ);have h0:H a=Option.none:=by
  rcases l.nw n a d with e|e
  ·simp at e
  ·exact e
 obtain⟨u,b⟩:=m;have s:=S.frame k L;refine⟨L.track h0,s.trackN b (λk q g f=>?_) new,a,rfl,by rw[<- S.len];simp⟩
 cases c:q.mut with
 |false=>rfl|true=>
  obtain⟨i,E,r⟩:=S.ob k q f;rw[g]at E;cases E;obtain⟨z,h,_⟩:=r.there c;rw[h0]at h;cases h
def OR.nrL {ws:List W}(h:OR K φ H a (.lst ws))(n:qG ws=true):OR K φ' H a (.lst ws):=let ⟨vs,e,r⟩:=h;⟨vs,e,r.nrm (λ_ _ t=>t) (λ_ _ _ t=>t) n⟩
def OR.nrD {kvs:List (Key×W)}(h:OR K φ H a (.dct kvs))(n:qG (kvs.map (·.2))=true):OR K φ' H a (.dct kvs):=let ⟨vs,e,E,r⟩:=h;⟨vs,e,E,r.nrm (λ_ _ t=>t) (λ_ _ _ t=>t) n⟩
theorem zE.iso {k:Nat}{f:Fn}(F:zE P w K mg base k x n f):zE P w K mg base k x n (iso f):=by
 obtain⟨D,fd,C,F,a,b,c⟩:=F;refine⟨D,fd,C,F.imp λvs H Q E ⟨hl,φ,A,ws,S,r,q⟩=>?_,a,b,c⟩;unfold Mi.iso at q
 by_cases hn:qG ws=true
 ·rw[aj hn]at q
  refine⟨hl,[],[],ws,zL.none,r.nrm (λ_ _ t=>t) (λ_ _ _ t=>t) hn,?_⟩;cases hf:f ws [] with
  |ok w A1=>
   rw[hf]at q;dsimp only at q;intro z H1 v L I g;cases w with
   |ref m=>
    dsimp only at q;cases hm:A1[m]? with
    |none=>rw[hm]at q;exact q.elim|some o=>
     rw[hm]at q;obtain⟨J,j,d⟩:=I.ob m o hm;obtain⟨a2,rfl,e⟩:=g;rw[j]at e;cases e;cases o with
     |lst us=>
      dsimp only at q
      by_cases h:qG us=true
      ·rw[aj h]at q
       obtain⟨t,i,_⟩:=d.there rfl;obtain⟨s,p,B⟩:=S.adopt L j ⟨t,i⟩ (o:=.lst us) (d.nrL h);exact q _ _ _ s p B
      ·rw[ao h]at q;exact q.elim
     |dct us=>
      dsimp only at q
      by_cases h:qG (us.map (·.2))=true
      ·rw[aj h]at q
       obtain⟨t,i,_⟩:=d.there rfl;obtain⟨s,p,B⟩:=S.adopt L j ⟨t,i⟩ (o:=.dct us) (d.nrD h);exact q _ _ _ s p B
      ·rw[ao h]at q;exact q.elim
     |ro us=>exact q.elim|td _=>exact q.elim|tr _=>exact q.elim|tab _ _=>exact q.elim
   |_=>
    all_goals
     dsimp only at q;obtain⟨l,u⟩:=L.apart (φ:=φ)
     first
      |exact q φ H1 v l (S.frame u l) g
      |(
        split at q
        ·rename_i hw
         exact q φ H1 v l (S.frame u l) (RV.nrm (λ_ _ t=>t) (λ_ _ _ t=>t) hw g)
        ·exact q.elim)
  |exc y A1=>rw[hf]at q;exact q.elim|bad=>rw[hf]at q;exact q.elim
 ·rw[ao hn]at q;exact q.elim
theorem zE.j3 {k:Nat}{f:Fn}(F:zE P w K mg base k x n f):zE P w K mg base k x n (j3 f):=by
 obtain⟨fa,fd,ps,F,a,b,c⟩:=F;refine⟨fa,fd,ps,F.imp λvs H Q E ⟨hl,φ,A,ws,S,r,q⟩=>?_,a,b,c⟩;unfold Mi.j3 at q;cases ws with
 |nil=>exact q.elim|cons w0 us=>cases w0 with
  |ref n=>
   dsimp only at q;cases l:A[n]? with
   |none=>rw[l]at q;exact q.elim|some o=>cases o with
    |lst xs=>
     rw[l]at q;dsimp only at q
     by_cases hn:(qG xs&&qG us)=true
     ·rw[aj hn]at q
      rw[ag]at hn;obtain⟨v0,vr,rfl,q0,qr⟩:=r;obtain⟨p,Y,rfl,f1,g1,g⟩:=S.lst q0 l;have S0:zL K [p] [.lst xs] H:=by
       refine⟨rfl,λi j a o o' J I X T _ _=>?_,λm o e=>?_⟩
       ·have:=(bP.mp J).1
        have:=(bP.mp I).1
        simp at*;omega
       ·have:m=0:=by have:=(bP.mp e).1;simp at this;omega
        subst this;simp at e;subst e;exact⟨p,rfl,Y,g1,g.nrm (λ_ _ t=>t) (λ_ _ _ t=>t) hn.1⟩
      refine⟨hl,[p],[.lst xs],.ref 0::us,S0,.cons ⟨p,rfl,rfl⟩ (qr.nrm (λ_ _ t=>t) (λ_ _ _ t=>t) hn.2),?_⟩;cases hf:f (.ref 0::us) [.lst xs] with
      |ok w A1=>
       rw[hf]at q;dsimp only at q;intro B H1 v L S1 q1;cases h0:List.head? A1 with
       |none=>rw[h0]at q;exact q.elim|some o=>cases o with
        |lst zs=>
         rw[h0]at q;dsimp only at q
         by_cases hw:(qG zs&&w.nr)=true
         ·rw[aj hw]at q
          rw[ag]at hw;have apart:∀a o,a≠p->H a=some o->H1 a=some o:=λa o ne h=>L.fr a o h λm e=>by
           have:m=0:=by have:=(bP.mp e).1;simp at this;omega
           subst this;simp at e;exact ne e.symm
          have lf:Le K φ H φ H1:=⟨λ_ _ h=>h,L.tp,λa o h nn=>apart a o (λe=>nn n (by rw[e];exact f1)) h,λ_ _ h=>.inl h,L.st,L.fz⟩
          have hp:B[0]? =some p:=L.ex 0 p rfl;obtain⟨p',s,U,M,D⟩:=S1.ob 0 _ (by rw[<- List.head?_eq_getElem?];exact h0)
          rw[hp]at s;cases s;refine q φ H1 v lf ?_ (RV.nrm (λ_ _ t=>t) (λ_ _ _ t=>t) hw.2 q1);have mt:∀(i:Nat)(w:O),(A.set n (.lst zs))[i]? =some w->w.mut=true->∃N,A[i]? =some N/\N.mut=true:=λi w e mw=>by
           by_cases hi:i=n
           ·subst hi;exact⟨_,l,rfl⟩
           ·rw[ay (Ne.symm hi)]at e;exact⟨w,e,mw⟩
          refine⟨by simp[S.len],λi j a o1 o2 J I X T m1 m2=>?_,λi w e=>?_⟩
          ·obtain⟨w1,s,k1⟩:=mt i o1 X m1
           obtain⟨Z,M,k2⟩:=mt j o2 T m2;exact S.inj i j a w1 Z J I s M k1 k2
          ·by_cases hi:i=n
           ·subst hi
            have:i<A.length:=(bP.mp l).1
            rw[aB this]at e;cases e;exact⟨p,f1,U,M,D.nrm (λ_ _ t=>t) (λ_ _ _ t=>t) hw.1⟩
           ·rw[ay (Ne.symm hi)]at e
            obtain⟨a,s,C⟩:=S.ob i w e;refine⟨a,s,?_⟩
            by_cases hm:w.mut=true
            ·have ne:a≠p:=λz=>hi (S.inj i n a w _ s (by rw[z];exact f1) e l hm rfl)
             exact C.keep lf λz hz=>apart a z ne hz
            ·cases w with
             |lst _=>exact absurd rfl hm|dct _=>exact absurd rfl hm|td _=>exact absurd rfl hm|tr _=>obtain⟨ob,u,vs,q,d,k,t,r⟩:=C;exact⟨ob,u,vs,lf.fz _ _ _ q,d,k,λx hx=>lf.tp _ _ (t x hx),r.mono lf⟩|tab _ _=>exact absurd rfl hm|ro ws=>
              obtain⟨vs,g,D⟩:=C;refine⟨vs,?_,D.mono lf⟩;rcases g with ⟨ob,g⟩|g
              ·refine .inl ⟨ob,apart a _ ?_ g⟩
               intro z;subst z;rw[g1]at g;cases g
              ·exact .inr g
         ·rw[ao hw]at q;exact q.elim
        |_=>rw[h0]at q;exact q.elim
      |exc y A1=>rw[hf]at q;exact q.elim|bad=>rw[hf]at q;exact q.elim
     ·rw[ao hn]at q;exact q.elim
    |_=>rw[l]at q;exact q.elim
  |_=>exact q.elim
end
section
variable {K:Frag}{a b:Expr}{es:bE}{m:Ev}{st:Stmt}
noncomputable def Zi:Ex:=λ_ _=>.bad
noncomputable def intsOf:List W->Option (bt)
 |[]=>some []|w::ws=>match w with
  |.int i=>match intsOf ws with
   |some is=>some (i::is)|none=>none
  |_=>none
theorem GC:∀{ws:List W}{ns:bt},intsOf ws=some ns->ws=ns.map W.int
 |[],_,e=>by cases e;rfl|w::ws,ns,e=>by
  unfold intsOf at e;cases w with
  |int i=>
   dsimp only at e;cases E:intsOf ws with
   |none=>rw[E]at e;cases e|some is=>rw[E]at e;cases e;rw[GC E];rfl
  |_=>cases e
noncomputable def jR:List Int->Int->Int
 |[],m=>m|i::is,m=>jR is (if i > m then i else m)
noncomputable def yy:List Int->Int->Int
 |[],m=>m|i::is,m=>yy is (m+i)
def preSum_eq (ns:bt):∀k,preSum (λi=>ns.getD i 0) k+yy (ns.drop k) 0=yy ns 0∨ns.length<k:=by
 have add:∀(l:bt)(m:Int),yy l m=m+yy l 0:=λl=>by
  induction l with
  |nil=>intro m;show m=m+0;omega|cons i is I=>intro m;show yy is (m+i)=m+yy is (0+i);rw[I (m+i),I (0+i)];omega
 intro k
 induction k with
 |zero=>left;show(0:Int)+yy ns 0=_;omega|succ k I=>
  rcases I with I|I
  ·by_cases h:k<ns.length
   ·left
    have e:ns.drop k=ns[k]::ns.drop (k+1):=a7 h;rw[e]at I;have a:yy (ns[k]::ns.drop (k+1)) 0=ns[k]+yy (ns.drop (k+1)) 0:=by show yy (ns.drop (k+1)) (0+ns[k])=_;rw[add];omega
    rw[a]at I;show preSum _ k+ns.getD k 0+_=_;have E:ns.getD k 0=ns[k]:=by rw[aa,ab h];rfl
    rw[E];omega
   ·right;omega
  ·right;omega
def Ia (ns:bt):preSum (λi=>ns.getD i 0) ns.length=yy ns 0:=by
 rcases preSum_eq ns ns.length with h|h
 ·rw[drop_length]at h
  have:yy [] 0=0:=rfl
  omega
 ·omega
def IB (ns:bt):∀(k:Nat)(a:k<ns.length),jR (ns.drop (k+1)) (ns.getD (argBest (λi j=>decide (ns.getD i 0 > ns.getD j 0)) k) 0)=jR ns.tail (ns.getD 0 0):=by
 intro k
 induction k with
 |zero=>intro _;rw[show argBest _ 0=0 from rfl,List.drop_one]|succ k I=>
  intro a;have H:k<ns.length:=by omega
  rw[<- I H];have e:ns.drop (k+1)=ns[k+1]::ns.drop (k+1+1):=a7 a;rw[e];have E:ns.getD (k+1) 0=ns[k+1]:=by rw[aa,ab a];rfl
  show jR _ (ns.getD (if decide (ns.getD (k+1) 0 > ns.getD (argBest _ k) 0)=true then k+1 else argBest _ k) 0)=jR _ (if ns[k+1] > ns.getD (argBest _ k) 0 then ns[k+1] else ns.getD (argBest _ k) 0);rw[E]
  by_cases h:ns[k+1] > ns.getD (argBest (λi j=>decide (ns.getD i 0 > ns.getD j 0)) k) 0
  ·rw[aj (by rw[af];exact h),aj h,E]
  ·rw[ao (by rw[af];exact h),ao h]
noncomputable def Kk (K:Frag)(C:List Int->Prop)(f:List Int->Int):List V->Hp->VK->Prop:=λxs H Q=>∃a ns,xs=[.ref a]/\(qF K H a (ns.map V.int)∨qm K H a (ns.map V.int))/\C ns/\Q (.int (f ns)) H
def YY (r:Vals (ns.map V.int) its){v:Value}(h:its[i]? =some v):∃t,v=.int (ns.getD i 0) t:=by
 have c:i<its.length:=(bP.mp h).1;have H:i<ns.length:=by have:=r.length;rw[ai]at this;omega
 obtain⟨u,a,b⟩:=r.get (i:=i) (x:=V.int ns[i]) (by simp[H])
 rw[h]at a;cases a;obtain⟨t,rfl⟩:=b;exact⟨t,by rw[aa,ab H];rfl⟩
def IS (f:X.calm=true):j9 X (.builtin "sum") (Kk X.K (λ_=>True) λns=>yy ns 0):=by
 intro pins s σ H xs us Q I r h;obtain⟨a,ns,rfl,z,_,q⟩:=h;obtain⟨u,rfl,d⟩:=vals1 r;cases d;refine call_sum_walkG (YN I f z λb g fp wr S s2 c j W st p back=>?_);refine⟨g,fp,wr,_,_,S,λi=>ns.getD i 0,rfl,W,st,p,λi v h=>YY c h,λh' t t' k=>?_⟩;have e:b.length=ns.length:=by have:=c.length;rw[ai]at this;omega
 rw[e,Ia];exact⟨.int _,H,back h' t k,⟨_,rfl⟩,q⟩
def Hg (o:X.calm=true):j9 X (.builtin "max") (Kk X.K (λns=>ns≠[]) λns=>jR ns.tail (ns.getD 0 0)):=by
 intro pins s σ H xs us Q I r h;obtain⟨a,ns,rfl,z,f,q⟩:=h;obtain⟨u,rfl,m⟩:=vals1 r;cases m;have N:0<ns.length:=List.length_pos_iff.mpr f;refine call_max_walk (YN I o z λd D fp wr S s2 c M W st p back=>?_);have e:d.length=ns.length:=by have:=c.length;rw[ai]at this;omega
 refine⟨D,fp,wr,_,_,S,λi j=>decide (ns.getD i 0 > ns.getD j 0),rfl,W,st,p,by omega,?_,λv h' T n k=>?_⟩
 ·intro i j L J l Q' E B y x
  obtain⟨t1,rfl⟩:=YY c B;obtain⟨g,rfl⟩:=YY c y;exact(PyProof.Rows.gt_int x:wpAny (model X.prog X.w) X.A.in1 (compareOp .Gt (.int (ns.getD i 0) t1) (.int (ns.getD j 0) g)) Q' E l)
 ·obtain⟨t,rfl⟩:=YY c n
  rw[e];have b:=IB ns (ns.length-1) (by omega)
  rw[show ns.length-1+1=ns.length by omega,drop_length]at b
  have C:ns.getD (argBest (λi j=>decide (ns.getD i 0 > ns.getD j 0)) (ns.length-1)) 0=jR ns.tail (ns.getD 0 0):=b;rw[C];exact⟨.int _,H,back h' T k,⟨_,rfl⟩,q⟩
def yH:List W->Hx->R W:=λws A=>match intsOf ws with
 |some (i::is)=>.ok (.int (jR is i)) A|_=>.bad
def kR:List W->Hx->R W:=λws A=>match intsOf ws with
 |some is=>.ok (.int (yy is 0)) A|none=>.bad
def D0:∀ws A,qE (yH ws A):=λws A=>by
 unfold yH;split
 ·exact jB
 ·exact qM
def Cu:∀ws A,qE (kR ws A):=λws A=>by
 unfold kR;split
 ·exact jB
 ·exact qM
def TL {ws:List W}{a:Addr}(z:qF K H a ys∨qm K H a ys)(r:zF K φ H ws ys)(e:intsOf ws=some ns):qF K H a (ns.map V.int)∨qm K H a (ns.map V.int):=by
 rw[GC e]at r;rw[<- zF.ints.mp r];exact z
def E2:Zo K (Kk K (λns=>ns≠[]) λns=>jR ns.tail (ns.getD 0 0)) yH:=λφ A H a y ws Q S z r p=>by
 unfold yH at p;cases e:intsOf ws with
 |none=>rw[e]at p;exact p.elim|some ns=>cases ns with
  |nil=>rw[e]at p;exact p.elim|cons i is=>rw[e]at p;exact⟨a,i::is,rfl,TL z r e,(by intro z;cases z),p φ H _ .refl S rfl⟩
def E5:Zo K (Kk K (λ_=>True) λns=>yy ns 0) kR:=λφ A H a y ws Q S z r p=>by
 unfold kR at p;cases e:intsOf ws with
 |none=>rw[e]at p;exact p.elim|some ns=>rw[e]at p;exact⟨a,ns,rfl,TL z r e,trivial,p φ H _ .refl S rfl⟩
def Zn (y:W):List W->Nat->Nat
 |[],n=>n|w::ws,n=>Zn y ws (if QJ w y then n+1 else n)
theorem GU (y:W):∀(ws:List W)(n:Nat),Zn y ws n=n+ws.countP λw=>QJ w y
 |[],n=>by simp[Zn]|w::ws,n=>by
  show Zn y ws _=_;rw[GU y ws,countP_cons]
  by_cases h:QJ w y=true
  ·rw[aj h,aj h];omega
  ·rw[ao h,ao h];omega
def JL:W->W->Hx->R W:=λx y A=>match x with
 |.tup ws=>if jV y&&ws.all jV then .ok (.int (Zn y ws 0)) A else .bad|_=>.bad
def C7 (K:Frag):V->List V->Hp->VK->Prop:=λx vs H Q=>∃a xs y,x=.ref a/\vs=[y]/\qm K H a xs/\yK y=true/\xs.all yK=true/\Q (.int (xs.countP λz=>kF z y)) H
theorem Gv {y:V}:∀{xs:List V}{us:bw},Vals xs us->xs.all yK=true->us.countP (yB y)=xs.countP λz=>kF z y
 |_,_,.nil,_=>rfl|_,_,.cons r t,h=>by
  rw[all_cons,ag]at h;rw[countP_cons,countP_cons,Gv t h.2,G7 r h.1]
def HV:QS X "tuple.count" (C7 X.K):=by
 intro pins s σ H x vs v us Q I b d h;obtain⟨a,xs,y,rfl,rfl,t,j,f,q⟩:=h;cases b;obtain⟨u,rfl,e⟩:=d.one;obtain⟨i,r,pp,_⟩:=I.tuple t;obtain⟨⟨cls,D,data,sl⟩,ho,c,n,hd⟩:=id pp;simp only at c hd;subst c hd;refine call_meets F.slot_tuple_count ⟨_,ho,rfl⟩ F.entry_tuple_count (F.args_tuple_count_2 _ _) (SeqAt.tuple_countAt a i.toArray n D sl u (yB y)) ⟨ho,λz g=>ZF e j r f z (by simpa using g),?_⟩
 refine⟨.int _,H,I.tok _,⟨_,rfl⟩,?_⟩;rw[<- Gv r f]at q;simpa using q
noncomputable def Ke (g:W->W->Hx->R W)(a b:Ev):Ev:=λρ A=>(a ρ A).bind λx A1=>match x with
 |.tup ws=>(b ρ A1).bind λy A2=>g (.tup ws) y A2|_=>.bad
noncomputable def cx (K:Frag)(r:V->List V->Hp->VK->Prop)(to:TE)(t:TA):TE:=λσ H Q=>to σ H λx H1=>∃p y,x=.ref p/\qm K H1 p y/\t σ H1 λxs h=>r x xs h Q
def BI {o:Expr}{to:TE}{t:TA}{name:Str}{id:String}{r:V->List V->Hp->VK->Prop}(slot:Slot "tuple" name id)(y:typeOf (.builtin id)=pure (.type "method_descriptor"))(hm:QS X id r)(ho:PE X o to)(m:PA X (e::es) t)
  (c:attributeBase o name X.env (eval o X.env)=eval o X.env)
  (w:((backTo cpos (starEach (e::es) X.env)).all (λx=>!x.1)&&(backToKw cpos (keywordEach [] X.env)).all (λx=>x.1.isSome)
   && decide ((e::es).length+([]:bJ).length+(if ([]:bJ).isEmpty then 0 else 1)<30))=true)
  (b:(apos.endLine==cpos.line)=true)(l:starEach (e::es) X.env=(false,eval e X.env)::starEach es X.env)(n:(backTo cpos (starEach es X.env)).any (·.1)=false):
  PE X (.Call (.Attribute o name apos) (e::es) [] cpos) (cx X.K r to t):=by
 intro pins s σ H Q I h;refine wpAny_Call_method_late c w b rfl (zM (ho pins s σ H _ I h) λv s1 ⟨x,H1,i,f,p,Y,E,ty,g⟩=>?_);subst E;cases f;obtain⟨j,_,pp,_⟩:=i.tuple ty;refine⟨"tuple",id,PySem.F.plainAttrs_tuple,slot,y,pp.typeIs,λa u=>by cases u;exact i.tupleN ty,?_⟩
 have A:=m cpos pins s1 σ H1 _ i g;rw[l]at A ⊢;refine Calls.callWith_builtin (by show(false || (backTo cpos (starEach es X.env)).any (·.1))=false;rw[n];rfl) (Calls.evalArgs_plain ?_)
 exact zM A λus s2 ⟨vs,B,z,d,q⟩=>hm pins s2 σ B (.ref p) vs (.ref p) us Q z rfl d q
theorem Gd {x:W}(q:RV K φ H x v)(e:jV x=true):∀{xs:List W}{vs:List V},zF K φ H xs vs->xs.all jV=true->vs.all yK=true/\(vs.countP λz=>kF z v)=xs.countP λz=>QJ z x
 |[],_,r,_=>by cases r;exact⟨rfl,rfl⟩|w::ws,_,⟨y,r,E,h,t⟩,a=>by
  subst E;rw[all_cons,ag]at a;obtain⟨I,i⟩:=Gd q e t a.2;refine⟨by rw[all_cons,Jn h a.1,I];rfl,?_⟩
  rw[countP_cons,countP_cons,i,TU h q a.1 e]
variable {c:Expr}
noncomputable def X5 (lo d:Int)(n:Nat):It:=⟨λi _=>i<n,λi H x h=>h=H/\x=.int (lo+i * d),λi _=>n<=i⟩
def LL (it:Addr)(lo d:Int)(n:Nat):Turn P w K tg (X5 lo d n) [it] it (λi h=>IsRangeIter h it (lo+(i:Nat) * d) ((n:Int)-(i:Nat)) d) where
 mem:=by simp
 obj:=λi h st b a=>by
  have p:b=it:=by simpa using a
  subst p;exact⟨_,st,λv z=>nomatch (show Data.fields _=Data.cell v from z)⟩
 keep:=λi h h' st k=>k it (by simp) _ st
 item:=by
  intro X e hw f c i pins s σ H E I hf st g;subst e hw f;obtain⟨f0,f1,f2,l,f4,j⟩:=hf it (by simp)
  have u:=Walks.range (prog:=X.prog) (w:=X.w) (I.ok.hd c) it lo d n;refine u.item i s _ _ g st λv h' T r S q=>?_;obtain⟨t,rfl⟩:=r;have x:Inv X pins σ H { s with heap:=h',toks:=T }:=I.turned (λb o a m=>q b o (by simpa using a) m) f0 f1 l f4 j
  exact⟨_,rfl,Kn (s:={ s with heap:=h',toks:=T }) (n := "range_iterator") S rfl rfl (by decide) ⟨.int (lo+i * d),H,x,⟨t,rfl⟩,⟨rfl,rfl⟩,S,λb a=>(hf b a).1⟩⟩
 done:=by
  intro X e hw f c i pins s σ H E I hf st g;subst e hw f;obtain⟨f0,f1,f2,l,f4,j⟩:=hf it (by simp)
  exact wpAny_pyNext_range_end (I.ok.hd c) st (by have hn:n<=i:=g;omega) λh' p=>⟨rfl,I.turned (t':=s.toks) (λb o a m=>p b o a m) f0 f1 l f4 j⟩
 self:=λ_ _ _ _ _ st h=>wpAny_pyIter_rangeiter st h
def rangeSize_down (x y:Int):Builtin.Range.rangeSize x y (-1)=((x-y).toNat:Int):=by
 unfold Builtin.Range.rangeSize;rw[ao (by decide)]
 split
 ·rw[show -(-1:Int)=1 by rfl,Int.ediv_one];omega
 ·omega
def small_down {x y:Int}(b:-(2 ^ 62)<=x)(a:x<2 ^ 62)(H:-(2 ^ 62)<=y)(h:y<2 ^ 62):Builtin.Range.small x y (-1)=true:=by
 unfold Builtin.Range.small;rw[rangeSize_down];simp only[Builtin.Range.rangeFitsLong,ag,bj,decide_eq_true_eq,aM,show ¬((-1:Int) > 0) by decide,if_false]
 omega
def BV (t:TA):TI:=λσ H R=>t σ H λvs H1=>∃i j:Int,vs=[.int i,.int j,.int (-1)]/\(-(2 ^ 62)<=i/\i<2 ^ 62/\-(2 ^ 62)<=j/\j<2 ^ 62)/\R (X5 i (-1) (i-j).toNat) H1
def IV {t:TA}(w:Gl X "range")(hm:X.mg "range"=none)(A:PA X [a,b,c] t)(n:starEach [a,b,c] X.env=(false,eval a X.env)::starEach [b,c] X.env)(v:(backTo pos (starEach [b,c] X.env)).any (·.1)=false):
  PI X tg (.Call (.Name "range" p) [a,b,c] [] pos) (BV t):=by
 intro pins s σ H R I h;refine Call_ (gy I w hm boot_range (PyProof.Rows.callWith_type1 (zM (A pos pins s σ H _ I h) λus s1 ⟨vs,H1,D,f,Q⟩=>?_) n v));obtain⟨i,j,rfl,⟨Q,m,l,g⟩,q⟩:=Q;obtain⟨U,u,rfl,⟨t1,rfl⟩,r⟩:∃U u,us=U::u/\RelV (.int i) U/\Vals [.int j,.int (-1)] u:=by
  cases f with
  |cons x y=>exact⟨_,_,rfl,x,y⟩
 obtain⟨K,J,rfl,⟨T,rfl⟩,⟨t3,rfl⟩⟩:=r.two;refine call_range_3 (by decide) ?_ (.inl (PyProof.noPylong_small (by omega)))
 have d:Inv X pins σ H1 { s1 with heap:=s1.heap.push { cls:=.type "range",data:=.fields #[.int i t1,.int j T,.int (-1) t3] } }:=D.kept (t':=s1.toks) λb o e=>ae _ e
 refine wpAny_pyIter_range (IsRange.new ..) (small_down Q m l g) ?_;refine⟨_,[_],_,_,H1,rfl,d.kept (t':=s1.toks) λb o e=>ae _ e,LL _ i (-1) (i-j).toNat,?_,λb z=>?_,q⟩
 ·have C:i+((0:Nat):Int) * (-1)=i:=by simp
  have B:(((i-j).toNat:Nat):Int)-((0:Nat):Int)=Builtin.Range.rangeSize i j (-1):=by rw[rangeSize_down];omega
  show IsRangeIter _ _ (i+((0:Nat):Int) * (-1)) ((((i-j).toNat:Nat):Int)-((0:Nat):Int)) (-1);rw[C,B];exact av _ rfl
 ·have E:=bS.mp z
  subst E;exact d.fpOk (ak _) (d.hok.fresh (ak _))
noncomputable def QL (h:Int)(n:Nat):ja:=⟨λ_ i=>if i<n then some (some (.int (h-i))) else some none,n⟩
def BC {a:Int}:gf K φ H (QL a n) (X5 a (-1) n):=λi b d A lw S=>by
 unfold QL;dsimp only
 by_cases h:i<n
 ·rw[aj h]
  refine⟨λw e=>?_,λe=>by cases e⟩
  cases e;refine⟨h,λx H1 ⟨c,E⟩=>?_⟩;subst c;refine⟨.refl,S,?_⟩;rw[E];show V.int _=V.int _
  congr 1;omega
 ·rw[ao h]
  exact⟨λw e=>(by cases e),λ_=>Nat.le_of_not_lt h⟩
def JV (m M:Ev):Ei:=λρ A=>(m ρ A).bind λw A1=>(M ρ A1).bind λa A2=>match w,a with
 |.int i,.int j=>if jy i&&jy j then .ok (QL i (i-j).toNat) A2 else .bad|_,_=>.bad
def BA (t:TA):TE:=λσ H Q=>t σ H λvs H1=>∃j:Int,vs=[.int j]/\∀p,H1 p=none->Q (.ref p) (upd H1 p (.rng 0 j))
def E1 {T:TA}(g:Gl X "range")(hm:X.mg "range"=none)(e:PA X [a] T)(d:starEach [a] X.env=[(false,eval a X.env)]):PE X (.Call (.Name "range" p) [a] [] pos) (BA T):=by
 intro pins s σ H Q I h;refine Call_ (gy I g hm boot_range (PyProof.Rows.callWith_type1 (zM (e pos pins s σ H _ I h) λus s1 ⟨vs,H1,i,r,c⟩=>?_) d rfl));obtain⟨j,rfl,q⟩:=c;obtain⟨u,rfl,⟨t,rfl⟩⟩:=r.one;refine call_range_1 ⟨.ref _,_,i.laid (o:=.rng 0 j) (λb o E=>ae _ E) (ak _) ?_,rfl,q _ (i.hok.fresh (ak _))⟩;exact⟨_,_,_,av _ rfl⟩
noncomputable def ZV (n:Nat):List V:=(List.range n).map λ(i:Nat)=>V.int i
def Ie (y:X.calm=true):j9 X (.type "list") (λxs H Q=>∃(r:Addr) (j:Int),xs=[.ref r]/\H r=some (.rng 0 j)/\(-(2 ^ 62)<=j/\j<2 ^ 62)/\j.toNat<=sizeLine/\∀l,H l=none->Q (.ref l) (upd H l (.lst (ZV j.toNat)))):=by
 intro pins s σ H xs us Q I r h;obtain⟨p,j,rfl,x,⟨A,B⟩,z,q⟩:=h;obtain⟨u,rfl,m⟩:=vals1 r;cases m;obtain⟨t1,g,t3,ho⟩:=I.hok p _ x;have hl:sizeLine=16777216:=sizeLine_eq;refine PySem.call_list_range (n:=j.toNat) (I.ok.hd y) (show IsRange s.heap p 0 j 1 t1 g t3 from ho) (small_one (by omega) (by omega) A B) (by rw[rangeSize_one];split<;>omega) (by omega) λh' T acc C K S ⟨hn,d⟩=>?_
 refine⟨.ref s.heap.objs.size,_,I.laid (t':=T) (o:=.lst (ZV j.toNat)) K (ak _) ?_,rfl,q _ (I.hok.fresh (ak _))⟩;refine⟨by unfold ZV;simpa using z,acc.toList,C,?_,by simpa using S⟩
 have a:∀(l:bw)(k:Nat),(∀(i:Nat) v,l[i]? =some v->∃t,v=.int ((k+i:Nat):Int) t)->Vals ((List.range' k l.length).map λ(i:Nat)=>V.int i) l:=by
  intro l
  induction l with
  |nil=>intro k _;exact .nil|cons v l w=>
   intro k e;rw[bq,range'_succ,aS];refine .cons ?_ (w (k+1) λi f a=>?_)
   ·obtain⟨t,rfl⟩:=e 0 v rfl
    exact⟨t,rfl⟩
   ·obtain⟨t,rfl⟩:=e (i+1) f (by simpa using a)
    exact⟨t,by congr 1;omega⟩
 have b:acc.toList.length=j.toNat:=by simpa using hn
 have:=a acc.toList 0 λi v c=>by
  obtain⟨t,rfl⟩:=d i v (by simpa using c)
  exact⟨t,by congr 1;omega⟩
 rw[b]at this;unfold ZV;rw[range_eq_range'];exact this
def Y3 (m:Ev):Ev:=λρ A=>(m ρ A).bind λw A1=>match w with
 |.int j=>if jy j&&decide (j.toNat<=qd) then .ok (.ref A1.length) (A1++[.lst ((List.range j.toNat).map λ(i:Nat)=>W.int i)]) else .bad|_=>.bad
noncomputable def QH (i:Nat)(m:Ev):Ex:=λρ A=>match ρ[i]? with
 |some (some (.int x))=>(m ρ A).bind λw A1=>match w with
  |.int y=>.ok (.nx (ρ.set i (some (.int (x+y))))) A1|_=>.bad
 |_=>.bad
noncomputable def Aj:V->V->Hp->VK->Prop:=λo i H Q=>∃p xs k v,o=.ref p/\i=.int k/\0<=k/\H p=some (.lst xs)/\xs[k.toNat]? =some v/\Q v H
def HF:Oc X Aj:=by
 intro pins s σ H o i ov g Q I ro d h;obtain⟨p,xs,k,v,rfl,rfl,h0,f,e,q⟩:=h;cases ro;obtain⟨t,rfl⟩:=d;obtain⟨a,r,P,z⟩:=I.list (qF.of f);obtain⟨u,b,c⟩:=r.get e;have hn:=ZR;have hl:=r.length;have j:k.toNat<a.length:=(bP.mp b).1;exact wpAny_getItem_list P.isList h0 (by omega) (by simpa using b) ⟨v,H,I,c,q⟩
def J1 (mo mi me:Ev):Ex:=λρ A=>(mo ρ A).bind λo A1=>(mi ρ A1).bind λi A2=>match o,i with
 |.ref n,.int k=>if 0<=k then(match (A2[n]?:Option O) with
  |some (.lst ws)=>match ws[k.toNat]? with
   |some (.int x)=>(me ρ A2).bind λy b=>match y with
    |.int y=>(kB (.ref n) (.int k) (.int (x+y)) b).bind λ_ a=>.ok (.nx ρ) a|_=>.bad
   |_=>.bad
  |_=>.bad) else .bad
 |_,_=>.bad
noncomputable def Qu (i j k:Nat):Tg:=λw ρ=>match w with
 |.tup [x,.tup [y,z]]=>some (((ρ.set i (some x)).set j (some y)).set k (some z))|_=>none
end
def jm (k:Bool)(h:Heap)(it a:Addr)(i:Nat):Prop:=if k=true then h.IsListIter it a i else h.IsTupleIter it a i
def jK (k:Bool)(h:Heap)(a:Addr)(items:Array Value):Prop:=if k=true then h.IsList a items else h.IsTuple a items
def yJ (k:Bool)(K:Frag)(H:Hp)(a:Addr)(xs:List V):Prop:=if k=true then qF K H a xs else qm K H a xs
noncomputable def ZT (k:Bool):String:=if k then "list_iterator" else "tuple_iterator"
def jm.ob {k:Bool}{it:Addr}(x:jm k h it a i):∃o,h.get? it=some o/\o.cls=.type (ZT k)/\o.data=.fields #[.ref a,.int i 0]:=by
 cases k<;>exact x
def jm.mk {k:Bool}{it:Addr}(x:∃o,h.get? it=some o/\o.cls=.type (ZT k)/\o.data=.fields #[.ref a,.int i 0]):jm k h it a i:=by
 cases k<;>exact x
def jm.to {k:Bool}{h':Heap}{it:Addr}(x:jm k h it a i)(e:∀o,h.get? it=some o->h'.get? it=some o):jm k h' it a i:=let ⟨o,h1,r⟩:=x.ob;.mk ⟨o,e o h1,r⟩
def jK.ob {k:Bool}(x:jK k h a items):∃o,h.get? a=some o/\o.cls=.type (if k then "list" else "tuple")/\∃n,o.data=.seq items n:=by
 cases k<;>exact x
def jK.to {k:Bool}{h':Heap}(x:jK k h a items)(e:∀o,h.get? a=some o->h'.get? a=some o):jK k h' a items:=by
 cases k with
 |false=>exact let ⟨o,h1,r⟩:=x.ob;⟨o,e o h1,r⟩|true=>exact let ⟨o,h1,r⟩:=x.ob;⟨o,e o h1,r⟩
section
variable {prog:Program}{A:Around}{k:Bool}{it:Addr}
def Ru (hl:jK k s.heap a items)(h:Q (.ref s.heap.objs.size) { s with heap:=s.heap.push { cls:=.type (ZT k),data:=.fields #[.ref a,.int 0 0] } }):wpAny (model prog w) A (pyIter (.ref a)) Q E s:=by
 cases k with
 |true=>exact wpAny_pyIter_list hl h|false=>exact wpAny_pyIter_tuple hl h
def YZ {x:Value}(hit:jm k s.heap it a i)(hl:jK k s.heap a items)(f:items[i]? =some x)
  (g:∀h',jm k h' it a (i+1)->Heap.SameBut it s.heap h'->Q x { s with heap:=h' }):wpAny (model prog w) A (Builtin.SmallTypes.nextOf (.ref it)) Q E s:=by
 cases k with
 |true=>exact wpAny_nextOf_list_item hit hl f g|false=>
  have h:s.heap.IsTupleIter it a i:=hit;obtain⟨o,b,e,H⟩:=id h;obtain⟨j,c,_,na,d⟩:s.heap.IsTuple a items:=hl;unfold Builtin.SmallTypes.nextOf;refine bM (wpAny_callSpecial?_slot (name:=Str.ofString "__next__") h.typeIs F.slot_tuple_iterator_next (wpAny_call_entry F.slot_tuple_iterator_next h.typeIs F.entry_tuple_iterator_next ?_ (F.args_tuple_iterator_next_1 _)));show wpAny _ _ (field (.ref it) 0 >>= _) _ _ s;refine bM (wpAny_field b H (x:=.ref a) rfl ?_);show wpAny _ _ (if (Value.ref a==Value.none)=true then _ else _) _ _ s;rw[ao (show ¬((Value.ref a==Value.none)=true) from au)]
  show wpAny _ _ (field (.ref it) 1 >>= _) _ _ s;refine bM (wpAny_field b H (x:=.int i 0) rfl ?_);show wpAny _ _ (seqItems? (.ref a) >>= _) _ _ s;refine bM (wpAny_seqItems c d ?_);simp only[aH,f];refine bM (wpAny_setField b H (by simp) (bN ⟨x,rfl,bN (g _ (.mk ?_) (Heap.SameBut.update ..))⟩))
  exact⟨_,Heap.get?_update_self _ b (Obj.isFreed_of_fields (Obj.data_mapFields H _)),(Obj.cls_mapFields ..).trans e,by rw[Obj.data_mapFields H];simp[rawInt]⟩
def Xj (d:A.handled=none)(hit:jm k s.heap it a i)(hl:jK k s.heap a items)(g:items[i]? =none)
  (j:∀h' e,Heap.ExtBut it s.heap h'->(∃o,h'.get? e=some o/\o.cls=.type "StopIteration")->E (.ref e) { s with heap:=h' }):wpAny (model prog w) A (Builtin.SmallTypes.nextOf (.ref it)) Q E s:=by
 cases k with
 |true=>exact wpAny_nextOf_list_end d hit hl g j|false=>
  have h:s.heap.IsTupleIter it a i:=hit;obtain⟨n,H,l,b⟩:=id h;obtain⟨p,c,_,na,f⟩:s.heap.IsTuple a items:=hl;unfold Builtin.SmallTypes.nextOf;refine bM (wpAny_callSpecial?_slot (name:=Str.ofString "__next__") h.typeIs F.slot_tuple_iterator_next (wpAny_call_entry F.slot_tuple_iterator_next h.typeIs F.entry_tuple_iterator_next ?_ (F.args_tuple_iterator_next_1 _)));show wpAny _ _ (field (.ref it) 0 >>= _) _ _ s;refine bM (wpAny_field H b (x:=.ref a) rfl ?_);show wpAny _ _ (if (Value.ref a==Value.none)=true then _ else _) _ _ s;rw[ao (show ¬((Value.ref a==Value.none)=true) from au)]
  show wpAny _ _ (field (.ref it) 1 >>= _) _ _ s;refine bM (wpAny_field H b (x:=.int i 0) rfl ?_);show wpAny _ _ (seqItems? (.ref a) >>= _) _ _ s;refine bM (wpAny_seqItems c f ?_);simp only[aH,g];refine bM (wpAny_rule (bM (wpAny_setField H b (by simp) ?_)))
  show wpAny _ _ (newExc (.type "StopIteration") [] >>= _) _ _ _;refine bM ?_;simp only[newExc,newTuple];refine bM (wpAny_newObj_type ?_ (by size_fits))
  refine bM (m:=firstArgMember _ _) (wpAny_of_eq (a:=Value.none) (by first|rfl|(simp only[firstArgMember];rfl)) ?_);refine wpAny_newObj_type ?_ (by size_fits)
  simp only[raiseNew];refine bM (wpAny_handled ?_)
  first|rw[show A.in1.handled=none from d]|rw[d]
  refine bM (bN (wpAny_throw ?_));exact j _ _ (((Heap.SameBut.update ..).extBut.push _).push _) ⟨_,av _ rfl,rfl⟩
def Sq (g:A.handled=none)(c:a≠it):Draws prog w A it [it,a] items.size (λi v=>items[i]? =some v) (λi h=>jm k h it a i/\jK k h a items) where
 live:=λ_ _ st=>let ⟨o,ho,_⟩:=st.1.ob;⟨o,ho⟩
 frame:=λ_ _ _ st d=>⟨st.1.to λo e=>d it (by simp) o e,st.2.to λo e=>d a (by simp) o e⟩
 item:=λi s Q E f st j=>YZ st.1 st.2 (x:=items[i]) (by simp[f]) λh' b H=>j _ h' s.toks (by simp[f]) ⟨b,st.2.to λo e=>H.extBut a o c e⟩ H
 done:=λs Q E st l=>Xj g st.1 st.2 (by simp) l
end
section
variable {h':Heap}
def _root_.L2.Inv.spun {T:Addr}(I:Inv X pins σ H s)(k:∀b u,b∉fp->s.heap.get? b=some u->h'.get? b=some u)(hf:∀b∈fp,yR X pins H b)(hT:s.heap.objs.size<=T)
  (new:jA X.prog X.w (upd H T o) h' T o):Inv X pins σ (upd H T o) { s with heap:=h',toks:=t' }:=by
 have hn:H T=none:=I.hok.fresh hT;have lt:∀b u,s.heap.get? b=some u->b≠T:=λb u e=>aO (aD (aF e) hT);have N:∀b u,H b=some u->b∉fp:=λb u e z=>by rw[(hf b z).1]at e;cases e
 refine I.step (g':=s.gens) (d':=s.drawn) (ch:=fp) (λb a=>let ⟨_,f1,_,d,f4,f⟩:=hf b a;⟨d,f1,f4,f⟩) (λb o _ _ h e _=>k b o h e) (λb o _ _ h e _=>⟨o.slots,k b o h e⟩)
  (λb o _ e n=>by rw[qx (lt b o e)];exact n) (λb o h e=>⟨o,k b o h e⟩) (λb xs e=>by rw[qx (kJ e hn)];exact e) (λb u xs e=>by rw[qx (kJ e hn)];exact e)
  (λb P e=>⟨#[],by rw[qx (kJ e hn),e];simp⟩) (λm hm=>?_) (λb u e=>?_) I.bare
 ·obtain⟨o,E,p,ho,r⟩:=hm
  exact⟨o,E,p,k _ o (λz=>(hf _ z).2.1 rfl) ho,r⟩
 ·by_cases a:b=T
  ·subst a;rw[j6]at e;cases e;exact new
  ·rw[qx a]at e
   refine(I.hok b u e).stay (λc v h q=>k c v ?_ q) (λc q=>by rw[qx (kJ q hn)];exact q) λc xs q=>by rw[qx (kJ q hn)];exact q
   rcases h with z|z
   ·rw[z];exact N b u e
   ·exact N c _ z
def _root_.L2.Inv.spun0 (I:Inv X pins σ H s)(k:∀b u,b∉fp->s.heap.get? b=some u->h'.get? b=some u)(hf:∀b∈fp,yR X pins H b):Inv X pins σ H { s with heap:=h',toks:=t' }:=by
 have N:∀b u,H b=some u->b∉fp:=λb u e z=>by rw[(hf b z).1]at e;cases e
 refine I.step (g':=s.gens) (d':=s.drawn) (ch:=fp) (λb a=>let ⟨_,f1,_,d,f4,f⟩:=hf b a;⟨d,f1,f4,f⟩) (λb o _ _ h e _=>k b o h e) (λb o _ _ h e _=>⟨o.slots,k b o h e⟩)
  (λb o _ e n=>n) (λb o h e=>⟨o,k b o h e⟩) (λb xs e=>e) (λb u xs e=>e) (λb P e=>⟨#[],by rw[e];simp⟩) (λm hm=>?_) (λb u e=>?_) I.bare
 ·obtain⟨o,E,p,ho,r⟩:=hm
  exact⟨o,E,p,k _ o (λz=>(hf _ z).2.1 rfl) ho,r⟩
 ·refine(I.hok b u e).stay (λc v h q=>k c v ?_ q) (λc q=>q) λc xs q=>q
  rcases h with z|z
  ·rw[z];exact N b u e
  ·exact N c _ z
def _root_.L2.Inv.sq {k:Bool}(I:Inv X pins σ H s)(h:yJ k X.K H a xs):∃i:bw,Vals xs i/\jK k s.heap a i.toArray/\xs.length<=sizeLine:=by
 cases k with
 |true=>obtain⟨i,r,p,z⟩:=I.list h;exact⟨i,r,p.isList,z⟩|false=>obtain⟨i,r,p,z⟩:=I.tuple h;exact⟨i,r,(show s.heap.IsTuple a i.toArray from p),z⟩
def _root_.L2.Inv.sq_inj {k:Bool}(I:Inv X pins σ H s)(h:yJ k X.K H a xs)(h':yJ k X.K H a ys):xs=ys:=by
 cases k with
 |true=>exact I.list_inj h h'|false=>exact I.tuple_inj h h'
end
def X9 (k:Bool)(K:Frag)(a:Addr):It:=
 ⟨λi H=>∃xs x,yJ k K H a xs/\xs[i]? =some x,λi H x h=>∃p y,(∀xs,yJ k K H a xs->xs[i]? =some y)/\H p=none/\x=.ref p/\h=upd H p (.tup [.int i,y]),λi H=>∃xs,yJ k K H a xs/\xs.length=i⟩
def Hf {K:Frag}(k:Bool)(a n it:Addr):Turn P w K (.Tuple elts kk tpos) (X9 k K a) [n,it] n (λi h=>(∃old,IsEnum h n it i old)/\jm k h it a i/\n≠it) where
 mem:=by simp
 obj:=λi h st b f=>by
  obtain⟨⟨old,he⟩,g,_⟩:=st;rcases bQ.mp f with rfl|f
  ·exact⟨_,he,λv z=>nomatch z⟩
  ·rw[bS.mp f]
   obtain⟨o,ho,_,hd⟩:=g.ob;exact⟨o,ho,λv z=>by rw[hd]at z;cases z⟩
 keep:=λi h h' ⟨⟨old,he⟩,g,ne⟩ kp=>⟨⟨old,kp n (by simp) _ he⟩,g.to λo p=>kp it (by simp) o p,ne⟩
 item:=by
  intro X hP hw hK hc i pins s σ H E I hf st S;subst hP hw hK;obtain⟨⟨old,he⟩,g,ne⟩:=st;obtain⟨xs,x,C,B⟩:=S;obtain⟨d,D,r,hz⟩:=I.sq C;obtain⟨u,hu,ru⟩:=D.get B;have Q:i<d.toArray.size:=by simpa using (bP.mp hu).1
  obtain⟨oa,j,Z,na,e⟩:=r.ob;have A:a≠it:=λz=>by
   obtain⟨oi,c,Y,m⟩:=g.ob;rw[<- z,j]at c;cases c;rw[m]at e;cases e
  have ane:n≠a:=λz=>by
   have t:s.heap.get? a=_:=z ▸ he;rw[j]at t;cases t;cases e
  refine wpAny_pyNext_enum_itemD (Sq (k:=k) (items:=d.toArray) (I.ok.hd hc) A) he ⟨g,r⟩ Q ne (by simp[ne,ane]) λy h1 T J ho N hT hsz hk=>?_
  have ey:y=u:=by
   have:d[i]? =some y:=by simpa using J
   rw[hu]at this;exact(ax this).symm
  subst ey;refine⟨_,rfl,wpAny_letOwnedTupleGo_enum ho λh2 U l=>?_⟩;have L:n<s.heap.objs.size:=aF he;have hT2:h2.get? s.heap.objs.size=some { cls:=.type "tuple",data:=.seq #[.int i T,y] }:=l.extBut _ _ (ne_of_gt L) hT;refine⟨.ref s.heap.objs.size,upd H s.heap.objs.size (.tup [.int i,x]),?_,rfl,⟨s.heap.objs.size,x,λys J=>by rw[I.sq_inj J C];exact B,I.hok.fresh (ak _),rfl,rfl⟩,⟨⟨_,by simpa using U⟩,?_,ne⟩,λb f=>?_⟩
  ·refine I.spun (fp:=[n,it]) (t':=T+1) (λb o f p=>?_) hf (ak _) ?_
   ·exact l.extBut _ _ (λz=>f (by simp[z])) (hk b o (λz=>f (by simp[z])) (λz=>f (by simp[z])) p)
   ·exact⟨by show 2<=sizeLine;decide,[.int i T,y],.cons ⟨T,rfl⟩ (.cons ru .nil),_,hT2,⟨rfl,rfl⟩,0,rfl⟩
  ·exact N.1.to λo p=>l.extBut _ _ (λz=>ne z.symm) p
  ·have bn:b≠s.heap.objs.size:=λz=>by
    rcases bQ.mp f with q|q
    ·exact absurd L (by rw[<- q,z];exact aT _)
    ·obtain⟨oi,c,_⟩:=g.ob
     exact absurd (aF c) (by rw[<- bS.mp q,z];exact aT _)
   show upd H s.heap.objs.size _ b=none;rw[qx bn];exact(hf b f).1
 done:=by
  intro X hP hw hK hc i pins s σ H E I hf st S;subst hP hw hK;obtain⟨⟨old,he⟩,g,ne⟩:=st;obtain⟨xs,C,B⟩:=S;obtain⟨d,D,r,hz⟩:=I.sq C;have en':d.toArray.size=i:=by rw[aq,<- D.length];exact B
  obtain⟨oa,j,Z,na,e⟩:=r.ob;have A:a≠it:=λz=>by
   obtain⟨oi,c,Y,m⟩:=g.ob;rw[<- z,j]at c;cases c;rw[m]at e;cases e
  refine wpAny_pyNext_enum_endD (Sq (k:=k) (items:=d.toArray) (I.ok.hd hc) A) he ⟨by rw[en'];exact g,r⟩ λh1 M=>⟨rfl,?_⟩
  exact I.spun0 (fp:=[n,it]) (t':=s.toks) (λb o f p=>M b o (λz=>f (by simp[z])) p) hf
 self:=λ_ _ _ _ _ ⟨⟨_,he⟩,_⟩ h=>wpAny_pyIter_enum he h
open AutoSeq1 (wpAny_loadPart')
abbrev KQ (h:Heap)(k:Bool)(a:Addr):Heap:=h.push { cls:=.type (ZT k),data:=.fields #[.ref a,.int 0 0] }
abbrev P7 (h:Heap)(k:Bool)(a:Addr):Heap:=(KQ h k a).push { cls:=.type "enumerate",data:=.fields #[.none,.bool false,.ref h.objs.size,rawInt 0,.none,.none] }
def Lu (a:Addr)(items:Array Value)(n:Nat)(D:bK)(sl:Array (bB)):
  Meets (Builtin.«enumerate.__new__» ⟨[.type "enumerate",.ref a],[]⟩) (λ_ R s=>s.heap.get? a=some { cls:=.type "tuple",dict:=D,data:=.seq items n,slots:=sl }/\R (.ok (.ret (.ref (KQ s.heap false a).objs.size))) { s with heap:=P7 s.heap false a }):=
 .of_wp λprog w A R s h=>by
  obtain⟨p,g,d,t,os⟩:=s;obtain⟨H,h⟩:=h;have b:=sub_enumerate;have hT:Heap.IsTuple (Shared.heap ⟨p,g,d,t,os⟩) a items:=⟨_,H,rfl,n,rfl⟩
  wp_walk using wpAny_loadPart' H
  refine wpAny_stack_any λst=>bN ?_;split
  ·rename_i c _ _ _ _ _
   cases (c==Value.type "enumerate")<;>(wp_walk using wpAny_loadPart' H,wpAny_pyIter_tuple hT;exact⟨_,rfl,h⟩)
  ·wp_walk using wpAny_loadPart' H,wpAny_pyIter_tuple hT
   exact⟨_,rfl,h⟩
section
variable {prog:Program}{A:Around}
def IT {k:Bool}(hl:jK k s.heap a items)
  (h:∀h',IsEnum h' (s.heap.objs.size+1) s.heap.objs.size 0 .none->jm k h' s.heap.objs.size a 0->(∀b o,s.heap.get? b=some o->h'.get? b=some o)->Q (.ref (s.heap.objs.size+1)) { s with heap:=h' }):
  wpAny (model prog w) A (call (.type "enumerate") [.ref a]) Q E s:=by
 cases k with
 |true=>exact call_enumerate_list hl λh' g f _ e=>h h' g f e|false=>
  obtain⟨⟨c,i,D,sl⟩,d,H,n,hd⟩:=(show s.heap.IsTuple a items from hl)
  replace H:c=.type "tuple":=H
  replace hd:D=.seq items n:=hd
  subst H hd;refine callType_new F.called_enumerate (by decide) (F.typeCall_enumerate_1 _) (F.newCall_enumerate_1 _) (λobj=>F.args_object_init_2 obj _) F.entry_enumerate_new (Lu a items n i sl) ⟨d,?_⟩
  have z:(KQ s.heap false a).objs.size=s.heap.objs.size+1:=a8 ..;have he:IsEnum (P7 s.heap false a) (KQ s.heap false a).objs.size s.heap.objs.size 0 .none:=av _ rfl;show _/\_;rw[z]at he ⊢;exact⟨⟨_,he,rfl⟩,h _ he (.mk ⟨_,ae _ (av _ rfl),rfl,rfl⟩) λb o x=>ae _ (ae _ x)⟩
end
section
variable {a b:Expr}{m:Ev}
def BK (K:Frag)(t:TA):TI:=λσ H R=>t σ H λvs H1=>∃p k xs,vs=[.ref p]/\yJ k K H1 p xs/\R (X9 k K p) H1
def boot_enumerate:bootBuiltins "enumerate"=some (.type "enumerate"):=by rfl
def boot_zip:bootBuiltins "zip"=some (.type "zip"):=by rfl
def Ey {t:TA}(l:Gl X "enumerate")(hm:X.mg "enumerate"=none)(n:PA X [a] t)(g:starEach [a] X.env=[(false,eval a X.env)]):
  PI X (.Tuple elts kk tpos) (.Call (.Name "enumerate" p) [a] [] pos) (BK X.K t):=by
 intro pins s σ H R I h;refine Call_ (gy I l hm boot_enumerate (PyProof.Rows.callWith_type1 (zM (n pos pins s σ H _ I h) λus s1 ⟨vs,H1,i,d,Q⟩=>?_) g rfl));obtain⟨p,k,xs,rfl,j,q⟩:=Q;obtain⟨u,rfl,r⟩:=d.one;cases r;obtain⟨f,v,sq,w⟩:=i.sq j;refine IT sq λh' e o E=>wpAny_pyIter_enum e ?_;refine⟨s1.heap.objs.size+1,[s1.heap.objs.size+1,s1.heap.objs.size],_,_,H1,rfl,i.kept (t':=s1.toks) E,Hf k p _ _,⟨⟨_,by simpa using e⟩,o,Nat.succ_ne_self _⟩,λb m=>?_,q⟩
 have c:s1.heap.objs.size<=b:=by
  rcases bQ.mp m with z|z
  ·rw[z];exact Nat.le_succ _
  ·rw[bS.mp z];exact ak _
 exact i.fpOk c (i.hok.fresh c)
noncomputable def atEnd (ws:List W)(i:Nat)(f:W->W):Option (Option W):=match ws[i]? with
 |some x=>some (some (f x))|none=>if ws.length=i then some none else none
def yz (w:W)(n:Nat):ja:=⟨λA i=>match z7 w A with
 |some ws=>atEnd ws i λx=>.tup [.int i,x]|none=>none,n⟩
noncomputable def Zf (w:W):Bool:=match w with
 |.tup _=>false|_=>true
def YO {K:Frag}{A:Hx}{w:W}{ws:List W}(S:zL K φ A H)(q:RV K φ H w v)(e:z7 w A=some ws):∃p Y,v=.ref p/\yJ (Zf w) K H p Y/\zF K φ H ws Y:=by
 cases w with
 |tup us=>cases e;obtain⟨a,vs,E,t,r⟩:=q;exact⟨a,vs,E,t,r⟩|ref n=>
  obtain⟨a,E,f⟩:=q;unfold z7 at e;dsimp only at e;cases c:A[n]? with
  |none=>rw[c]at e;cases e|some o=>
   rw[c]at e;obtain⟨g,d,r⟩:=S.ob n o c;rw[f]at d;cases d;cases o with
   |lst xs=>cases e;obtain⟨y,b,h⟩:=r;exact⟨a,y,E,qF.of b,h⟩|ro xs=>cases e;obtain⟨y,b,h⟩:=r;exact⟨a,y,E,b.sq,h⟩|dct xs=>cases e|td _=>cases e|tr _=>cases e|tab _ _=>cases e
 |non=>cases e|bl _=>cases e|clo _ _ _=>cases e|xc _=>cases e|int _=>cases e|str _=>cases e
def Gu {K:Frag}{a:bx}{A:Hx}{h:Hp}{w:W}{b:List W}{p:Addr}(q:RV K φ H w (.ref p))(lw:gP K φ H a h)(S:zL K a A h)(E:z7 w A=some b):∃y,yJ (Zf w) K h p y/\zF K a h b y:=by
 obtain⟨P,Y,e,d,c⟩:=YO S (RV.monoW lw q) E;cases e;exact⟨Y,d,c⟩
def Au {K:Frag}{w:W}{p:Addr}(q:RV K φ H w (.ref p)):gf K φ H (yz w n) (X9 (Zf w) K p):=λi b m j lw S=>by
 unfold yz;dsimp only;cases es:z7 w j with
 |none=>exact⟨λ_ z=>(by cases z),λz=>(by cases z)⟩|some ws=>
  dsimp only;obtain⟨Y,h,a⟩:=Gu q lw S es;unfold atEnd;cases E:ws[i]? with
  |none=>
   dsimp only
   by_cases hl:ws.length=i
   ·rw[aj hl]
    exact⟨λ_ z=>(by cases z),λ_=>⟨Y,h,by rw[<- a.length];exact hl⟩⟩
   ·rw[ao hl]
    exact⟨λ_ z=>(by cases z),λz=>(by cases z)⟩
  |some x=>
   dsimp only;refine⟨λu z=>?_,λz=>(by cases z)⟩
   cases z;obtain⟨y,e,g⟩:=a.get E;refine⟨⟨Y,y,h,e⟩,λX H1 ⟨t,l,c,d,ex,f⟩=>?_⟩;subst ex f
   have:=c Y h
   rw[e]at this;cases this;obtain⟨a1,a2,A⟩:=gx S d (.cons (w:=.int i) (v:=.int i) rfl (.one g));exact⟨a1,a2,A⟩
def yk (m:Ev):Ei:=λρ A=>(m ρ A).bind λw A1=>match z7 w A1 with
 |some ws=>.ok (yz w ws.length) A1|none=>.bad
end
section
variable {prog:Program}{A:Around}{z TI TO i1 i2 l1 l2:Addr}{n1 n2:Nat}{c1 c2:Bool}{xs ys:Array Value}{x y a b:Value}
def Ew (D:ZipApart z TI TO i1 i2 l1 l2)(h:IsZip s.heap z TI TO .none)(I:IsPair s.heap TI (.ref i1) (.ref i2))(r:IsPair s.heap TO a b)
  (g1:jm c1 s.heap i1 l1 n1)(g2:jm c2 s.heap i2 l2 n2)(s1:jK c1 s.heap l1 xs)(s2:jK c2 s.heap l2 ys)(X:xs[n1]? =some x)(U:ys[n2]? =some y)
  (hQ:∀h',IsZip h' z TI TO (rawInt s.heap.objs.size)->IsPair h' TI (.ref i1) (.ref i2)->IsPair h' TO x y->jm c1 h' i1 l1 (n1+1)->jm c2 h' i2 l2 (n2+1)->IsPair h' s.heap.objs.size x y->
   (∀c o,c≠z->c≠TO->c≠i1->c≠i2->s.heap.get? c=some o->h'.get? c=some o)->Q (.ref s.heap.objs.size) { s with heap:=h' }):
  wpAny (model prog w) A (Builtin.«zip.__next__» ⟨[.ref z],[]⟩) (λfin P=>∃v,fin=.done (.ret v)/\Q v P) E s:=by
 show wpAny _ _ (field (.ref z) 2 >>= _) _ _ _;refine bM (wpAny_field h rfl (x:=.bool false) rfl ?_);show wpAny _ _ (field (.ref z) 3 >>= _) _ _ _;refine bM (wpAny_field h rfl (x:=.ref TI) rfl (bM (wpAny_seqItems I rfl ?_)));show wpAny _ _ (Builtin.SmallTypes.ownedTupleIsFree (.ref z) >>= _) _ _ _;refine bM ?_;unfold Builtin.SmallTypes.ownedTupleIsFree;refine bM (wpAny_field h rfl (x:=.none) rfl (bN ?_));simp only[if_true];refine bM (wpAny_rule (bM (wpAny_field h rfl (x:=.ref TO) rfl ?_)));refine bM (wpAny_setField_rec h (by simp) λha n sa=>?_);replace n:IsZip ha z TI TO .ellipsis:=n
 refine bM ?_;simp only[List.zipIdx_cons,List.zipIdx_nil,forIn_cons,forIn_nil];refine bM (bM (wpAny_onRaise ?_));show wpAny _ _ (Builtin.SmallTypes.nextOf (.ref i1) >>= _) _ _ _;refine bM (YZ (g1.to λo e=>sa.extBut _ _ D.i1z e) (s1.to λo e=>sa.extBut _ _ D.l1z e) X λhb gb j=>bN ?_);have J:IsPair hb TO a b:=j.extBut _ _ D.TOi1 (sa.extBut _ _ D.TOz r);refine bM (wpAny_seqItems J rfl (bM (wpAny_updateSeq_pair J λN T sc=>bM (wpAny_letGo (bN ?_)))));replace T:IsPair N TO x b:=T;refine bM (bM (wpAny_onRaise ?_));show wpAny _ _ (Builtin.SmallTypes.nextOf (.ref i2) >>= _) _ _ _;have up:∀c o,c≠z->c≠i1->c≠TO->s.heap.get? c=some o->N.get? c=some o:=λc o f d g e=>sc.extBut _ _ g (j.extBut _ _ d (sa.extBut _ _ f e));refine bM (YZ (g2.to λo e=>up _ o D.i2z D.i12.symm D.TOi2.symm e) (s2.to λo e=>up _ o D.l2z D.l2i1 D.l2TO e) U λhd gd sd=>bN ?_);have td:IsPair hd TO x b:=sd.extBut _ _ D.TOi2 T;refine bM (wpAny_seqItems td rfl (bM (wpAny_updateSeq_pair td λhe t S=>bM (wpAny_letGo (bN (bN ?_))))));replace t:IsPair he TO x y:=t;refine bM (wpAny_seqItems t rfl (bM (wpAny_newTuple ?_)));have H:he.objs.size=s.heap.objs.size:=by rw[S.1,sd.1,sc.1,j.1,sa.1]
 have B:IsZip he z TI TO .ellipsis:=S.extBut _ _ D.TOz.symm (sd.extBut _ _ D.i2z.symm (sc.extBut _ _ D.TOz.symm (j.extBut _ _ D.i1z.symm n)));have M:∀c o,c≠z->c≠TO->c≠i1->c≠i2->s.heap.get? c=some o->he.get? c=some o:=λc o f d g p e=>S.extBut _ _ d (sd.extBut _ _ p (up c o f g d e));have ge1:jm c1 he i1 l1 (n1+1):=((gb.to λo e=>sc.extBut _ _ D.TOi1.symm e).to λo e=>sd.extBut _ _ D.i12 e).to λo e=>S.extBut _ _ D.TOi1.symm e;have u:jm c2 he i2 l2 (n2+1):=gd.to λo e=>S.extBut _ _ D.TOi2.symm e;have Z:z<he.objs.size:=aF B;show wpAny _ _ (Builtin.SmallTypes.ownedTupleHandOut (.ref z) (.ref he.objs.size) >>= _) _ _ _;refine bM ?_;unfold Builtin.SmallTypes.ownedTupleHandOut;have zf:IsZip (he.push { cls:=.type "tuple",data:=.seq #[x,y] }) z TI TO .ellipsis:=ae _ B;refine bM (wpAny_setField_rec zf (by simp) λY m L=>?_);replace m:IsZip Y z TI TO (rawInt he.objs.size):=m
 refine wpAny_setField_rec m (by simp) λl i K=>?_;replace i:IsZip l z TI TO (rawInt he.objs.size):=i
 have fin:∀c o,c≠z->he.get? c=some o->l.get? c=some o:=λc o q e=>K.extBut _ _ q (L.extBut _ _ q (ae _ e));have C:IsPair l he.objs.size x y:=K.extBut _ _ (ne_of_gt Z) (L.extBut _ _ (ne_of_gt Z) (av _ rfl));rw[H]at i C;refine bN ⟨_,rfl,?_⟩;show Q (.ref he.objs.size) _;rw[H];exact hQ l i (fin _ _ D.TIz (M _ _ D.TIz D.TITO D.TIi1 D.TIi2 I)) (fin _ _ D.TOz t) (ge1.to λo e=>fin _ o D.i1z e) (u.to λo e=>fin _ o D.i2z e) C λc o f d g p e=>fin c o f (M c o f d g p e)
def DZ {Q:Fin->Shared->Prop}(C:A.handled=none)(D:ZipApart z TI TO i1 i2 l1 l2)(i:IsZip s.heap z TI TO .none)(I:IsPair s.heap TI (.ref i1) (.ref i2))(u:IsPair s.heap TO a b)
  (g1:jm c1 s.heap i1 l1 n1)(g2:jm c2 s.heap i2 l2 n2)(s1:jK c1 s.heap l1 xs)(s2:jK c2 s.heap l2 ys)(j:xs[n1]? =none∨ys[n2]? =none)
  (J:∀h' e,(∀c o,c≠z->c≠TO->c≠i1->c≠i2->s.heap.get? c=some o->h'.get? c=some o)->(∃o,h'.get? e=some o/\o.cls=.type "StopIteration")->E (.ref e) { s with heap:=h' }):
  wpAny (model prog w) A (Builtin.«zip.__next__» ⟨[.ref z],[]⟩) Q E s:=by
 show wpAny _ _ (field (.ref z) 2 >>= _) _ _ _;refine bM (wpAny_field i rfl (x:=.bool false) rfl ?_);show wpAny _ _ (field (.ref z) 3 >>= _) _ _ _;refine bM (wpAny_field i rfl (x:=.ref TI) rfl (bM (wpAny_seqItems I rfl ?_)));show wpAny _ _ (Builtin.SmallTypes.ownedTupleIsFree (.ref z) >>= _) _ _ _;refine bM ?_;unfold Builtin.SmallTypes.ownedTupleIsFree;refine bM (wpAny_field i rfl (x:=.none) rfl (bN ?_));simp only[if_true];refine bM (wpAny_rule (bM (wpAny_field i rfl (x:=.ref TO) rfl ?_)));refine bM (wpAny_setField_rec i (by simp) λt Z sa=>?_);replace Z:IsZip t z TI TO .ellipsis:=Z
 refine bM ?_;simp only[List.zipIdx_cons,List.zipIdx_nil,forIn_cons,forIn_nil];refine bM (bM (wpAny_onRaise ?_));show wpAny _ _ (Builtin.SmallTypes.nextOf (.ref i1) >>= _) _ _ _;have ga:=g1.to (h':=t) λo e=>sa.extBut _ _ D.i1z e;have Y:=s1.to (h':=t) λo e=>sa.extBut _ _ D.l1z e;cases n:xs[n1]? with
 |none=>
  refine bM (Xj C ga Y n λr e S he=>?_);obtain⟨m,h,H⟩:=he;have y:IsZip r z TI TO .ellipsis:=S _ _ D.i1z.symm Z;have f:e≠z:=λq=>by subst q;rw[y]at h;cases h;simp at H
  exact wpAny_setField_rec y (by simp) λp _ sc=>J p e (λc o d _ g _ q=>sc.extBut _ _ d (S _ _ g (sa.extBut _ _ d q))) ⟨m,sc.extBut _ _ f h,H⟩
 |some x=>
  have L:ys[n2]? =none:=by
   rcases j with q|q
   ·rw[n]at q;cases q
   ·exact q
  refine bM (YZ ga Y n λr N S=>bN ?_);have T:IsPair r TO a b:=S.extBut _ _ D.TOi1 (sa.extBut _ _ D.TOz u);refine bM (wpAny_seqItems T rfl (bM (wpAny_updateSeq_pair T λp M sc=>bM (wpAny_letGo (bN ?_)))));refine bM (bM (wpAny_onRaise ?_));show wpAny _ _ (Builtin.SmallTypes.nextOf (.ref i2) >>= _) _ _ _;have up:∀c o,c≠z->c≠i1->c≠TO->s.heap.get? c=some o->p.get? c=some o:=λc o d l g e=>sc.extBut _ _ g (S.extBut _ _ l (sa.extBut _ _ d e));refine bM (Xj C (g2.to λo e=>up _ o D.i2z D.i12.symm D.TOi2.symm e) (s2.to λo e=>up _ o D.l2z D.l2i1 D.l2TO e) L λhd e sd he=>?_);obtain⟨m,h,H⟩:=he;have v:IsZip hd z TI TO .ellipsis:=sd _ _ D.i2z.symm (sc.extBut _ _ D.TOz.symm (S.extBut _ _ D.i1z.symm Z));have f:e≠z:=λq=>by subst q;rw[v]at h;cases h;simp at H
  exact wpAny_setField_rec v (by simp) λhf _ B=>J hf e (λc o d l g K q=>B.extBut _ _ d (sd _ _ K (up c o d g l q))) ⟨m,B.extBut _ _ f h,H⟩
def Er {Q:Option Value->Shared->Prop}(D:ZipApart z TI TO i1 i2 l1 l2)(d:IsZip s.heap z TI TO .none)(H:IsPair s.heap TI (.ref i1) (.ref i2))(h:IsPair s.heap TO a b)
  (g1:jm c1 s.heap i1 l1 n1)(g2:jm c2 s.heap i2 l2 n2)(s1:jK c1 s.heap l1 xs)(s2:jK c2 s.heap l2 ys)(n:xs[n1]? =some x)(m:ys[n2]? =some y)
  (p:∀h',IsZip h' z TI TO (rawInt s.heap.objs.size)->IsPair h' TI (.ref i1) (.ref i2)->IsPair h' TO x y->jm c1 h' i1 l1 (n1+1)->jm c2 h' i2 l2 (n2+1)->IsPair h' s.heap.objs.size x y->
   (∀c o,c≠z->c≠TO->c≠i1->c≠i2->s.heap.get? c=some o->h'.get? c=some o)->Q (some (.ref s.heap.objs.size)) { s with heap:=h' }):wpAny (model prog w) A (pyNext (.ref z)) Q E s:=by
 have hT:s.TypeIs (.ref z) "zip":=⟨_,d,rfl⟩;unfold pyNext;exact bM (wpAny_attempt (wpAny_callSpecial?_slot (name:=Str.ofString "__next__") hT F.slot_zip_next (wpAny_call_entry F.slot_zip_next hT F.entry_zip_next
  (Ew D d H h g1 g2 s1 s2 n m λh' l j i g f e q=>bN (p h' l j i g f e q)) (F.args_zip_next_1 _))))
def E4 {Q:Option Value->Shared->Prop}(g:A.handled=none)(D:ZipApart z TI TO i1 i2 l1 l2)(d:IsZip s.heap z TI TO .none)(I:IsPair s.heap TI (.ref i1) (.ref i2))(H:IsPair s.heap TO a b)
  (g1:jm c1 s.heap i1 l1 n1)(g2:jm c2 s.heap i2 l2 n2)(s1:jK c1 s.heap l1 xs)(s2:jK c2 s.heap l2 ys)(h:xs[n1]? =none∨ys[n2]? =none)
  (j:∀h',(∀c o,c≠z->c≠TO->c≠i1->c≠i2->s.heap.get? c=some o->h'.get? c=some o)->Q none { s with heap:=h' }):wpAny (model prog w) A (pyNext (.ref z)) Q E s:=by
 have hT:s.TypeIs (.ref z) "zip":=⟨_,d,rfl⟩;unfold pyNext;refine bM (wpAny_attempt (wpAny_callSpecial?_slot (name:=Str.ofString "__next__") hT F.slot_zip_next (wpAny_call_entry F.slot_zip_next hT F.entry_zip_next (DZ g D d I H g1 g2 s1 s2 h λh' e f he=>?_) (F.args_zip_next_1 _))));obtain⟨o,ho,i⟩:=he;exact bM (wpAny_isInstance (T := "StopIteration") (b:=true) ⟨o,ho,i⟩ isSubtype_stop (bN (j _ f)))
end
abbrev KP (h:Heap)(c1:Bool)(l:Addr):Heap:=h.push { cls:=.type (ZT c1),data:=.fields #[.ref l,.int 0 0] }
abbrev KI (h:Heap)(c1 c2:Bool)(L l:Addr):Heap:=(KP h c1 L).push { cls:=.type (ZT c2),data:=.fields #[.ref l,.int 0 0] }
abbrev KJ (h:Heap)(c1 c2:Bool)(l L:Addr):Heap:=(KI h c1 c2 l L).push { cls:=.type "tuple",data:=.seq #[.ref h.objs.size,.ref (KP h c1 l).objs.size] }
abbrev KC (h:Heap)(c1 c2:Bool)(L l:Addr):Heap:=(KJ h c1 c2 L l).push { cls:=.type "tuple",data:=.seq #[.none,.none] }
abbrev QN (h:Heap)(c1 c2:Bool)(L l:Addr):Heap:=(KC h c1 c2 L l).push { cls:=.type "zip",data:=.fields #[.none,.bool false,.bool false,.ref (KI h c1 c2 L l).objs.size,.ref (KJ h c1 c2 L l).objs.size] }
def Hh (c1 c2:Bool)(l L:Addr)(xs y:Array Value):
  Meets (Builtin.«zip.__new__» ⟨[.type "zip",.ref l,.ref L],[]⟩) (λ_ R s=>jK c1 s.heap l xs/\jK c2 s.heap L y/\R (.ok (.ret (.ref (KC s.heap c1 c2 l L).objs.size))) { s with heap:=QN s.heap c1 c2 l L }):=
 .of_wp λprog w A R s h=>by
  obtain⟨p,g,d,t,os⟩:=s;obtain⟨Q,q,h⟩:=h;have H:=sub_zip;have k1:jK c1 (Shared.heap ⟨p,g,d,t,os⟩) l xs:=Q;have K:jK c2 (Shared.heap ⟨p.push { cls:=.type (ZT c1),data:=.fields #[.ref l,.int 0 0] },g,d,t,os⟩) L y:=q.to λo e=>ae _ e
  wp_walk using Ru k1,Ru K
  exact⟨_,rfl,h⟩
section
variable {prog:Program}{A:Around}{c1 c2:Bool}{l1 l2:Addr}{xs ys:Array Value}
def HE (s1:jK c1 s.heap l1 xs)(s2:jK c2 s.heap l2 ys)
  (h:∀h' n,n=s.heap.objs.size->IsZip h' (n+4) (n+2) (n+3) .none->IsPair h' (n+2) (.ref n) (.ref (n+1))->IsPair h' (n+3) .none .none->jm c1 h' n l1 0->jm c2 h' (n+1) l2 0->
   (∀c o,s.heap.get? c=some o->h'.get? c=some o)->Q (.ref (n+4)) { s with heap:=h' }):wpAny (model prog w) A (call (.type "zip") [.ref l1,.ref l2]) Q E s:=by
 refine callType_new F.called_zip (by decide) (F.typeCall_zip_2 _ _) (F.newCall_zip_2 _ _) (λobj=>F.args_object_init_3 obj _ _) F.entry_zip_new (Hh c1 c2 l1 l2 xs ys) ⟨s1,s2,?_⟩
 have a:(KP s.heap c1 l1).objs.size=s.heap.objs.size+1:=a8 ..;have Z:(KI s.heap c1 c2 l1 l2).objs.size=s.heap.objs.size+2:=by rw[a8,a]
 have z:(KJ s.heap c1 c2 l1 l2).objs.size=s.heap.objs.size+3:=by rw[a8,Z]
 have b:(KC s.heap c1 c2 l1 l2).objs.size=s.heap.objs.size+4:=by rw[a8,z]
 have y:(QN s.heap c1 c2 l1 l2).get? (KC s.heap c1 c2 l1 l2).objs.size=some _:=av _ rfl;have Y:(QN s.heap c1 c2 l1 l2).get? (KJ s.heap c1 c2 l1 l2).objs.size=some _:=ae _ (av _ rfl);have d:(QN s.heap c1 c2 l1 l2).get? (KI s.heap c1 c2 l1 l2).objs.size=some _:=ae _ (ae _ (av _ rfl));have e:(QN s.heap c1 c2 l1 l2).get? (KP s.heap c1 l1).objs.size=some _:=ae _ (ae _ (ae _ (av _ rfl)));have f:(QN s.heap c1 c2 l1 l2).get? s.heap.objs.size=some _:=ae _ (ae _ (ae _ (ae _ (av _ rfl))));show _/\_;rw[Z,z,b]at y;rw[a,Z]at d;rw[z]at Y;rw[a]at e;rw[b];exact⟨⟨_,y,rfl⟩,h _ _ rfl y d Y (.mk ⟨_,f,rfl,rfl⟩) (.mk ⟨_,e,rfl,rfl⟩) λc o q=>
  ae _ (ae _ (ae _ (ae _ (ae _ q))))⟩
end
def Vm (c1 c2:Bool)(K:Frag)(p q:Addr):It:=
 ⟨λi H=>∃xs Y x y,yJ c1 K H p xs/\yJ c2 K H q Y/\xs[i]? =some x/\Y[i]? =some y,
  λi H v h=>∃t x y,(∀xs,yJ c1 K H p xs->xs[i]? =some x)/\(∀Y,yJ c2 K H q Y->Y[i]? =some y)/\H t=none/\v=.ref t/\h=upd H t (.tup [x,y]),
  λi H=>∃xs Y,yJ c1 K H p xs/\yJ c2 K H q Y/\(xs[i]? =none∨Y[i]? =none)⟩
def Fx {K:Frag}(c1 c2:Bool)(p q z TI TO r n:Addr)(D:ZipApart z TI TO r n p q):
  Turn P w K (.Tuple elts kk tpos) (Vm c1 c2 K p q) [z,TI,TO,r,n] z (λi h=>IsZip h z TI TO .none/\IsPair h TI (.ref r) (.ref n)/\(∃a b,IsPair h TO a b)/\jm c1 h r p i/\jm c2 h n q i) where
 mem:=by simp
 obj:=λi h st b d=>by
  obtain⟨j,g,⟨N,M,f⟩,g1,g2⟩:=st;simp only[mem_cons,not_mem_nil,or_false]at d;rcases d with rfl|rfl|rfl|rfl|rfl
  ·exact⟨_,j,λv e=>nomatch e⟩
  ·exact⟨_,g,λv e=>nomatch e⟩
  ·exact⟨_,f,λv e=>nomatch e⟩
  ·obtain⟨o,ho,_,hd⟩:=g1.ob;exact⟨o,ho,λv e=>by rw[hd]at e;cases e⟩
  ·obtain⟨o,ho,_,hd⟩:=g2.ob;exact⟨o,ho,λv e=>by rw[hd]at e;cases e⟩
 keep:=λi h h' ⟨j,g,⟨N,M,f⟩,g1,g2⟩ k=>⟨k z (by simp) _ j,k TI (by simp) _ g,⟨N,M,k TO (by simp) _ f⟩,g1.to λo e=>k r (by simp) o e,g2.to λo e=>k n (by simp) o e⟩
 item:=by
  intro X hP hw hK hc i pins s σ H E I hf st hg;subst hP hw hK;obtain⟨j,g,⟨N,M,f⟩,g1,g2⟩:=st;obtain⟨xs,ys,x,y,L,J,ex,ey⟩:=hg;obtain⟨m,r1,t,_⟩:=I.sq L;obtain⟨l,Z,S,_⟩:=I.sq J;obtain⟨Q,eu1,Y⟩:=r1.get ex;obtain⟨U,eu2,T⟩:=Z.get ey;refine Er D j g f g1 g2 t S (x:=Q) (y:=U) (by simpa using eu1) (by simpa using eu2) λhh z1 z2 z3 z4 z5 z6 kp=>?_
  refine⟨_,rfl,wpAny_letOwnedTupleGo_zip z1 λhk zk B=>?_⟩;have lt:∀{c o},s.heap.get? c=some o->c≠s.heap.objs.size:=λe=>aO (aF e);have T2:IsPair hk s.heap.objs.size Q U:=B.extBut _ _ (lt j).symm z6;have fre:∀b∈[z,TI,TO,r,n],b≠s.heap.objs.size:=λb d=>by
   simp only[mem_cons,not_mem_nil,or_false]at d;rcases d with rfl|rfl|rfl|rfl|rfl
   ·exact lt j
   ·exact lt g
   ·exact lt f
   ·obtain⟨o,ho,_⟩:=g1.ob;exact lt ho
   ·obtain⟨o,ho,_⟩:=g2.ob;exact lt ho
  refine⟨.ref s.heap.objs.size,upd H s.heap.objs.size (.tup [x,y]),?_,rfl,⟨s.heap.objs.size,x,y,λzs u=>by rw[I.sq_inj u L];exact ex,λzs u=>by rw[I.sq_inj u J];exact ey,I.hok.fresh (ak _),rfl,rfl⟩,
   ⟨zk,B.extBut _ _ D.TIz z2,⟨_,_,B.extBut _ _ D.TOz z3⟩,z4.to λo e=>B.extBut _ _ D.i1z e,z5.to λo e=>B.extBut _ _ D.i2z e⟩,λb d=>?_⟩
  ·refine I.spun (fp:=[z,TI,TO,r,n]) (t':=s.toks) (λb o d eo=>?_) hf (ak _) ?_
   ·exact B.extBut _ _ (λe=>d (by simp[e])) (kp b o (λe=>d (by simp[e])) (λe=>d (by simp[e])) (λe=>d (by simp[e])) (λe=>d (by simp[e])) eo)
   ·exact⟨by show 2<=sizeLine;decide,[Q,U],.cons Y (.cons T .nil),_,T2,⟨rfl,rfl⟩,0,rfl⟩
  ·show upd H s.heap.objs.size _ b=none
   rw[qx (fre b d)];exact(hf b d).1
 done:=by
  intro X hP hw hK hc i pins s σ H E I hf st hg;subst hP hw hK;obtain⟨j,g,⟨N,M,f⟩,g1,g2⟩:=st;obtain⟨xs,ys,L,J,C⟩:=hg;obtain⟨m,r1,t,_⟩:=I.sq L;obtain⟨l,Z,S,_⟩:=I.sq J;have A:m.toArray[i]? =none∨l.toArray[i]? =none:=by
   rcases C with e|e
   ·exact .inl (by simpa using r1.none_of e)
   ·exact .inr (by simpa using Z.none_of e)
  exact E4 (I.ok.hd hc) D j g f g1 g2 t S A λhh kp=>⟨rfl,I.spun0 (fp:=[z,TI,TO,r,n]) (t':=s.toks) (λb o d eo=>kp b o (λe=>d (by simp[e])) (λe=>d (by simp[e])) (λe=>d (by simp[e])) (λe=>d (by simp[e])) eo) hf⟩
 self:=λ_ _ _ _ _ st h=>wpAny_pyIter_zip st.1 h
section
variable {a b:Expr}{m:Ev}
def cy (K:Frag)(t:TA):TI:=λσ H R=>t σ H λvs H1=>∃p q c1 c2 xs y,vs=[.ref p,.ref q]/\yJ c1 K H1 p xs/\yJ c2 K H1 q y/\R (Vm c1 c2 K p q) H1
def D6 {T:TA}(P:Gl X "zip")(hm:X.mg "zip"=none)(U:PA X [a,b] T)(M:starEach [a,b] X.env=(false,eval a X.env)::starEach [b] X.env)(N:(backTo pos (starEach [b] X.env)).any (·.1)=false):
  PI X (.Tuple elts kk tpos) (.Call (.Name "zip" p) [a,b] [] pos) (cy X.K T):=by
 intro pins s σ H R I h;refine Call_ (gy I P hm boot_zip (PyProof.Rows.callWith_type1 (zM (U pos pins s σ H _ I h) λus s1 ⟨vs,H1,g,J,Q⟩=>?_) M N));obtain⟨p,q,c1,c2,xs,ys,rfl,h1,h2,Y⟩:=Q;obtain⟨u1,u2,rfl,m,r⟩:=J.two;cases m;cases r;obtain⟨v,C,d,_⟩:=g.sq h1;obtain⟨u,B,S,_⟩:=g.sq h2;obtain⟨op,t,_⟩:=d.ob;obtain⟨oq,o,_⟩:=S.ob;have L:p<s1.heap.objs.size:=aF t;have l:q<s1.heap.objs.size:=aF o;refine HE d S λh' n E z A y x Z kp=>wpAny_pyIter_zip z ?_;rw[<- E]at L l;have ne1:∀(i j:Nat),i≠j->n+i≠n+j:=λi j h e=>h (Nat.add_left_cancel e);have ne2:∀(c:Nat)(i:Nat),c<n->c≠n+i:=λc i h e=>absurd h (by rw[e];exact Nat.not_lt.mpr (le_add_right n i))
 have D:ZipApart (n+4) (n+2) (n+3) (n+0) (n+1) p q:=⟨ne1 2 4 (by decide),ne1 3 4 (by decide),ne1 0 4 (by decide),ne1 1 4 (by decide),ne1 2 3 (by decide),ne1 2 0 (by decide),ne1 2 1 (by decide),ne1 3 0 (by decide),ne1 3 1 (by decide),ne1 0 1 (by decide),
  ne2 p 4 L,ne2 p 3 L,ne2 p 0 L,ne2 p 1 L,ne2 q 4 l,ne2 q 3 l,ne2 q 0 l,ne2 q 1 l⟩
 refine⟨n+4,[n+4,n+2,n+3,n,n+1],_,_,H1,rfl,g.kept (t':=s1.toks) kp,Fx c1 c2 p q _ _ _ _ _ D,⟨z,A,⟨_,_,y⟩,x,Z⟩,λc w=>?_,Y⟩;have f:s1.heap.objs.size<=c:=by
  rw[<- E];simp only[mem_cons,not_mem_nil,or_false]at w;rcases w with rfl|rfl|rfl|rfl|rfl
  ·exact le_add_right _ _
  ·exact le_add_right _ _
  ·exact le_add_right _ _
  ·exact ak _
  ·exact le_add_right _ _
 exact g.fpOk f (g.hok.fresh f)
noncomputable def zip2:Option W->Option W->Option W
 |some x,some y=>some (.tup [x,y])|_,_=>none
def gH (w a:W)(n:Nat):ja:=⟨λA i=>match z7 w A,z7 a A with
 |some us,some vs=>some (zip2 us[i]? vs[i]?)|_,_=>none,n⟩
def Ap {K:Frag}{w a:W}{p P:Addr}(q:RV K φ H w (.ref p))(Q:RV K φ H a (.ref P)):gf K φ H (gH w a n) (Vm (Zf w) (Zf a) K p P):=λi c I A lw S=>by
 unfold gH;dsimp only;cases es:z7 w A with
 |none=>exact⟨λ_ z=>(by cases z),λz=>(by cases z)⟩|some us=>
  cases E:z7 a A with
  |none=>exact⟨λ_ z=>(by cases z),λz=>(by cases z)⟩|some vs=>
   dsimp only;obtain⟨xs,b,f⟩:=Gu q lw S es;obtain⟨Y,h,d⟩:=Gu Q lw S E;have non:∀{us:List W}{xs:List V},zF K c I us xs->us[i]? =none->xs[i]? =none:=λr e=>by
    rw[List.getElem?_eq_none_iff]at e ⊢;rw[<- r.length];exact e
   cases l:us[i]? with
   |none=>exact⟨λ_ z=>(by cases z),λ_=>⟨xs,Y,b,h,.inl (non f l)⟩⟩|some x=>
    cases j:vs[i]? with
    |none=>exact⟨λ_ z=>(by cases z),λ_=>⟨xs,Y,b,h,.inr (non d j)⟩⟩|some y=>
     refine⟨λu z=>?_,λz=>(by cases z)⟩
     cases z;obtain⟨m,f1,f2⟩:=f.get l;obtain⟨v,g,f4⟩:=d.get j;refine⟨⟨xs,Y,m,v,b,h,f1,g⟩,λX H1 ⟨t,L,J,s,o,B,ex,C⟩=>?_⟩;subst ex C;have g1:=s xs b;have g2:=o Y h;rw[f1]at g1;cases g1;rw[g]at g2;cases g2;obtain⟨a1,a2,D⟩:=gx S B (.cons f2 (.one f4));exact⟨a1,a2,D⟩
def kC (m M:Ev):Ei:=λρ A=>(m ρ A).bind λw A1=>(M ρ A1).bind λa A2=>match z7 w A2,z7 a A2 with
 |some us,some _=>.ok (gH w a us.length) A2|_,_=>.bad
variable {K:Frag}{c:Expr}
noncomputable def P4:Ev:=λ_ A=>.ok (.ref A.length) (A++[.dct []])
noncomputable def KR:W->Option Key
 |.int i=>some (.inl i)|_=>none
noncomputable def yf (k:Key):List (Key×W)->Option W
 |[]=>none|(j,w)::r=>if j=k then some w else yf k r
theorem Gx (k:Key):∀{kvs:List (Key×W)}{us:List (Key×V)},us.map (·.1)=kvs.map (·.1)->zF K φ H (kvs.map (·.2)) (us.map (·.2))->
  (∀w,yf k kvs=some w->∃v,yx us k=some v/\RV K φ H w v)/\(yf k kvs=none->yx us k=none)
 |[],[],_,_=>⟨λw h=>(by cases h),λ_=>rfl⟩|[],_::_,h,_=>by simp at h|_::_,[],h,_=>by simp at h|(j,w)::kvs,(J,v)::us,h,r=>by
  simp only[aS,List.cons.injEq]at h;obtain⟨g,l,e,d,c⟩:=r;simp only[aS,List.cons.injEq]at e;obtain⟨rfl,rfl⟩:=e;have i:=Gx k h.2 c;have b:J=j:=h.1;subst b
  by_cases a:J=k
  ·refine⟨λf hw=>⟨v,YK a,?_⟩,λhn=>?_⟩
   ·unfold yf at hw;rw[aj a]at hw;cases hw;exact d
   ·unfold yf at hn;rw[aj a]at hn;cases hn
  ·unfold yf
   rw[ao a,YR (p:=(J,v)) a];exact i
theorem zL.dct {A:Hx}{kvs:List (Key×W)}(S:zL K φ A H)(q:RV K φ H (.ref n) v)(e:A[n]? =some (.dct kvs)):∃p us,v=.ref p/\φ[n]? =some p/\H p=some (.dK us)/\us.map (·.1)=kvs.map (·.1)/\zF K φ H (kvs.map (·.2)) (us.map (·.2)):=by
 obtain⟨p,rfl,a⟩:=q;obtain⟨P,h,us,d,c,b⟩:=S.ob n _ e;rw[a]at h;cases h;exact⟨p,us,rfl,a,d,c,b⟩
def Km:W->W->Hx->R W:=λd k A=>match d,KR k with
 |.ref n,some k=>match A[n]? with
  |some (.dct kvs)=>match yf k kvs with
   |some w=>.ok w A|none=>.bad
  |_=>.bad
 |_,_=>.bad
def Ek:V->List V->Hp->VK->Prop:=λx vs H Q=>∃p us k d,x=.ref p/\vs=[kV k,d]/\H p=some (.dK us)/\us.length<sizeLine/\(∀v,yx us k=some v->Q v H)/\(yx us k=none->Q d (upd H p (.dK (putK us k d))))
def IX:QS X "dict.setdefault" Ek:=by
 intro pins s σ H x vs v us Q I i j h;obtain⟨p,kvs,k,d,rfl,rfl,f,hl,n,m⟩:=h;cases i;obtain⟨U,u,rfl,l,c⟩:=j.two;obtain⟨z,hd,ws,rel,g⟩:=Pn I.hok f;refine call_meetsIn PySem.F.slot_dict_setdefault g.typeIs PySem.F.entry_dict_setdefault (PySem.F.args_dict_setdefault_3 _ _ _) (kt_meets_setdefault (yj X.prog X.w) p (Xv l) hd u) ⟨ws,g,by rw[<- rel.length];exact z,λv o=>?_,λhn h' D t=>?_⟩
 ·have r:=rel.val k
  rw[o]at r;cases e:yx kvs k with
  |none=>rw[e]at r;exact r.elim|some a=>rw[e]at r;exact⟨a,H,I.tok _,r,n a e⟩
 ·have r:=rel.val k
  rw[hn]at r;cases e:yx kvs k with
  |some a=>rw[e]at r;exact r.elim|none=>
   have b:(putK kvs k d).length<=sizeLine:=by have:=Lx kvs k d;omega
   have he:∃q,h'.get? p=some q:=let ⟨q,_,_,y,_⟩:=D;⟨q,y⟩
   exact⟨d,_,DK I (by rw[f];exact True.intro) t he (CZ b hd (rel.put k c) D),c,m e⟩
noncomputable def Wb (x:W)(A:Hx):Bool:=match x with
 |.ref n=>match A[n]? with
  |some (.dct _)=>true|_=>false
 |_=>false
def gu:W->W->W->Hx->R W:=λd k v A=>match d,KR k with
 |.ref n,some k=>match A[n]? with
  |some (.dct kvs)=>if kvs.length<qd then(match yf k kvs with
   |some w=>.ok w A|none=>.ok v (A.set n (.dct (kvs++[(k,v)])))) else .bad
  |_=>.bad
 |_,_=>.bad
def Qw (g:W->W->W->Hx->R W)(a b c:Ev):Ev:=λρ A=>(a ρ A).bind λx A1=>if Wb x A1 then(b ρ A1).bind λy A2=>(c ρ A2).bind λz d=>g x y z d else .bad
def Fd {A:Hx}{w:W}(S:zL K φ A H)(q:RV K φ H w v)(e:Wb w A=true):We K "dict" v H:=by
 unfold Wb at e;cases w with
 |ref n=>
  dsimp only at e;cases E:A[n]? with
  |none=>rw[E]at e;cases e|some o=>cases o with
   |dct ws=>obtain⟨p,us,rfl,_,h,_⟩:=S.dct q E;exact .inr (.inr (.inl ⟨rfl,.inl ⟨us,h⟩⟩))|_=>rw[E]at e;cases e
 |_=>cases e
end
def Vc (d:Addr)(o:Obj)(us:List (Key×V)):It:=
 ⟨λi H=>H d=some (.frz o (.dK us))/\i<us.length,λi H x h=>∃t p,us[i]? =some p/\H t=none/\x=.ref t/\h=upd H t (.tup [kV p.1,p.2]),λi H=>H d=some (.frz o (.dK us))/\us[i]? =none⟩
def CK {k:Key}(h:(yj P w).is k u=true):RelV (kV k) u:=by
 rw[LV]at h;rcases wJ h with ⟨i,t,rfl,rfl⟩|⟨x,t,rfl,rfl⟩
 ·exact⟨t,rfl⟩
 ·exact⟨t,rfl⟩
theorem KV.at:∀{us:List (Key×V)}{vs:List (Key×Value)}{i:Nat}{p:Key×V},KV us vs->us[i]? =some p->∃u,vs[i]? =some (p.1,u)/\RelV p.2 u
 |[],_,_,_,_,e=>by simp at e|q::us,_,0,p,.cons (b:=b) r t,e=>by
  simp at e;subst e;exact⟨b.2,by simp only[List.getElem?_cons_zero];rw[r.1],r.2⟩
 |q::us,_,i+1,p,.cons r t,e=>by
  obtain⟨u,H,h⟩:=KV.at (i:=i) (p:=p) t (by simpa using e)
  exact⟨u,by simpa using H,h⟩
section
def _root_.L2.Inv.frzD {d:Addr}{o:Obj}{us:List (Key×V)}{f:Nat}(I:Inv X pins σ H s)(h:H d=some (.frz o (.dK us)))(p:∃E,o.data=.dict E f):∃vs,KV us vs/\s.heap.DictAt (yj X.prog X.w) d vs f:=by
 obtain⟨ho,z,hd,vs,rel,D⟩:=I.hok d _ h;obtain⟨i,o',e,c,g,b,r⟩:=D.dictAt;rw[ho]at c;cases c;obtain⟨E,he⟩:=p;have a:=b;rw[he]at a;injection a with l j
 subst j;exact⟨vs,rel,o,e,ho,g,b,r⟩
end
def Fe:entryFor table "dict_itemiterator.__iter__"=some Builtin.«dict_keyiterator.__iter__»:=entryFor_alias (id' := "dict_keyiterator.__iter__") (by kernel_rfl)
 (by first|rfl|decide +kernel|(unfold String.splitOn;simp +decide [String.splitOnAux])) (by decide +kernel) (by kernel_rfl)
def Ik {K:Frag}(d it:Addr)(o:Obj)(us:List (Key×V))(j:Nat)(g:∃N,o.data=.dict N j):
  Turn P w K (.Tuple elts kk tpos) (Vc d o us) [it] it (λi h=>∃ok ov,IsItemIter h it d i us.length j ok ov) where
 mem:=by simp
 obj:=λi h ⟨ok,ov,st⟩ b a=>by
  rw[bS.mp a];exact⟨_,st,λv e=>nomatch e⟩
 keep:=λi h h' ⟨ok,ov,st⟩ k=>⟨ok,ov,k it (by simp) _ st⟩
 item:=by
  intro X n hw q t i pins s σ H E I hf st l;subst n hw q;obtain⟨ok,ov,st⟩:=st;obtain⟨hd,f⟩:=l;obtain⟨vs,rel,D⟩:=I.frzD hd g;obtain⟨u,C,x⟩:=KV.at rel (i:=i) (p:=us[i]) (by simp[f])
  have S:IsItemIter s.heap it d i vs.length j ok ov:=by rw[<- rel.length];exact st
  refine wpAny_pyNext_items_item S D C λkey M y ho hT J kp=>⟨_,rfl,wpAny_letOwnedTupleGo_items ho λL m c=>?_⟩;have lt:it<s.heap.objs.size:=aF st;have T:L.get? s.heap.objs.size=some { cls:=.type "tuple",data:=.seq #[key,u] }:=c.extBut _ _ (ne_of_gt lt) hT;refine⟨.ref s.heap.objs.size,upd H s.heap.objs.size (.tup [kV us[i].1,us[i].2]),?_,rfl,⟨s.heap.objs.size,us[i],by simp[f],I.hok.fresh (ak _),rfl,rfl⟩,⟨_,_,by rw[rel.length];exact m⟩,λb a=>?_⟩
  ·refine I.spun (fp:=[it]) (t':=s.toks) (λb ob a r=>?_) hf (ak _) ?_
   ·exact c.extBut _ _ (λz=>a (by simp[z])) (kp b ob (λz=>a (by simp[z])) r)
   ·exact⟨by show 2<=sizeLine;decide,[key,u],.cons (CK y) (.cons x .nil),_,T,⟨rfl,rfl⟩,0,rfl⟩
  ·show upd H s.heap.objs.size _ b=none
   have bn:b≠s.heap.objs.size:=λz=>by rw[bS.mp a]at z;exact absurd lt (by rw[z];exact aT _)
   rw[qx bn];exact(hf b a).1
 done:=by
  intro X n hw q t i pins s σ H E I hf st l;subst n hw q;obtain⟨ok,ov,st⟩:=st;obtain⟨hd,f⟩:=l;obtain⟨vs,rel,D⟩:=I.frzD hd g;have S:IsItemIter s.heap it d i vs.length j ok ov:=by rw[<- rel.length];exact st
  have hn:vs[i]? =none:=by
   rw[List.getElem?_eq_none_iff]at f ⊢;rw[<- rel.length];exact f
  exact wpAny_pyNext_items_end (I.ok.hd t) S D hn λM B=>⟨rfl,I.spun0 (fp:=[it]) (t':=s.toks) (λb ob a r=>B b ob (λz=>a (by simp[z])) r) hf⟩
 self:=λA i s Q E ⟨ok,ov,st⟩ h=>by
  have hT:s.TypeIs (.ref it) "dict_itemiterator":=⟨_,st,rfl⟩;refine wpAny_pyIter_slot hT F.slot_dict_itemiterator_iter (wpAny_call_entry F.slot_dict_itemiterator_iter hT Fe ?_ (F.args_dict_itemiterator_iter_1 _));show wpAny _ _ (ret (.ref it)) _ _ s;exact bN ⟨_,rfl,"dict_itemiterator",_,hT,F.slot_dict_itemiterator_next.lookup,h⟩
section
variable {a b:Expr}{m:Ev}
def Bq (td:TE):TI:=λσ H R=>td σ H λx H1=>∃d us,x=.ref d/\H1 d=some (.dK us)/\∀o,R (Vc d o us) (upd H1 d (.frz o (.dK us)))
def F0 {td:TE}(ho:PE X a td)(i:attributeBase a "items" X.env (eval a X.env)=eval a X.env)(g:(apos.endLine==cpos.line)=true):
  PI X (.Tuple elts kk tpos) (.Call (.Attribute a "items" apos) [] [] cpos) (Bq td):=by
 intro pins s σ H R I h;refine wpAny_Call_method0_late i g (zM (ho pins s σ H _ I h) λv s1 ⟨x,H1,m,n,d,us,ex,hd,q⟩=>?_);subst ex;cases n;obtain⟨z,f,vs,rel,D⟩:=Pn m.hok hd;obtain⟨o,l,p,c,hex,t,r⟩:=id D;refine⟨"dict","dict.items",PySem.F.plainAttrs_dict,PySem.F.slot_dict_items,PySem.F.type_dict_items,D.typeIs,λb E=>by cases E;exact⟨o,c,hex.2.1⟩,Calls.callWith_builtin rfl (PySem.evalArgs_none ?_)⟩
 refine call_meetsIn PySem.F.slot_dict_items D.typeIs PySem.F.entry_dict_items (PySem.F.args_dict_items_1 _) (meets_dict_items (yj X.prog X.w) d f) ⟨⟨vs,D⟩,?_⟩;have A:Inv X pins σ (upd H1 d (.frz o (.dK us))) { s1 with heap:=s1.heap,toks:=s1.toks }:=m.write (x:=d) (e:=d) (o:=.frz o (.dK us)) (t':=s1.toks) (h':=s1.heap) (by rw[hd];exact True.intro) (.inl rfl) (λ_ _ _ q=>q) ⟨o,c⟩ ⟨c,z,f,vs,rel,D⟩
 have j:Inv X pins σ (upd H1 d (.frz o (.dK us))) { s1 with heap:=s1.heap.push { cls:=.type "dict_items",data:=.fields #[.ref d] } }:=A.kept (t':=s1.toks) λb ob q=>ae _ q
 have y:(s1.heap.push { cls:=.type "dict_items",data:=.fields #[.ref d] }).DictAt (yj X.prog X.w) d vs p:=⟨o,l,ae _ c,hex,t,r⟩;refine wpAny_pyIter_items (s:={ s1 with heap:=s1.heap.push { cls:=.type "dict_items",data:=.fields #[.ref d] } }) ⟨_,av _ rfl,rfl,rfl⟩ y ?_
 refine⟨_,[_],_,_,_,rfl,j.kept (t':=s1.toks) λb ob q=>ae _ q,Ik d _ o us p ⟨l,t⟩,⟨.none,.none,?_⟩,λb u=>?_,q o⟩
 ·rw[rel.length];exact av _ rfl
 ·have E:=bS.mp u
  subst E;exact j.fpOk (ak _) (j.hok.fresh (ak _))
noncomputable def kW:Key->W
 |.inl i=>.int i|.inr x=>.str x
def QK (kvs:List (Key×W)):ja:=⟨λ_ i=>some (kvs[i]?.map λp=>.tup [kW p.1,p.2]),kvs.length⟩
def JG (m:Ev):Ei:=λρ A=>match A with
 |[]=>(m ρ []).bind λw A1=>match w,A1 with
  |.ref 0,[.dct kvs]=>if qG (kvs.map (·.2)) then .ok (QK kvs) [] else .bad|_,_=>.bad
 |_=>.bad
def AH {K:Frag}{d:Addr}{o:Obj}{us:List (Key×V)}{kvs:List (Key×W)}(hd:H d=some (.frz o (.dK us)))(f:us.map (·.1)=kvs.map (·.1))(y:zF K φ H (kvs.map (·.2)) (us.map (·.2)))(n:qG (kvs.map (·.2))=true):
  gf K φ H (QK kvs) (Vc d o us):=λi a g D lw S=>by
 unfold QK;dsimp only;have h:=lw.fz d o _ hd;have E:zF K a g (kvs.map (·.2)) (us.map (·.2)):=y.nrm lw.tp lw.fz n;have hl:us.length=kvs.length:=by have:=congrArg List.length f;simpa using this
 cases e:kvs[i]? with
 |none=>
  refine⟨λ_ z=>(by cases z),λ_=>⟨h,?_⟩⟩
  rw[List.getElem?_eq_none_iff]at e ⊢;rw[hl];exact e
 |some p=>
  have l:i<kvs.length:=(bP.mp e).1;refine⟨λu z=>?_,λz=>(by cases z)⟩
  cases z;refine⟨⟨h,by rw[hl];exact l⟩,λx H1 ⟨t,q,b,j,ex,w⟩=>?_⟩
  subst ex w;have k1:q.1=p.1:=by
   have a1:(us.map (·.1))[i]? =some q.1:=by simp[b]
   rw[f]at a1;simp[e]at a1;exact a1.symm
  have a2:(kvs.map (·.2))[i]? =some p.2:=by simp[e]
  obtain⟨v,c,s⟩:=E.get a2;have m:v=q.2:=by simp[b]at c;exact c.symm
  subst m;rw[k1];have r:RV K a g (kW p.1) (kV p.1):=by cases p.1<;>rfl
  obtain⟨C,A,B⟩:=gx S j (.cons r (.one s));exact⟨C,A,B⟩
end
mutual
noncomputable def W.beq:W->W->Bool
 |.non,.non=>true|.bl a,.bl b=>a==b|.int a,.int b=>decide (a=b)|.str a,.str b=>decide (a=b)|.tup a,.tup b=>gG a b|_,_=>false
noncomputable def gG:List W->List W->Bool
 |[],[]=>true|a::as,b::bs=>a.beq b&&gG as bs|_,_=>false
end
mutual
theorem W.eq_of:∀{a b:W},a.beq b=true->a=b
 |.non,.non,_=>rfl|.bl a,.bl b,h=>by have h':(a==b)=true:=h;rw[aM]at h';rw[h']|.int a,.int b,h=>by have h':decide (a=b)=true:=h;rw[af]at h';rw[h']|.str a,.str b,h=>by have h':decide (a=b)=true:=h;rw[af]at h';rw[h']|.tup a,.tup b,h=>by have h':gG a b=true:=h;rw[Kf h']|.non,.bl _,h=>nomatch h|.non,.int _,h=>nomatch h|.non,.str _,h=>nomatch h|.non,.tup _,h=>nomatch h|.non,.ref _,h=>nomatch h
 |.bl _,.non,h=>nomatch h|.bl _,.int _,h=>nomatch h|.bl _,.str _,h=>nomatch h|.bl _,.tup _,h=>nomatch h|.bl _,.ref _,h=>nomatch h
 |.int _,.non,h=>nomatch h|.int _,.bl _,h=>nomatch h|.int _,.str _,h=>nomatch h|.int _,.tup _,h=>nomatch h|.int _,.ref _,h=>nomatch h
 |.str _,.non,h=>nomatch h|.str _,.bl _,h=>nomatch h|.str _,.int _,h=>nomatch h|.str _,.tup _,h=>nomatch h|.str _,.ref _,h=>nomatch h
 |.tup _,.non,h=>nomatch h|.tup _,.bl _,h=>nomatch h|.tup _,.int _,h=>nomatch h|.tup _,.str _,h=>nomatch h|.tup _,.ref _,h=>nomatch h
 |.ref _,.non,h=>nomatch h|.ref _,.bl _,h=>nomatch h|.ref _,.int _,h=>nomatch h|.ref _,.str _,h=>nomatch h|.ref _,.tup _,h=>nomatch h|.ref _,.ref _,h=>nomatch h
theorem Kf:∀{a b:List W},gG a b=true->a=b
 |[],[],_=>rfl|a::as,b::bs,h=>by
  have h':(a.beq b&&gG as bs)=true:=h;rw[ag]at h';rw[W.eq_of h'.1,Kf h'.2]
 |[],_::_,h=>nomatch h
 |_::_,[],h=>nomatch h
end
section
variable {K:Frag}
def FD (K:Frag)(x:Str)(st:Stmt):Prop:=∃f fd,gh K x x st f fd/\nsIn K mainGlobals x=some (some (.ref f))
def Am {st:Stmt}{f:Addr}{b:Value}{o an:bK}{kV doc pm C ct:Value}(a:nsIn K mainGlobals x=some (some (.ref f)))
  (l:K.lookup f=some ⟨b,o,.func (fnOf x x (Qr st) (gr st) (z8 st) .none kV doc pm an C ct),osl⟩)(c:codeIn K C x=true)(k:keepIn K (.ref f)=true):FD K x st:=⟨f,_,CM l c k,a⟩
def CD (K:Frag)(x:Str)(i:Int):Prop:=∃t,nsIn K mainGlobals x=some (some (.int i t))
def BH {i:Int}{t:Tok}(a:nsIn K mainGlobals x=some (some (.int i t))):CD K x i:=⟨t,a⟩
def PM (f:Fn):Prop:=∀ns:bt,ns.length<=63->∃A,f [.ref 0] [.ro (ns.map W.int)]=.ok (.bl true) A
def IK (c:KU H)(S:qF K H a (ns.map V.int)):zL K [a] [.ro (ns.map W.int)] H:=by
 refine⟨rfl,λi j b o o' m l e d m1 _=>?_,λn o h=>?_⟩
 ·have g:i=0:=by have:=(bP.mp e).1;simp at this;omega
  have f:j=0:=by have:=(bP.mp d).1;simp at this;omega
  omega
 ·have hn:n=0:=by have:=(bP.mp h).1;simp at this;omega
  subst hn;simp at h;subst h;refine⟨a,rfl,ns.map V.int,?_,zF.ints.mpr rfl⟩;rcases S with (z|z)|z
  ·rcases c a with q|⟨ob,xs,q⟩
   ·rw[z]at q;cases q
   ·rw[z]at q;cases q
  ·exact .inl z
  ·exact .inr z
def AI {l:PySem.W.OpenLaw}{k:Nat}{q:Program}{loose:bC}{d:DefRec}{K:Params->Frag}{f:Fn}(ok:PM f)
  (hn:l.most=some 63)(b:d.params.defaults=[])(i:jL k callerA)(Y:∀(w:World)(h:Heap),YP w h->(K w.params).In h)
  (F:∀(w:World)(mg:bG)(c:Addr)(h:Heap),(K w.params).In h->h.Ns mainGlobals mg->mg d.name=some (.ref c)->
   ∃fd:FuncData,(∀(s:Shared)(u:Value),BindsTo s fd ⟨[u],[]⟩ [(x,u)])/\∀base:Heap,(K w.params).In base->base.Ns mainGlobals mg->yA l.prog w (K w.params) mg base kT k c fd [x] (gR (K w.params) 1 f)):
  PySem.W.WalkO q loose XP YP l.row.toRowW d [] (λf vs=>PySem.call f vs):=
 L2.DB (n:=63) (k:=k) (x:=x) (CX:=λ_=>kT) (sp:=λw=>gR (K w.params) 1 f) hn (by decide) b i Y F (λw H a ns hl j S=>by
  refine⟨rfl,[a],[.ro (ns.map W.int)],[.ref 0],IK j S,.one ⟨a,rfl,rfl⟩,?_⟩;obtain⟨A,e⟩:=ok ns hl;rw[e];exactλg m v _ _ r=>r) λ_ _ _ _ _ z=>z
end
open PySem PySem.Spec PyProof.Rows L2 Mi
@[irreducible] noncomputable def zw (X:Cx)(x:XR)(e:Expr)(m:Ev):Prop:=Mi.SE X x e m
def Xl:@zw=@Mi.SE:=by
 funext X xr e m
 unfold zw
 rfl
@[irreducible] noncomputable def wy (X:Cx)(x:XR)(e:bE)(m:Ea):Prop:=Mi.SA X x e m
def Xi:@wy=@Mi.SA:=by
 funext X xr es m
 unfold wy
 rfl
@[irreducible] noncomputable def j5 (X:Cx)(x:XR)(e:Expr)(m:Ev):Prop:=Mi.ST X x e m
def G8:@j5=@Mi.ST:=by
 funext X xr e m
 unfold j5
 rfl
@[irreducible] noncomputable def kU (X:Cx)(x:XR)(e:Expr)(m:Ev):Prop:=Mi.SW X x e m
def Xm:@kU=@Mi.SW:=by
 funext X xr e m
 unfold kU
 rfl
@[irreducible] noncomputable def ym (X:Cx)(x:XR)(st:Stmt)(m:Ex):Prop:=Mi.SS X x st m
def Xg:@ym=@Mi.SS:=by
 funext X xr st m
 unfold ym
 rfl
@[irreducible] noncomputable def yZ (X:Cx)(x:XR)(st:bL)(m:Ex):Prop:=Mi.Yk X x st m
def GN:@yZ=@Mi.Yk:=by
 funext X xr st m
 unfold yZ
 rfl
@[irreducible] noncomputable def yI (X:Cx)(x:XR)(t e:Expr)(m:Ei):Prop:=Mi.SI X x t e m
def Xd:@yI=@Mi.SI:=by
 funext X xr tg e m
 unfold yI
 rfl
@[irreducible] noncomputable def kg (X:Cx)(t:Expr)(m:Tg):Prop:=Mi.SG X t m
def G2:@kg=@Mi.SG:=by
 funext X tg m
 unfold kg
 rfl
@[irreducible] noncomputable def gL (X:Cx)(x:XR)(e:Expr)(m:jv):Prop:=Mi.SF X x e m
def Xc:@gL=@Mi.SF:=by
 funext X xr e m
 unfold gL
 rfl
@[irreducible] noncomputable def kE (X:Cx)(x:XR)(e:Expr)(m:jv):Prop:=Mi.SQ X x e m
def Xk:@kE=@Mi.SQ:=by
 funext X xr e m
 unfold kE
 rfl
@[irreducible] noncomputable def wt (X:Cx)(e:bE)(m:Ev):Prop:=Mi.Yh X e m
def GP:@wt=@Mi.Yh:=by
 funext X es m
 unfold wt
 rfl
@[irreducible] noncomputable def k5 (X:Cx)(elt:Expr)(gens:List Comprehension)(sc:Scope)(c:Pos)(d:Nat)(em:Em):Prop:=Mi.SM X elt gens sc c d em
def Xe:@k5=@Mi.SM:=by
 funext X elt gens sc cpos d em
 unfold k5
 rfl
section
variable {xr:XR}{K:Frag}{a b c:Expr}{es:bE}{m ma mb mc:Ev}{m1 m2:Ex}{st:Stmt}{rest:bL}
def zO:@zw=@Mi.SE/\@wy=@Mi.SA/\@j5=@Mi.ST/\@kU=@Mi.SW/\@ym=@Mi.SS/\@yZ=@Mi.Yk/\@yI=@Mi.SI/\@kg=@Mi.SG/\@gL=@Mi.SF/\@kE=@Mi.SQ/\@wt=@Mi.Yh/\@k5=@Mi.SM:=⟨Xl,Xi,G8,Xm,Xg,GN,Xd,G2,Xc,Xk,GP,Xe⟩
def zq {m:Ea}(d:zw X xr e ma)(r:wy X xr es m)(s:starEach (e::es) X.env=(false,eval e X.env)::starEach es X.env:=by rfl):wy X xr (e::es) (zi ma m):=by
 try simp only[zO]at*
 exact PA.imp (jz d r s) λσ H Q ⟨φ,A,ρ,S,re,h⟩=>by
   refine tM.go S re (zW.mp h) λw A1 b H1 v g l j c=>?_;refine K9.go j (re.mono l) (qw (zW.mp g) (λ_ _ z=>z) λ_ _ z=>z.mono l) λo A2 a n v2 f L i q=>?_;exact f a n _ (l.trans L) i (.cons (c.mono L) q)
def zA:wy X xr [] zr:=by
 try simp only[zO]at*
 exact PA.imp yd λσ H Q ⟨φ,A,ρ,S,re,h⟩=>h φ H [] .refl S .nil
def yq (H:zw X xr a ma)(h:zw X xr b mb):zw X xr (.BinOp a .Add b pos) (zh qU ma mb):=by
 try simp only[zO]at*
 exact we (Bx.or (F9.or (Hz.or C1))) DN EJ H h
def JE {q:jv}(H:X.calm=true)(hm:X.mg "all"=none)(a:kE X xr e q)(h:Gl X "all":=by rfl)(he:starEach [e] X.env=(false,eval e X.env)::starEach [] X.env:=by rfl):
  zw X xr (.Call (.Name "all" p) [e] [] pos) (mQ ZX q):=by
 try simp only[zO]at*
 exact JY (FN H) RU S7 hm (by rfl) a h (by decide) (by decide) he (by rfl)
def g9 {rest:bE}(f:zw X xr a ma)(e:zw X xr (.BoolOp .And (b::rest) pos) mb):zw X xr (.BoolOp .And (a::b::rest) pos) (jS ma mb):=by
 try simp only[zO]at*
 exact PE.imp (CT f e) λσ H Q ⟨φ,A,ρ,S,re,h⟩=>by
   refine tM.go S re (zW.mp h) λw A1 d H1 v c l s q=>?_;cases w with
   |bl k=>
    refine⟨k,q,?_⟩;cases k with
    |true=>rw[aj rfl];exact⟨d,A1,ρ,s,re.mono l,qw c (λ_ _ z=>z.mono l) λ_ _ z=>z.mono l⟩|false=>rw[ao au];exact c d H1 _ l s rfl
   |non=>cases c|int _=>cases c|str _=>cases c|tup _=>cases c|ref _=>cases c|clo _ _ _=>cases c|xc _=>cases c
def EM {q:jv}(H:X.calm=true)(hm:X.mg "any"=none)(a:kE X xr e q)(h:Gl X "any":=by rfl)(he:starEach [e] X.env=(false,eval e X.env)::starEach [] X.env:=by rfl):
  zw X xr (.Call (.Name "any" p) [e] [] pos) (mQ QG q):=by
 try simp only[zO]at*
 exact JY (Fp H) RU S7 hm (by rfl) a h (by decide) (by decide) he (by rfl)
def yF {i j}:zw X xr (.Constant (.bool i) j pos) (zY (.bl i)):=by
 try simp only[zO]at*
 exact PE.imp B2 λσ H Q ⟨φ,A,ρ,S,r,h⟩=>h φ H _ .refl S rfl
def ky {g:W->W->Hx->R W}(h:yX X op g)(c:zw X xr a ma)(H:zw X xr b mb)(e:op≠.In:=by decide)(d:op≠.NotIn:=by decide):zw X xr (.Compare a [op] [b] pos) (zh g ma mb):=by
 try simp only[zO]at*
 exact let ⟨r,a1,a2,A⟩:=h.ex;R3 a1 a2 A c H (h.mks b e d)
def RS {o:CmpOp}{g g':W->W->Hx->R W}(h:yX X op g)(h':yX X o g')(e:zw X xr a ma)(d:zw X xr b mb)(H:zw X xr c mc)(hm:lastMarks [op,o] [b,c]=false:=by with_unfolding_all rfl):
  zw X xr (.Compare a [op,o] [b,c] pos) (yQ g g' ma mb mc):=by
 try simp only[zO]at*
 exact let ⟨r,a1,a2,A⟩:=h.ex;let ⟨j,i,f,B⟩:=h'.ex;Fi a1 a2 A i f B e d H hm
def zJ {k:Nat}{f:Fn}{m:Ea}(F:zE X.prog X.w X.K X.mg X.base k x n f)(r:jL k X.A)(o:wy X ka (e::es) m)(hl:QP m n:=by repeat' (first|exact qJ|refine qg ?_))(i:Gl X x:=by rfl)
  (c:(x==("__debug__":Str))=false:=by decide)(he:starEach (e::es) X.env=(false,eval e X.env)::starEach es X.env:=by rfl)(l:(backTo pos (starEach es X.env)).any (·.1)=false:=by rfl):
  zw X ka (.Call (.Name x p) (e::es) [] pos) (zy f m):=by
 try simp only[zO]at*
 obtain⟨y,fd,P,F,hm,g,j⟩:=F;refine PE.imp (Es F r i hm g j .nil AJ o c he l) λσ H Q ⟨φ,A,ρ,S,re,h⟩=>?_;have h':=zW.mp h;refine⟨φ,A,ρ,S,re,?_⟩;cases E:m ρ A with
 |ok ws A1=>
  rw[E]at h';intro b H1 vs L t q;have v:vs.length=n:=by rw[<- q.length];exact hl ρ A ws A1 E
  rw[append_nil];exact⟨v,b,A1,ws,t,q,qw h' (λ_ _ z=>z.mono L) λx A2 z a u d s=>(z a u (L.trans d) s).elim⟩
 |exc x A1=>rw[E]at h';exact h'|bad=>rw[E]at h';exact h'
def Ci {g:W->W->Hx->R W}(h:KD X op g)(c:zw X xr a ma)(H:zw X xr b mb)(hm:behindInMarks op b=false:=by rfl):zw X xr (.Compare a [op] [b] pos) (zh g ma mb):=by
 try simp only[zO]at*
 exact let ⟨r,a1,a2,A⟩:=h.ex;R3 a1 a2 A c H hm
def Iz (ho:zw X xr a ma)(he:zw X xr b mb)(s:starEach [b] X.env=(false,eval b X.env)::starEach [] X.env:=by rfl)
  (c:attributeBase a "count" X.env (eval a X.env)=eval a X.env:=by rfl)
  (f:((backTo cpos (starEach [b] X.env)).all (λx=>!x.1)&&(backToKw cpos (keywordEach [] X.env)).all (λx=>x.1.isSome)
   && decide ([b].length+([]:bJ).length+(if ([]:bJ).isEmpty then 0 else 1)<30))=true:=by rfl)(e:(apos.endLine==cpos.line)=true:=by rfl):
  zw X xr (.Call (.Attribute a "count" apos) [b] [] cpos) (Ke JL ma mb):=by
 try simp only[zO]at*
 exact PE.imp (BI PySem.F.slot_tuple_count PySem.F.type_tuple_count HV ho (jz he yd s) c f e s (by rfl)) λσ H Q ⟨φ,A,ρ,S,re,h⟩=>by
   refine tM.go S re (zW.mp h) λw A1 j H1 v i L u n=>?_;cases w with
   |tup ws=>
    obtain⟨p,vs,rfl,t1,r⟩:=n;refine⟨p,vs,rfl,t1,?_⟩;refine tM.go u (re.mono L) (qw (zW.mp i) (λ_ _ z=>z) λ_ _ z=>z.mono L) λm A2 g y v2 d l t q=>?_;unfold JL at d;dsimp only at d
    by_cases hf:(jV m&&ws.all jV)=true
    ·rw[aj hf]at d
     rw[ag]at hf;obtain⟨o,I⟩:=Gd q hf.1 (r.mono l) hf.2;refine⟨p,vs,v2,rfl,rfl,l.tp _ _ t1,Jn q hf.1,o,?_⟩;rw[I];rw[GU]at d;exact d g y _ (L.trans l) t (by simp[RV])
    ·rw[ao hf]at d;exact d.elim
   |_=>exact i.elim
def DE:zw X xr (.Dict [] [] pos) P4:=by
 try simp only[zO]at*
 exact PE.imp FI λσ H Q ⟨φ,A,ρ,S,re,h⟩ p a=>by
  obtain⟨l,s⟩:=S.alloc (o:=.dct []) a (u:=.dK []) ⟨[],j6,rfl,.nil⟩;exact h _ _ _ l s ⟨p,rfl,by rw[<- S.len];simp⟩
def Io {k:Nat}(u:jL k X.A)(y:zw X xr a ma)(x:zw X xr b mb)(t:XS b:=by intro _ _;rfl):zw X xr (.Subscript a b pos) (zh Km ma mb):=by
 try simp only[zO]at*
 exact PE.imp (Dj (B8 u) y x t) λσ H Q ⟨φ,A,ρ,S,re,h⟩=>by
   refine tM.go S re (zW.mp h) λw A1 f H1 v B l C j=>?_;refine tM.go C (re.mono l) (qw (zW.mp B) (λ_ _ z=>z) λ_ _ z=>z.mono l) λg A2 d D v2 c L s q=>?_;unfold Km at c;cases w with
   |ref n=>
    cases g with
    |int i=>
     obtain rfl:=q;dsimp only[KR]at c;cases e:A2[n]? with
     |none=>rw[e]at c;exact c.elim|some o=>cases o with
      |dct kvs=>
       rw[e]at c;dsimp only at c;obtain⟨p,us,rfl,f1,g1,g2,g3⟩:=s.dct (j.mono L) e;cases E:yf (.inl i) kvs with
       |none=>rw[E]at c;exact c.elim|some w=>
        rw[E]at c;obtain⟨v,m,r⟩:=(Gx (.inl i) g2 g3).1 w E;refine⟨p,v,rfl,?_,c d D v (l.trans L) s r⟩;rw[<- m];exact QF.k (k:=.inl i) g1
      |_=>rw[e]at c;exact c.elim
    |_=>exact c.elim
   |_=>exact c.elim
def HM {i:Int}{t:Tok}(g:Gl X x)(hm:X.mg x=some (.int i t))(hd:(x==("__debug__":Str))=false:=by decide):zw X xr (.Name x pos) (zY (.int i)):=by
 try simp only[zO]at*
 exact PE.imp (DF g hm (v:=.int i) ⟨t,rfl⟩ hd) λσ H Q ⟨φ,A,ρ,S,r,h⟩=>h φ H _ .refl S rfl
def RW {c:Expr}(f:j5 X xr c mc)(i:zw X xr a ma)(g:zw X xr b mb):zw X xr (.IfExp c a b pos) (Va mc ma mb):=by
 try simp only[zO]at*
 exact PE.imp (HD f i g) λσ H Q ⟨φ,A,ρ,S,re,h⟩=>by
   refine tT.go S re (zW.mp h) λw A1 d=>?_;cases w with
   |bl k=>
    refine⟨k,rfl,λe H1 l s=>?_⟩;cases k with
    |true=>rw[aj rfl];exact⟨e,A1,ρ,s,re.mono l,qw d (λ_ _ z=>z.mono l) λ_ _ z=>z.mono l⟩|false=>rw[ao au];exact⟨e,A1,ρ,s,re.mono l,qw d (λ_ _ z=>z.mono l) λ_ _ z=>z.mono l⟩
   |non=>cases d|int _=>cases d|str _=>cases d|tup _=>cases d|ref _=>cases d|clo _ _ _=>cases d|xc _=>cases d
def zG {i j}:zw X xr (.Constant (.int i) j pos) (zY (.int i)):=by
 try simp only[zO]at*
 exact PE.imp R7 λσ H Q ⟨φ,A,ρ,S,r,h⟩=>h φ H _ .refl S rfl
def Kc (t:Ty){P:Pos}(hm:X.mg "isinstance"=none)(c:X.mg x=none)(f:bootBuiltins x=some (.type t.nm))(i:zw X xr e m)(g:Gl X "isinstance":=by rfl)(d:Gl X x:=by rfl)
  (hn:x ≠ "__name__":=by decide)(hd:(x==("__debug__":Str))=false:=by decide)
  (a:starEach [e,.Name x P] X.env=(false,eval e X.env)::starEach [.Name x P] X.env:=by rfl)(j:(backTo pos (starEach [.Name x P] X.env)).any (·.1)=false:=by rfl):
  zw X xr (.Call (.Name "isinstance" p) [e,.Name x P] [] pos) (Yf t m):=by
 try simp only[zO]at*
 exact PE.imp (Jr EV g hm (by rfl) (jz i (jz (EL d c f (v:=.ty t.nm) rfl hn hd) yd) a) (by decide) (by decide) a j) λσ H Q ⟨φ,A,ρ,S,re,h⟩=>by
   refine tM.go S re (zW.mp h) λw A1 b H1 v a l s q=>?_;cases E:Wa w A1 with
   |none=>rw[E]at a;exact a.elim|some t'=>
    rw[E]at a;exact⟨v,t',t,rfl,HW s q E,a b H1 _ l s rfl⟩
def zZ (c:zw X xr a ma)(H:zw X xr b mb)(h:Rm b:=by intro _ _;rfl):zw X xr (.Subscript a b pos) (zh zB ma mb):=by
 try simp only[zO]at*
 exact PE.imp (BJ D1 c H h) (zh.read Ak CU)
def qS {q:jv}(hm:X.mg "len"=none)(H:kE X xr e q)(h:Gl X "len":=by rfl)(he:starEach [e] X.env=(false,eval e X.env)::starEach [] X.env:=by rfl):
  zw X xr (.Call (.Name "len" p) [e] [] pos) (mQ qe q):=by
 try simp only[zO]at*
 exact JY MR (λ_ _=>jB) EK hm (by rfl) H h (by decide) (by decide) he (by rfl)
def wL {q:jv}(h:gL X xr e q):zw X xr e (jh q):=by
 try simp only[zO]at*
 exact PE.imp h jh.read
def LS {P pos':Pos}(o:X.calm=true)(hm:X.mg "list"=none)(f:X.mg "range"=none)(t:zw X xr a ma)(n:Gl X "list":=by rfl)(g:Gl X "range":=by rfl)(s:starEach [a] X.env=[(false,eval a X.env)]:=by rfl)
  (d:starEach [.Call (.Name "range" P) [a] [] pos'] X.env=(false,eval (.Call (.Name "range" P) [a] [] pos') X.env)::starEach [] X.env:=by rfl):
  zw X xr (.Call (.Name "list" p) [.Call (.Name "range" P) [a] [] pos'] [] pos) (Y3 ma):=by
 try simp only[zO]at*
 exact PE.imp (YH (Ie o) n hm (by rfl) (jz (E1 g f (jz t yd (by rw[s];rfl)) s) yd d) (by decide) (by decide) d (by rfl)) λσ H Q ⟨φ,A,ρ,S,re,h⟩=>by
   refine tM.go S re (zW.mp h) λw A1 b H1 v c L y q=>?_;cases w with
   |int j=>
    obtain rfl:=q;dsimp only at c
    by_cases e:(jy j&&decide (j.toNat<=qd))=true
    ·rw[aj e]at c
     rw[ag,af]at e;refine⟨j,rfl,λp m=>⟨p,j,rfl,j6,gZ e.1,Qj e.2,λl hl=>?_⟩⟩;have ln:Le X.K b H1 b (upd H1 p (.rng 0 j)):=Le.new m;have r:zF X.K b (upd H1 p (.rng 0 j)) ((List.range j.toNat).map λ(i:Nat)=>W.int i) (ZV j.toNat):=by
      have:=(zF.ints (K:=X.K) (φ:=b) (H:=upd H1 p (.rng 0 j)) (ns:=(List.range j.toNat).map λ(i:Nat)=>(i:Int)) (vs:=ZV j.toNat)).mpr (by unfold ZV;simp)
      rw[ba]at this;exact this
     obtain⟨x,u,B⟩:=JP (y.lay m) hl r;exact c _ _ _ ((L.trans ln).trans x) u B
    ·rw[ao e]at c;exact c.elim
   |_=>exact c.elim
def j7 {m:Ea}(h:wy X xr es m)(hl:QP m n)(hn:n<=qd:=by decide):zw X xr (.List es pos) (jt m):=by
 try simp only[zO]at*
 exact Bc h λρ A ws a e=>by rw[hl ρ A ws a e];exact Qj hn
def Js {q:jv}(H:X.calm=true)(hm:X.mg "max"=none)(a:kE X xr e q)(h:Gl X "max":=by rfl)(he:starEach [e] X.env=(false,eval e X.env)::starEach [] X.env:=by rfl):
  zw X xr (.Call (.Name "max" p) [e] [] pos) (mQ yH q):=by
 try simp only[zO]at*
 exact JY (Hg H) D0 E2 hm (by rfl) a h (by decide) (by decide) he (by rfl)
def SO (e:X.calm=true)(hm:X.mg "min"=none)(n:zw X xr a ma)(m:zw X xr b mb)(l:Gl X "min":=by rfl)(r:starEach [a,b] X.env=(false,eval a X.env)::starEach [b] X.env:=by rfl)(o:starEach [b] X.env=(false,eval b X.env)::starEach [] X.env:=by rfl)(h:(backTo pos (starEach [b] X.env)).any (·.1)=false:=by rfl):
  zw X xr (.Call (.Name "min" p) [a,b] [] pos) (zh Kj ma mb):=by
 try simp only[zO]at*
 exact Px (Ir e) gA (λφ A H x y u v Q S d c p=>by
   obtain⟨i,j,s,E,q⟩:=gw (K:=X.K) (f:=λi j=>.int (if j<i then j else i)) (g:=λi j=>.int (if j<i then j else i)) (λ_ _ _ _=>rfl) φ A H x y u v Q S d c p;subst s;subst E;exact⟨i,j,rfl,q⟩) hm (by rfl) n m l (by decide) (by decide) r o h
def yW (H:zw X xr a ma)(h:zw X xr b mb):zw X xr (.BinOp a .Mod b pos) (zh jU ma mb):=by
 try simp only[zO]at*
 exact we CO JT (JN EF λ_ _ _ _=>rfl) H h
def jb (H:zw X xr a ma)(h:zw X xr b mb):zw X xr (.BinOp a .Mult b pos) (zh qh ma mb):=by
 try simp only[zO]at*
 exact we (C6.or Cp) Ck DL H h
def EO (h:zw X xr a ma):zw X xr (.UnaryOp .USub a pos) (jH ZZ ma):=by
 try simp only[zO]at*
 exact AA RZ (λx A=>by unfold ZZ;split;exact jB;exact qM) (λφ A H x u Q S q p=>by
  cases u with
  |int i=>obtain rfl:=q;exact⟨i,rfl,p φ H _ .refl S rfl⟩|_=>exact p.elim) h
def Y2 {j}:zw X xr (.Constant .none j pos) (zY .non):=by
 try simp only[zO]at*
 exact PE.imp Ba λσ H Q ⟨φ,A,ρ,S,r,h⟩=>h φ H _ .refl S rfl
def Dn (d:zw X xr a ma):zw X xr (.UnaryOp .Not a pos) (jX ma):=by
 try simp only[zO]at*
 exact PE.imp (D2 d) λσ H Q ⟨φ,A,ρ,S,re,h⟩=>by
   refine tM.go S re (zW.mp h) λw A1 c H1 v b l s q=>?_;cases w with
   |bl k=>exact⟨k,q,b c H1 _ l s rfl⟩|non=>cases b|int _=>cases b|str _=>cases b|tup _=>cases b|ref _=>cases b|clo _ _ _=>cases b|xc _=>cases b
def ZL {op}(h:zw X xr a ma):zw X xr (.BoolOp op [a] pos) ma:=by
 try simp only[zO]at*
 exact Br h
def LW (ho:zw X xr a ma)(he:zw X xr b mb)(hf:zw X xr c mc)(m:starEach [b,c] X.env=(false,eval b X.env)::starEach [c] X.env:=by rfl)(N:starEach [c] X.env=(false,eval c X.env)::starEach [] X.env:=by rfl)
  (j:attributeBase a "setdefault" X.env (eval a X.env)=eval a X.env:=by rfl)
  (r:((backTo cpos (starEach [b,c] X.env)).all (λx=>!x.1)&&(backToKw cpos (keywordEach [] X.env)).all (λx=>x.1.isSome)
   && decide ([b,c].length+([]:bJ).length+(if ([]:bJ).isEmpty then 0 else 1)<30))=true:=by rfl)(g:(apos.endLine==cpos.line)=true:=by rfl)(M:(backTo cpos (starEach [c] X.env)).any (·.1)=false:=by rfl):
  zw X xr (.Call (.Attribute a "setdefault" apos) [b,c] [] cpos) (Qw gu ma mb mc):=by
 try simp only[zO]at*
 exact PE.imp (Pp PySem.F.plainAttrs_dict PySem.F.slot_dict_setdefault PySem.F.type_dict_setdefault IX ho (jz he (jz hf yd N) m) j r g m M) λσ H Q ⟨φ,A,ρ,S,re,h⟩=>by
   refine tM.go S re (zW.mp h) λw A1 φ1 H1 v m D S1 q1=>?_
   by_cases hd:Wb w A1=true
   ·rw[aj hd]at m
    refine⟨Fd S1 q1 hd,?_⟩;refine tM.go S1 (re.mono D) (qw (zW.mp m) (λ_ _ z=>z) λ_ _ z=>z.mono D) λt A2 φ2 H2 v2 N l2 S2 q2=>?_;have l:=D.trans l2;refine tM.go S2 (re.mono l) (qw (zW.mp N) (λ_ _ z=>z) λ_ _ z=>z.mono l) λw3 A3 f T q d l3 P Z=>?_;have L:=l.trans l3;unfold gu at d;cases w with
    |ref n=>cases t with
     |int i=>
      obtain rfl:=q2;dsimp only[KR]at d;cases s:A3[n]? with
      |none=>rw[s]at d;exact d.elim|some o=>cases o with
       |dct kvs=>
        rw[s]at d;dsimp only at d;obtain⟨p,us,rfl,f1,g1,g2,g3⟩:=P.dct ((q1.mono l2).mono l3) s;have hlen:us.length=kvs.length:=by have:=congrArg List.length g2;simpa using this
        by_cases I:kvs.length<qd
        ·rw[aj I]at d
         have C:=Gx (.inl i) g2 g3;refine⟨p,us,.inl i,q,rfl,rfl,g1,?_,λv' J=>?_,λhn=>?_⟩
         ·rw[hlen]
          have:sizeLine=16777216:=sizeLine_eq
          unfold qd at I;omega
         ·cases E:yf (.inl i) kvs with
          |none=>rw[C.2 E]at J;cases J|some y=>
           rw[E]at d;obtain⟨B,e,Y⟩:=C.1 y E;rw[J]at e;cases e;exact d f T _ L P Y
         ·cases E:yf (.inl i) kvs with
          |some y=>obtain⟨B,e,Y⟩:=C.1 y E;rw[hn]at e;cases e|none=>
           rw[E]at d;dsimp only at d;rw[Fm q hn];have ln:Le X.K f T f (upd T p (.dK (us++[(.inl i,q)]))):=Le.upd f1 (λxs z=>by rw[g1]at z;cases z) (λ_ _ z=>by rw[g1]at z;cases z)
           obtain⟨U,t⟩:=P.write (o:=.dct kvs) (o':=.dct (kvs++[(.inl i,w3)])) s rfl rfl f1 (u:=.dK (us++[(.inl i,q)])) ⟨us++[(.inl i,q)],j6,by simp[g2],by
            rw[aU,aU];exact(g3.mono ln).append (.one (Z.mono ln))⟩
           exact d _ _ _ (L.trans U) t (Z.mono U)
        ·rw[ao I]at d;exact d.elim
       |_=>rw[s]at d;exact d.elim
     |_=>exact d.elim
    |_=>exact d.elim
   ·rw[ao hd]at m;exact m.elim
def ZJ (H:zw X xr a ma)(h:zw X xr b mb):zw X xr (.BinOp a .Sub b pos) (zh yM ma mb):=by
 try simp only[zO]at*
 exact we CY gA (gw λ_ _ _ _=>rfl) H h
def Df {q:jv}(H:X.calm=true)(hm:X.mg "sum"=none)(a:kE X xr e q)(h:Gl X "sum":=by rfl)(he:starEach [e] X.env=(false,eval e X.env)::starEach [] X.env:=by rfl):
  zw X xr (.Call (.Name "sum" p) [e] [] pos) (mQ kR q):=by
 try simp only[zO]at*
 exact JY (IS H) Cu E5 hm (by rfl) a h (by decide) (by decide) he (by rfl)
def yb {x1}{m:Ea}(h:wy X xr es m)(hl:QP m n)(hn:n<=qd:=by decide):zw X xr (.Tuple es x1 pos) (ji m):=by
 try simp only[zO]at*
 exact PE.imp (CV h) λσ H Q ⟨φ,A,ρ,S,re,h⟩=>by
   have h':=zW.mp h;cases e:m ρ A with
   |ok ws a=>
    rw[e]at h';refine⟨φ,A,ρ,S,re,?_⟩;rw[e];intro b H1 vs l s q;refine⟨by rw[<- q.length,hl ρ A ws a e];exact Qj hn,λp c=>?_⟩
    obtain⟨a1,a2,d⟩:=gx s c q;exact h' _ _ _ (l.trans a1) a2 d
   |exc x a=>rw[e]at h';refine⟨φ,A,ρ,S,re,?_⟩;rw[e];exact h'|bad=>rw[e]at h';exact h'.elim
def jP {q:jv}(hm:X.mg "tuple"=none)(H:kE X xr e q)(h:Gl X "tuple":=by rfl)(he:starEach [e] X.env=(false,eval e X.env)::starEach [] X.env:=by rfl):
  zw X xr (.Call (.Name "tuple" p) [e] [] pos) (mQ je q):=by
 try simp only[zO]at*
 exact Ao MC (λ_ _=>jB) F8 hm (by rfl) H h (by decide) (by decide) he (by rfl)
def zc (i:Nat)(b:X.N[i]? =some x:=by rfl)(a:Yc X.env.scope x:=by first|exact Or.inl rfl|exact Or.inr (Or.inl rfl)|exact Or.inr (Or.inr rfl))(hd:(x==("__debug__":Str))=false:=by decide)
  (d:(x==("__classdict__":Str))=false:=by decide):zw X xr (.Name x pos) (zX i):=by
 try simp only[zO]at*
 exact PE.imp (DX b a hd d) λσ H Q ⟨φ,A,ρ,S,r,h⟩=>by
  unfold zX at h;cases e:ρ[i]? with
  |none=>rw[e]at h;cases h|some o=>cases o with
   |none=>rw[e]at h;cases h|some w=>
    rw[e]at h;obtain⟨v,f,c⟩:=r.get i w e;exact⟨v,f,h φ H v .refl S c⟩
def HR {iter:Expr}{mi:Ei}{tw:Tg}{m:Ev}{em:Em}(nl:Nat)(cap:bA)(c:X.calm=true)(S:wO X sc)(p:Ze X.N N sc nl cap=true)(hw:yI X xr tg iter mi)
  (n:∀s H fp,kg (jC X N sc s H fp ye) tg tw/\wt (jC X N sc s H fp ye) ifs m/\k5 (jC X N sc s H fp ye) elt (⟨tg,iter,ifs,0⟩::gs) sc pos 0 em)
  (b:∀g',gs[0]? =some g'->g'.is_async=0:=by intro _ h;cases h<;>rfl)
  (a:∀x,foldedSetIterable iter X.env x=pure x:=by intro _;rfl):gL X xr (.ListComp elt (⟨tg,iter,ifs,0⟩::gs) sc pos) (zT nl cap mi tw m em):=by
 try simp only[zO]at*
 exact PE.imp (EE (g:=tG X.K tw) (ti:=tT X.K ka m) (tm:=tE X.K em) c S p b hw n a) zT.read
def yO (i j:Nat){y:Str}{q:Pos}{k:Nat}(n:X.calm=true)(h:X.N.Nodup)(l:X.N[i]? =some x:=by rfl)(f:Loc X.env.scope x:=by first|exact Or.inl rfl|exact Or.inr rfl)(hf:X.fn x=true∨X.env.scope.names.lookup x=some .local:=by first|exact .inl rfl|exact .inr rfl)
  (g:X.N[j]? =some y:=by rfl)(d:Loc X.env.scope y:=by first|exact Or.inl rfl|exact Or.inr rfl)(m:X.fn y=true∨X.env.scope.names.lookup y=some .local:=by first|exact .inl rfl|exact .inr rfl):kg X (.Tuple [.Name x p,.Name y q] k pos) (qN i j):=by
 try simp only[zO]at*
 exact PG.imp (G4 n (Qm (Qo h l f hf) (Qm (Qo h g d m) GS))) λv σ H Q ⟨φ,A,ρ,w,b,S,re,c,e,K⟩=>by
   unfold qN at e
   split at e
   ·rename_i x1 Y
    have E:=ax e;subst E;obtain⟨a,vs,rfl,s,rs⟩:=c;obtain⟨v1,u,rfl,r,v2,t,rfl,o,rfl⟩:=rs;exact⟨a,[v1,v2],rfl,s,rfl,v1,[v2],rfl,v2,[],rfl,rfl,K _ ((re.set r).set o)⟩
   ·cases e
def Hi (i j k:Nat){y z:Str}{q r pp:Pos}{o:Nat}(f:X.calm=true)(c:X.N.Nodup)(E:X.N[i]? =some x:=by rfl)(u:Loc X.env.scope x:=by first|exact Or.inl rfl|exact Or.inr rfl)(hf:X.fn x=true∨X.env.scope.names.lookup x=some .local:=by first|exact .inl rfl|exact .inr rfl)
  (D:X.N[j]? =some y:=by rfl)(t:Loc X.env.scope y:=by first|exact Or.inl rfl|exact Or.inr rfl)(J:X.fn y=true∨X.env.scope.names.lookup y=some .local:=by first|exact .inl rfl|exact .inr rfl)
  (C:X.N[k]? =some z:=by rfl)(s:Loc X.env.scope z:=by first|exact Or.inl rfl|exact Or.inr rfl)(I:X.fn z=true∨X.env.scope.names.lookup z=some .local:=by first|exact .inl rfl|exact .inr rfl):
  kg X (.Tuple [.Name x p,.Tuple [.Name y q,.Name z r] o pp] n pos) (Qu i j k):=by
 try simp only[zO]at*
 exact PG.imp (G4 f (Qm (Qo c E u hf) (Qm (G4 f (Qm (Qo c D t J) (Qm (Qo c C s I) GS))) GS))) λv σ H Q ⟨φ,A,ρ,w,g,S,re,m,e,K⟩=>by
   unfold Qu at e
   split at e
   ·rename_i x1 Y Z
    have U:=ax e;subst U;obtain⟨a,vs,rfl,B,rs⟩:=m;obtain⟨v1,r1,rfl,T,v2,r2,rfl,P,rfl⟩:=rs;obtain⟨a2,l,rfl,h,b⟩:=P;obtain⟨d,r3,rfl,M,v4,r4,rfl,L,rfl⟩:=b;exact⟨a,[v1,.ref a2],rfl,B,rfl,v1,[.ref a2],rfl,.ref a2,[],rfl,a2,[d,v4],rfl,h,rfl,d,[v4],rfl,v4,[],rfl,rfl,rfl,K _ (((re.set T).set M).set L)⟩
   ·cases e
def ql (i:Nat)(c:X.N.Nodup)(b:X.N[i]? =some x:=by rfl)(h:Loc X.env.scope x:=by first|exact Or.inl rfl|exact Or.inr rfl)(hf:X.fn x=true∨X.env.scope.names.lookup x=some .local:=by first|exact .inl rfl|exact .inr rfl):kg X (.Name x pos) (zI i):=by
 try simp only[zO]at*
 exact PG.imp (Qo c b h hf) λv σ H Q ⟨φ,A,ρ,w,a,S,re,q,e,k⟩=>by
   have E:ρ.set i (some w)=a:=ax e;subst E;exact k _ (re.set q)
def js (h:zw X xr e m):yI X xr tg e (qp m):=by
 try simp only[zO]at*
 exact PI.imp (Cg h) λσ H Rr ⟨φ,A,ρ,S,re,h⟩=>by
  refine tM.go S re (zW.mp h) λw A1 g H1 v d U Q T=>?_;unfold KH at d;cases e:z7 w A1 with
  |none=>rw[e]at d;exact d.elim|some ws=>
   rw[e]at d;dsimp only at d;cases w with
   |tup us=>
    obtain⟨a,Y,rfl,j,t⟩:=T;refine⟨a,rfl,.inr ⟨⟨Y,j⟩,d g H1 _ U Q λi c l f lw s=>⟨λD b=>?_,λb=>?_⟩⟩⟩
    ·have E:us[i]? =some D:=ax b
     obtain⟨y,p,J⟩:=(t.monoW lw).get E;refine⟨⟨Y,y,lw.tp _ _ j,p⟩,λx H3 C=>?_⟩;obtain⟨P,N⟩:=C;subst P;have q:=N Y (lw.tp _ _ j);rw[p]at q;cases q;exact⟨.refl,s,J⟩
    ·have E:us[i]? =none:=ax b
     refine⟨Y,lw.tp _ _ j,?_⟩;rw[<- t.length];exact List.getElem?_eq_none_iff.mp E
   |ref n=>
    obtain⟨a,rfl,j⟩:=T;have read:∀{c l f us},gP X.K g H1 c l->zL X.K c f l->z7 (.ref n) f=some us->∃Y,qF X.K l a Y/\zF X.K c l us Y:=λ {c l f us} lw s es=>by
     obtain⟨a',Y,Z,z,r⟩:=YF (w:=.ref n) (v:=.ref a) s ⟨a,rfl,lw.ex _ _ j⟩ es;cases Z;unfold z7 at es;dsimp only at es;cases M:f[n]? with
     |none=>rw[M]at es;cases es|some o=>
      rw[M]at es;obtain⟨a',t,r⟩:=s.ob n o M;rw[lw.ex _ _ j]at t;cases t;cases o with
      |lst xs=>cases es;obtain⟨Y,d,L⟩:=r;exact⟨Y,qF.of d,L⟩|ro xs=>cases es;obtain⟨Y,d,L⟩:=r;exact⟨Y,d.sq,L⟩|dct xs=>cases es|td _=>cases es|tr _=>cases es|tab _ _=>cases es
    obtain⟨B,I,_⟩:=read ⟨λ_ _ h=>h,λ_ _ h=>h,λ_ _ _ h=>h⟩ Q e;refine⟨a,rfl,.inl ⟨⟨B,I⟩,d g H1 _ U Q λi c l f lw s=>⟨λD b=>?_,λb=>?_⟩⟩⟩
    ·dsimp only at b
     cases es:z7 (.ref n) f with
     |none=>rw[es]at b;cases b|some us=>
      rw[es]at b;have E:us[i]? =some D:=ax b;obtain⟨Y,u,r⟩:=read lw s es;obtain⟨y,p,J⟩:=r.get E;refine⟨⟨Y,y,u,p⟩,λx H3 C=>?_⟩;obtain⟨P,N⟩:=C;subst P;have q:=N Y u;rw[p]at q;cases q;exact⟨.refl,s,J⟩
    ·dsimp only at b
     cases es:z7 (.ref n) f with
     |none=>rw[es]at b;cases b|some us=>
      rw[es]at b;have E:us[i]? =none:=ax b;obtain⟨Y,u,r⟩:=read lw s es;refine⟨Y,u,?_⟩;rw[<- r.length];exact List.getElem?_eq_none_iff.mp E
   |non=>cases e|bl _=>cases e|clo _ _ _=>cases e|xc _=>cases e|int _=>cases e|str _=>cases e
def gp (g:Gl X "enumerate")(hm:X.mg "enumerate"=none)(e:zw X xr a ma)(s:starEach [a] X.env=[(false,eval a X.env)]:=by rfl):yI X xr (.Tuple elts kk tpos) (.Call (.Name "enumerate" p) [a] [] pos) (yk ma):=by
 try simp only[zO]at*
 exact PI.imp (Ey g hm (jz e yd (by rw[s];rfl)) s) λσ H r ⟨φ,A,ρ,S,re,h⟩=>by
   refine tM.go S re (zW.mp h) λw A1 c H1 v b l d q=>?_;cases es:z7 w A1 with
   |none=>rw[es]at b;exact b.elim|some ws=>
    rw[es]at b;obtain⟨p,y,rfl,z,Z⟩:=YO d q es;exact⟨p,Zf w,y,rfl,z,b c H1 _ l d (Au q)⟩
def Iw (m:zw X xr a ma)(d:attributeBase a "items" X.env (eval a X.env)=eval a X.env:=by rfl)(e:(apos.endLine==cpos.line)=true:=by rfl):
  yI X xr (.Tuple elts kk tpos) (.Call (.Attribute a "items" apos) [] [] cpos) (JG ma):=by
 try simp only[zO]at*
 exact PI.imp (F0 m d e) λσ H r ⟨φ,A,ρ,S,re,h⟩=>by
   unfold JG at h;cases A with
   |cons o A=>exact h.elim|nil=>
    dsimp only at h;have i:φ=[]:=by have:=S.len;simpa using this
    subst i;refine tM.go S re (zW.mp h) λw A1 j H1 v f l s q=>?_
    split at f
    ·rename_i kvs
     by_cases hn:qG (kvs.map (·.2))=true
     ·rw[aj hn]at f
      obtain⟨p,us,rfl,f1,g1,g2,g3⟩:=s.dct q (kvs:=kvs) rfl;have h0:H p=none:=by
       rcases l.nw 0 p f1 with z|z
       ·simp at z
       ·exact z
      refine⟨p,us,rfl,g1,λo=>?_⟩;have tp:∀c vs,qm X.K H1 c vs->qm X.K (upd H1 p (.frz o (.dK us))) c vs:=λc vs t=>YS t (λxs z=>by rw[g1]at z;cases z) (λ_ _ z=>by rw[g1]at z;cases z)
      have le:Le X.K [] H [] (upd H1 p (.frz o (.dK us))):=by
       refine⟨λn c z=>z,λc vs t=>tp c vs (l.tp c vs t),λc u b nn=>?_,λn c z=>.inl z,λc z=>?_,λc u U b=>?_⟩
       ·rw[qx (kJ b h0)];exact l.fr c u b nn
       ·by_cases g:c=p
        ·rw[g];exact h0
        ·rw[qx g]at z;exact l.st c z
       ·rw[qx (kJ b h0)];exact l.fz c u U b
      exact f [] _ _ le zL.none (AH (o:=o) j6 g2 (g3.nrm tp (λc u U b=>by rw[qx (BF b g1 (by intro z;cases z))];exact b) hn) hn)
     ·rw[ao hn]at f;exact f.elim
    ·exact f.elim
def jx (g:Gl X "range")(hm:X.mg "range"=none)(e:zw X xr a ma)(s:starEach [a] X.env=[(false,eval a X.env)]:=by rfl):yI X xr tg (.Call (.Name "range" p) [a] [] pos) (jc ma):=by
 try simp only[zO]at*
 exact PI.imp (Ht g hm (jz e yd (by rw[s];rfl)) s) λσ H r ⟨φ,A,ρ,S,re,h⟩=>by
   refine tM.go S re (zW.mp h) λw A1 c H1 v b l i q=>?_;cases w with
   |int j=>
    obtain rfl:=q;dsimp only at b
    by_cases d:jy j=true
    ·rw[aj d]at b
     obtain⟨f,B⟩:=gZ d;exact⟨j,rfl,f,B,b c H1 _ l i RY⟩
    ·rw[ao d]at b;exact b.elim
   |non=>exact b.elim|bl _=>exact b.elim|str _=>exact b.elim|tup _=>exact b.elim|ref _=>exact b.elim|clo _ _ _=>exact b.elim|xc _=>exact b.elim
def Sr (n:Gl X "range")(hm:X.mg "range"=none)(r:zw X xr a ma)(o:zw X xr b mb)(s:starEach [a,b] X.env=[(false,eval a X.env),(false,eval b X.env)]:=by rfl)(d:starEach [b] X.env=[(false,eval b X.env)]:=by rfl):yI X xr tg (.Call (.Name "range" p) [a,b] [] pos) (Xx ma mb):=by
 try simp only[zO]at*
 exact PI.imp (Ha n hm (jz r (jz o yd (by rw[d];rfl)) (by rw[s,d])) s d) λσ H I ⟨φ,A,ρ,S,re,h⟩=>by
   refine tM.go S re (zW.mp h) λw A1 g H1 v t l D Q=>?_;refine tM.go D (re.mono l) (qw (zW.mp t) (λ_ _ z=>z) λ_ _ z=>z.mono l) λm A2 f E v2 c L C q=>?_;cases w with
   |int i=>
    obtain rfl:=Q;cases m with
    |int j=>
     obtain rfl:=q;dsimp only at c
     by_cases e:(jy i&&jy j)=true
     ·rw[aj e]at c
      rw[ag]at e;obtain⟨y,x⟩:=gZ e.1;obtain⟨u,B⟩:=gZ e.2;exact⟨i,j,rfl,⟨y,x,u,B⟩,c f E _ (l.trans L) C RY⟩
     ·rw[ao e]at c;exact c.elim
    |non=>exact c.elim|bl _=>exact c.elim|str _=>exact c.elim|tup _=>exact c.elim|ref _=>exact c.elim|clo _ _ _=>exact c.elim|xc _=>exact c.elim
   |non=>exact c.elim|bl _=>exact c.elim|str _=>exact c.elim|tup _=>exact c.elim|ref _=>exact c.elim|clo _ _ _=>exact c.elim|xc _=>exact c.elim
def Fs {d P:Pos}{k}(o:Gl X "range")(hm:X.mg "range"=none)(s:zw X xr a ma)(r:zw X xr b mb)
  (f:starEach [a,b,.UnaryOp .USub (.Constant (.int 1) k d) P] X.env=(false,eval a X.env)::starEach [b,.UnaryOp .USub (.Constant (.int 1) k d) P] X.env:=by rfl)
  (c:starEach [b,.UnaryOp .USub (.Constant (.int 1) k d) P] X.env=(false,eval b X.env)::starEach [.UnaryOp .USub (.Constant (.int 1) k d) P] X.env:=by rfl)
  (t:(backTo pos (starEach [b,.UnaryOp .USub (.Constant (.int 1) k d) P] X.env)).any (·.1)=false:=by rfl):
  yI X xr tg (.Call (.Name "range" p) [a,b,.UnaryOp .USub (.Constant (.int 1) k d) P] [] pos) (JV ma mb):=by
 try simp only[zO]at*
 exact PI.imp (IV o hm (jz s (jz r (jz (Pq RZ R7) yd (by rfl)) c) f) f t) λσ H I ⟨φ,A,ρ,S,re,h⟩=>by
   refine tM.go S re (zW.mp h) λw A1 m H1 v f l D Q=>?_;refine tM.go D (re.mono l) (qw (zW.mp f) (λ_ _ z=>z) λ_ _ z=>z.mono l) λn A2 g E v2 c L C q=>?_;cases w with
   |int i=>
    obtain rfl:=Q;cases n with
    |int j=>
     obtain rfl:=q;dsimp only at c
     by_cases e:(jy i&&jy j)=true
     ·rw[aj e]at c
      rw[ag]at e;obtain⟨y,x⟩:=gZ e.1;obtain⟨u,B⟩:=gZ e.2;exact⟨1,rfl,i,j,rfl,⟨y,x,u,B⟩,c g E _ (l.trans L) C BC⟩
     ·rw[ao e]at c;exact c.elim
    |_=>exact c.elim
   |_=>exact c.elim
def Y0 (r:Gl X "zip")(hm:X.mg "zip"=none)(u:zw X xr a ma)(t:zw X xr b mb)(i:starEach [a,b] X.env=(false,eval a X.env)::starEach [b] X.env:=by rfl)(f:starEach [b] X.env=(false,eval b X.env)::starEach [] X.env:=by rfl)(o:(backTo pos (starEach [b] X.env)).any (·.1)=false:=by rfl):
  yI X xr (.Tuple elts kk tpos) (.Call (.Name "zip" p) [a,b] [] pos) (kC ma mb):=by
 try simp only[zO]at*
 exact PI.imp (D6 r hm (jz u (jz t yd f) i) i o) λσ H I ⟨φ,A,ρ,S,re,h⟩=>by
   refine tM.go S re (zW.mp h) λw A1 j H1 v x l B n=>?_;refine tM.go B (re.mono l) (qw (zW.mp x) (λ_ _ z=>z) λ_ _ z=>z.mono l) λg A2 d C v2 c L s Q=>?_;cases es:z7 w A2 with
   |none=>rw[es]at c;exact c.elim|some us=>
    cases e:z7 g A2 with
    |none=>rw[es,e]at c;exact c.elim|some vs=>
     rw[es,e]at c;have q:=n.mono L;obtain⟨p,xs,rfl,m,E⟩:=YO s q es;obtain⟨P,y,rfl,Z,D⟩:=YO s Q e;exact⟨p,P,Zf w,Zf g,xs,y,rfl,m,Z,c d C _ (l.trans L) s (Ap q Q)⟩
def E9 {d:Nat}{me:Ev}(x:∀e s,X.xe e s->False)(he:zw X ka elt me)(j:gens[d+1]? =none):k5 X elt gens sc pos d (zQ me):=by
 try simp only[zO]at*
 exact kf.imp (HX x he j) λD σ H Q ⟨φ,A,ρ,acc,y,S,re,m,n,r,h⟩=>by
   refine tM.go S re (GI (zW.mp h)) λw A1 g H1 v f l o q=>?_;obtain⟨c,n1⟩:=l.off m n
   by_cases z:acc.length<qd
   ·rw[aj z]at f
    have hl:=r.length;refine⟨y,c,?_,?_⟩
    ·rw[<- hl]
     have:sizeLine=16777216:=sizeLine_eq
     unfold qd at z;omega
    ·exact f g _ σ _ (l.toD.trans (yh.upd c)) n1 (o.off c n1) ⟨re.len,λi w e=>let ⟨v,a,b⟩:=re.get i w e;⟨v,a,(b.mono l).monoD (yh.upd c)⟩⟩ j6
      (((r.mono l).monoD (yh.upd c)).append (.one (q.monoD (yh.upd c))))
   ·rw[ao z]at f;exact f.elim
def Y7 {iter:Expr}{d:Nat}{mi:Ei}{tw:Tg}{m:Ev}{em:Em}(o:∀e s,X.xe e s->False)(w:X.calm=true)(v:gens[d+1]? =some ⟨tg,iter,ifs,0⟩)(y:∀g',gens[d+2]? =some g'->g'.is_async=0)
  (hw:yI X ka tg iter mi)(t:kg X tg tw)(u:wt X ifs m)(hm:k5 X elt gens sc pos (d+1) em)(q:∀x,foldedSetIterable iter X.env x=pure x:=by intro _;rfl):k5 X elt gens sc pos d (kO mi tw m em):=by
 try simp only[zO]at*
 exact kf.imp (HC o w v y hw t u hm q) λD σ H Q ⟨φ,A,ρ,acc,Y,S,re,B,n,f,h⟩=>by
   refine⟨φ,A,ρ,S,re,qw (GI (zW.mp h)) (λj A1 E c H1 J l P i=>?_) λ_ _ z=>z⟩;obtain⟨K,n1⟩:=l.off B n;exact qV.read i P (re.mono l) K n1 (f.mono l) (qw E (λp A2 C a T b zs L N M r I g=>C a T b zs (l.toD.trans L) N M r I g) λ_ _ z=>z)
def qv (h:zw X xr e m):kE X xr e (zP m):=by
 try simp only[zO]at*
 exact PE.imp h λσ H Q ⟨φ,A,ρ,S,re,h⟩=>by
  refine tM.go S re (zW.mp h) λw A1 c H1 v b l s q=>?_;cases e:z7 w A1 with
  |none=>rw[e]at b;exact b.elim|some ws=>
   rw[e]at b;obtain⟨a,y,rfl,d,E⟩:=YF s q e;exact b c H1 a y l s d E
def j8 {q:jv}(h:gL X xr e q):kE X xr e q:=by
 try simp only[zO]at*
 exact PE.imp h λσ H Q ⟨φ,A,ρ,S,re,h⟩=>
  ⟨φ,A,ρ,S,re,qw h (λws A1 c a H1 D y l s h0 b n r=>c a H1 D y l s (.inl (qF.of b)) r) λ_ _ z=>z⟩
def DA (i:Nat){pos':Pos}(f:X.N.Nodup)(he:zw X xr e m)(d:X.N[i]? =some x:=by rfl)(c:Loc X.env.scope x:=by first|exact Or.inl rfl|exact Or.inr rfl)
  (hf:X.fn x=true∨X.env.scope.names.lookup x=some .local:=by first|exact .inl rfl|exact .inr rfl):ym X xr (.AugAssign (.Name x pos') .Add e pos) (QH i m):=by
 try simp only[zO]at*
 exact PS.imp (D5 f d c he RK hf) λD σ H ⟨φ,A,ρ,S,re,h⟩=>by
   unfold QH at h;cases E:ρ[i]? with
   |none=>rw[E]at h;exact h.elim|some o=>cases o with
    |none=>rw[E]at h;exact h.elim|some w=>cases w with
     |int x=>
      rw[E]at h;dsimp only at h;obtain⟨v,j,g⟩:=re.get i _ E;obtain rfl:=g;refine⟨_,j,?_⟩;refine tM.go S re (zW.mp h) λw A1 a H1 v b l s q=>?_;cases w with
      |int y=>
       obtain rfl:=q;exact⟨x,y,rfl,rfl,b a H1 _ l s ((re.mono l).set (w:=.int (x+y)) rfl)⟩
      |_=>exact b.elim
     |_=>rw[E]at h;exact h.elim
def FC {o i:Expr}{mo mi:Ev}(ho:zw X xr o mo)(hi:zw X xr i mi)(he:zw X xr e m)
  (ha:∀ov I new,augStore i ov I new=(do holding [new,ov,I] (setItem ov I new);release [new,ov,I] [];pure .next):=by intros;rfl):ym X xr (.AugAssign (.Subscript o i tpos) .Add e pos) (J1 mo mi m):=by
 try simp only[zO]at*
 exact PS.imp (Ec ho hi HF he RK set_list ha) λD σ H ⟨φ,A,ρ,S,re,h⟩=>by
   refine tM.go S re (zW.mp h) λT A1 N H1 v1 h1 j S1 q=>?_;refine tM.go S1 (re.mono j) (qw (zW.mp h1) (λ_ _ z=>z) λ_ _ z=>z.mono j) λw A2 M H2 v2 a g B q2=>?_;have l:=j.trans g;cases T with
   |ref n=>cases w with
    |int k=>
     obtain rfl:=q2;dsimp only at a
     by_cases h0:0<=k
     ·rw[aj h0]at a
      cases c:(A2[n]?:Option O) with
      |none=>rw[c]at a;exact a.elim|some ob=>cases ob with
       |lst ws=>
        rw[c]at a;dsimp only at a;obtain⟨p,vs,rfl,f1,g1,Y⟩:=B.lst (q.mono g) c;cases E:ws[k.toNat]? with
        |none=>rw[E]at a;exact a.elim|some P=>cases P with
         |int x=>
          rw[E]at a;dsimp only at a;obtain⟨v,hv,U⟩:=Y.get E;obtain rfl:=U;refine⟨p,vs,k,_,rfl,rfl,h0,g1,hv,?_⟩;refine tM.go B (re.mono l) (qw (zW.mp a) (λ_ _ z=>z) λ_ _ z=>z.mono l) λQ J f H3 v3 b t S3 Z=>?_;have L:=l.trans t;cases Q with
          |int y=>
           obtain rfl:=Z;dsimp only at b;refine⟨x,y,rfl,rfl,?_⟩;refine Rw (K:=X.K) f J H3 (.ref p) (.int k) (.int (x+y)) (.ref n) (.int k) (.int (x+y)) _ S3 ((q.mono g).mono t) rfl rfl ?_;cases r:kB (.ref n) (.int k) (.int (x+y)) J with
           |ok u C=>
            rw[r]at b;exactλd H4 s S4=>b d H4 σ (L.trans s) S4 (re.mono (L.trans s))
           |exc z C=>exact absurd r (RQ _ _ _ _ z C)|bad=>rw[r]at b;exact b.elim
          |_=>exact b.elim
         |_=>rw[E]at a;exact a.elim
       |_=>rw[c]at a;exact a.elim
     ·rw[ao h0]at a;exact a.elim
    |_=>exact a.elim
   |_=>cases w<;>exact a.elim
def JF:ym X xr st Zi:=by
 try simp only[zO]at*
 exactλpins s σ H D I ⟨φ,A,ρ,S,re,h⟩=>h.elim
def zo (a:ym X xr st m1)(d:yZ X xr rest m2):yZ X xr (st::rest) (zm m1 m2):=by
 try simp only[zO]at*
 exact yD.imp (Fq a d) λD σ H ⟨φ,A,ρ,S,re,h⟩=>by
   refine⟨φ,A,ρ,S,re,qw (zW.mp h) (λf A1 a=>?_) λ_ _ z=>z⟩;cases f with
   |nx ρ1=>exactλb e c l s r=>⟨b,A1,ρ1,s,r,qw a (λ_ _ z=>z.mono l) λ_ _ z=>z.mono l⟩|rt w=>exact a|bk ρ1=>exact a|ct ρ1=>exact a
def yc (he:zw X xr e m)(s:swapsWith e none pos.line X.env=pure false:=by rfl):ym X xr (.Expr e pos) (ju m):=by
 try simp only[zO]at*
 exact PS.imp (Eo he s) λD σ H ⟨φ,A,ρ,S,re,h⟩=>tM.go S re (zW.mp h) λw A1 a H1 v b l c q=>b a H1 σ l c (re.mono l)
def jj {iter:Expr}{mi:Ei}{tw:Tg}(hp:PassesOwn (model X.prog X.w) X.A X.env X.xe)(hc:X.calm=true)(hi:yI X xr tg iter mi)(hg:kg X tg tw)(hb:yZ X xr body m1)
  (hs:∀x,foldedSetIterable iter X.env x=pure x:=by intro _;rfl):ym X xr (.For tg iter body [] pos) (qK mi tw m1):=by
 try simp only[zO]at*
 exact PS.imp (CQ hp hc hi hg hb hs) λD σ H ⟨φ,A,ρ,S,re,h⟩=>by
   refine⟨φ,A,ρ,S,re,qw (zW.mp h) (λj A1 h1 g H1 J N S1 jr=>?_) λ_ _ z=>z⟩;refine⟨λi f d C=>OM X.K xr j (turn tw m1) D g H1 f i d C,
    ⟨j.len,g,A1,ρ,.refl,S1,re.mono N,qw h1 (λ_ _ z=>z.mono N) λ_ _ z=>z.mono N⟩,?_⟩
   rintro i f I U ⟨c,A2,p,t,T,q,b⟩
   obtain⟨j1,j2⟩:=jr i c U A2 ⟨t.ex,t.tp,t.fz⟩ T;cases E:j.at_ A2 i with
   |none=>cases f<;>(unfold jF at b;rw[E]at b;exact b.elim)|some o=>
    cases o with
    |none=>
     left
     refine⟨j2 E,?_⟩;cases f<;>(unfold jF at b;rw[E]at b;exact b c U I .refl T q)
    |some w=>
     right
     obtain⟨go,yl⟩:=j1 w E;cases f with
     |zero=>unfold jF at b;rw[E]at b;exact b.elim|succ f=>
      unfold jF at b;rw[E]at b;refine⟨go,λd C=>OM X.K xr j (turn tw m1) D g H1 f (i+1) d C,λd C z=>⟨f,bc _,z⟩,λx H3 y=>?_⟩;obtain⟨L,Q,q3⟩:=yl x H3 y;have u:=zW.mp b;unfold turn at u;cases P:tw w p with
      |none=>rw[P]at u;exact u.elim|some n=>
       rw[P]at u;refine⟨c,A2,p,w,n,Q,q.mono L,q3,P,λZ M=>?_⟩;refine⟨c,A2,n,Q,M,qw u (λfl Y B=>?_) λ_ _ z=>z.mono L⟩;cases fl with
       |nx e=>exactλa v m l s r=>⟨a,Y,e,(t.trans L).trans l,s,r,qw B (λ_ _ z=>z.mono (L.trans l)) λ_ _ z=>z.mono (L.trans l)⟩|ct e=>exactλa v m l s r=>⟨a,Y,e,(t.trans L).trans l,s,r,qw B (λ_ _ z=>z.mono (L.trans l)) λ_ _ z=>z.mono (L.trans l)⟩|bk e=>exactλa v m l s r=>B a v m (L.trans l) s r|rt w4=>exactλa v v4 l s q4=>B a v v4 (L.trans l) s q4
def j0 {sa s:bL}(e:j5 X xr c mc)(g:yZ X xr sa m1)(f:yZ X xr s m2):ym X xr (.If c sa s pos) (qW mc m1 m2):=by
 try simp only[zO]at*
 exact PS.imp (AD e g f) λD σ H ⟨φ,A,ρ,S,re,h⟩=>by
   refine tT.go S re (zW.mp h) λw A1 a=>?_;cases w with
   |bl k=>
    refine⟨k,rfl,λb H1 l d=>?_⟩;cases k with
    |true=>rw[aj rfl];exact⟨b,A1,ρ,d,re.mono l,qw a (λ_ _ z=>z.mono l) λ_ _ z=>z.mono l⟩|false=>rw[ao au];exact⟨b,A1,ρ,d,re.mono l,qw a (λ_ _ z=>z.mono l) λ_ _ z=>z.mono l⟩
   |non=>cases a|int _=>cases a|str _=>cases a|tup _=>cases a|ref _=>cases a|clo _ _ _=>cases a|xc _=>cases a
def zD:yZ X xr [] zu:=by
 try simp only[zO]at*
 exact yD.imp Du λD σ H ⟨φ,A,ρ,S,re,h⟩=>h φ H σ .refl S re
def qa (he:zw X xr e m):ym X xr (.Return (some e) pos) (qi m):=by
 try simp only[zO]at*
 exact PS.imp (Bp he) λD σ H ⟨φ,A,ρ,S,re,h⟩=>tM.go S re (zW.mp h) λw A1 a H1 v b l s q=>b a H1 v l s q
def qu (i:Nat){pos':Pos}(b:X.N.Nodup)(he:zw X xr e m)(a:X.N[i]? =some x:=by rfl)(h:Loc X.env.scope x:=by first|exact Or.inl rfl|exact Or.inr rfl)(H:swapsWith e (some (.Name x pos')) pos.line X.env=pure false:=by rfl)
  (hf:X.fn x=true∨X.env.scope.names.lookup x=some .local:=by first|exact .inl rfl|exact .inr rfl):ym X xr (.Assign [.Name x pos'] e pos) (zR i m):=by
 try simp only[zO]at*
 exact PS.imp (Bv b a h he H hf) zR.read
def gX (i:Nat){iter:Expr}{mi:Ei}{tw:Tg}{m:Ev}{em:Em}{P a:Pos}(nl:Nat)(cap:bA)(j:X.N.Nodup)
  (e:X.calm=true)(S:wO X sc)(p:Ze X.N N sc nl cap=true)(hw:yI X xr tg iter mi)
  (n:∀s H fp,kg (jC X N sc s H fp ye) tg tw/\wt (jC X N sc s H fp ye) ifs m/\k5 (jC X N sc s H fp ye) elt (⟨tg,iter,ifs,0⟩::gs) sc pos 0 em)
  (b:X.N[i]? =some x:=by rfl)(c:X.env.scope.names.lookup x=some .local:=by rfl)
  (w:swapsWith (.ListComp elt (⟨tg,iter,ifs,0⟩::gs) sc pos) (some (.Name x P)) a.line X.env=pure true:=by rfl)
  (f:∀g',gs[0]? =some g'->g'.is_async=0:=by intro _ h;cases h<;>rfl)
  (d:∀x,foldedSetIterable iter X.env x=pure x:=by intro _;rfl):ym X xr (.Assign [.Name x P] (.ListComp elt (⟨tg,iter,ifs,0⟩::gs) sc pos) a) (zR i (jh (zT nl cap mi tw m em))):=by
 try simp only[zO]at*
 exact PS.imp (L2.Ii (g:=tG X.K tw) (ti:=tT X.K ka m) (tm:=tE X.K em) j b c w e S p f hw n d) λD σ H h=>zT.read σ H _ (jh.read σ H _ (zR.read D σ H h))
def Jv (h:kU X xr e m):j5 X xr e m:=by
 try simp only[zO]at*
 exact PW.pt h
def yu {g:W->W->Hx->R W}(h:yX X op g)(c:zw X xr a ma)(H:zw X xr b mb)(e:op≠.In:=by decide)(d:op≠.NotIn:=by decide):j5 X xr (.Compare a [op] [b] pos) (zh g ma mb):=by
 try simp only[zO]at*
 exact let ⟨r,a1,a2,A⟩:=h.ex;RX a1 a2 A c H (h.mks b e d)
def Bl {o:CmpOp}{g g':W->W->Hx->R W}(h:yX X op g)(h':yX X o g')(e:zw X xr a ma)(d:zw X xr b mb)(H:zw X xr c mc)(hm:lastMarks [op,o] [b,c]=false:=by with_unfolding_all rfl):
  j5 X xr (.Compare a [op,o] [b,c] pos) (yQ g g' ma mb mc):=by
 try simp only[zO]at*
 exact let ⟨r,a1,a2,A⟩:=h.ex;let ⟨j,i,f,B⟩:=h'.ex;Hw a1 a2 A i f B e d H hm
def DV {g:W->W->Hx->R W}(h:KD X op g)(c:zw X xr a ma)(H:zw X xr b mb)(hm:behindInMarks op b=false:=by rfl):j5 X xr (.Compare a [op] [b] pos) (zh g ma mb):=by
 try simp only[zO]at*
 exact let ⟨r,a1,a2,A⟩:=h.ex;RX a1 a2 A c H hm
def wb (f:j5 X xr a ma):j5 X xr (.UnaryOp .Not a pos) (jX ma):=by
 try simp only[zO]at*
 exact PT.imp (Bm f) λσ H Q ⟨φ,A,ρ,S,re,h⟩=>by
   refine tT.go S re (zW.mp h) λw A1 c=>?_;cases w with
   |bl k=>obtain⟨b,e,q⟩:=c;cases e;exact⟨k,rfl,λd H1 l s=>q d H1 l s⟩|non=>cases c|int _=>cases c|str _=>cases c|tup _=>cases c|ref _=>cases c|clo _ _ _=>cases c|xc _=>cases c
def km (h:zw X xr e m)(he:∀whole,isTrue e X.env whole=(do let v <- whole;standAt e.pos;holding [v] (truthy v)):=by intro _;rfl):j5 X xr e m:=by
 try simp only[zO]at*
 exact PT.imp (C5 h he) λσ H Q h=>h.toM
def qP:wt X [] (zY (.bl true)):=by
 try simp only[zO]at*
 exactλpins s σ H Q I ⟨φ,A,ρ,S,re,h⟩=>FH pins s σ H Q I (by
  obtain⟨b,e,q⟩:=h;cases e;exact q φ H .refl S)
def GF (h:j5 X ka c mc):wt X [c] mc:=by
 try simp only[zO]at*
 exact HQ h
def Rx {rest:bE}(g:j5 X xr a ma)(f:kU X xr (.BoolOp .And (b::rest) pos) mb):kU X xr (.BoolOp .And (a::b::rest) pos) (jS ma mb):=by
 try simp only[zO]at*
 exact PW.imp (pw_and g f) λσ H Q ⟨φ,A,ρ,S,re,h⟩=>by
   refine tT.go S re (zW.mp h) λw A1 c=>?_;cases w with
   |bl k=>
    refine⟨k,rfl,λd H1 l s=>?_⟩;cases k with
    |true=>rw[aj rfl];exact tT.mono s l re c|false=>rw[ao au];obtain⟨b,e,q⟩:=c;cases e;exact q d H1 l s
   |non=>cases c|int _=>cases c|str _=>cases c|tup _=>cases c|ref _=>cases c|clo _ _ _=>cases c|xc _=>cases c
def Sn (h:j5 X xr a ma):kU X xr (.BoolOp .And [a] pos) ma:=by
 try simp only[zO]at*
 exact pw_and1 h
def G5 {rest:bE}(g:j5 X xr a ma)(f:kU X xr (.BoolOp .Or (b::rest) pos) mb):kU X xr (.BoolOp .Or (a::b::rest) pos) (gK ma mb):=by
 try simp only[zO]at*
 exact PW.imp (pw_or g f) λσ H Q ⟨φ,A,ρ,S,re,h⟩=>by
   refine tT.go S re (zW.mp h) λw A1 c=>?_;cases w with
   |bl k=>
    refine⟨k,rfl,λd H1 l s=>?_⟩;cases k with
    |false=>rw[ao au];exact tT.mono s l re c|true=>rw[aj rfl];obtain⟨b,e,q⟩:=c;cases e;exact q d H1 l s
   |non=>cases c|int _=>cases c|str _=>cases c|tup _=>cases c|ref _=>cases c|clo _ _ _=>cases c|xc _=>cases c
def GQ (h:j5 X xr a ma):kU X xr (.BoolOp .Or [a] pos) ma:=by
 try simp only[zO]at*
 exact pw_or1 h
def qA {K:Frag}{st:Stmt}{f:Addr}{k:Nat}{m:Ex}(F:gh K x x st f fd)(hm:mg x=some (.ref f))(S:qk N ps (z8 st))
  (i:∀(kV doc pm:Value)(an:bK)(c ct:Value)(us:bw),us.length=ps.length->bindArgs (fnOf x x (Qr st) (gr st) (z8 st) .none kV doc pm an c ct) ⟨us,[]⟩=pure (ps.zip us))
  (a:∀(c:Value)(A:Around)(outer:bH)(s:Shared)(H:Hp)(E:XK),jL k (A.deeper (envOfC x (z8 st) s.heap.objs.size f c))->yZ (Zl kT P w K mg base N x (z8 st) f c A outer s H E).nox ka (gr st) m):
  zE P w K mg base (k+1) x ps.length (zU N.length m):=by
 try simp only[zO]at*
 refine⟨f,fd,ps,?_,hm,F.kp,F.binds i⟩;refine F.ok S (λvs H Q E h=>h.len) λc A outer s H vs Q E g ⟨hl,φ,A1,ws,n,r,h⟩=>⟨_,a c A outer s H E g,?_⟩;refine⟨φ,A1,ws.map some++List.replicate (N.length-ws.length) none,n,RE.start r,?_⟩;have h':=zW.mp h;show R.post _ (FB K φ H _) _;cases e:m (ws.map some++List.replicate (N.length-ws.length) none) A1 with
 |ok j A2=>
  rw[e]at h';cases j with
  |rt w=>exact h'|nx ρ=>exactλb p d l o _=>h' b p .non l o rfl|bk ρ=>exact h'.elim|ct ρ=>exact h'.elim
 |exc y A2=>
  rw[e]at h';exact h'.elim
 |bad=>rw[e]at h';exact h'.elim
def cz {K:Frag}{st:Stmt}{f:Addr}{k:Nat}{m:Ex}(F:gh K x x st f fd)(S:qk N ps (z8 st))
  (a:∀(c:Value)(A:Around)(outer:bH)(s:Shared)(H:Hp)(E:XK),jL k (A.deeper (envOfC x (z8 st) s.heap.objs.size f c))->yZ (Zl kT P w K mg base N x (z8 st) f c A outer s H E).nox ka (gr st) m):
  yA P w K mg base kT (k+1) f fd ps (gR K ps.length (zU N.length m)):=by
 try simp only[zO]at*
 refine F.ok S (λvs H Q E h=>h.len) λc A outer s H vs Q E g ⟨hl,φ,A1,ws,j,r,h⟩=>⟨_,a c A outer s H E g,?_⟩;refine⟨φ,A1,ws.map some++List.replicate (N.length-ws.length) none,j,RE.start r,?_⟩;have h':=zW.mp h;show R.post _ (FB K φ H _) _;cases e:m (ws.map some++List.replicate (N.length-ws.length) none) A1 with
 |ok i A2=>
  rw[e]at h';cases i with
  |rt w=>exact h'|nx ρ=>exactλb o d l n _=>h' b o .non l n rfl|bk ρ=>exact h'.elim|ct ρ=>exact h'.elim
 |exc y A2=>rw[e]at h';exact h'.elim|bad=>rw[e]at h';exact h'.elim
def Rk (hm:X.mg "abs"=none)(a:zw X xr e m)(h:Gl X "abs":=by rfl)(he:starEach [e] X.env=(false,eval e X.env)::starEach [] X.env:=by rfl):zw X xr (.Call (.Name "abs" p) [e] [] pos) (jH J6 m):=by
 try simp only[zO]at*
 exact BX HN (λw A=>by unfold J6;split;exact jB;exact qM) (λφ A H x u Q S q p=>by
   cases u with
   |int i=>obtain rfl:=q;exact⟨i,rfl,p φ H _ .refl S rfl⟩|_=>exact p.elim) hm (by rfl) a h (by decide) (by decide) he (by rfl)
def wK (ho:zw X xr a ma)(he:zw X xr b mb)(s:starEach [b] X.env=(false,eval b X.env)::starEach [] X.env:=by rfl)
  (e:attributeBase a "append" X.env (eval a X.env)=eval a X.env:=by rfl)
  (w:((backTo cpos (starEach [b] X.env)).all (λx=>!x.1)&&(backToKw cpos (keywordEach [] X.env)).all (λx=>x.1.isSome)
   && decide ([b].length+([]:bJ).length+(if ([]:bJ).isEmpty then 0 else 1)<30))=true:=by rfl)(h:(apos.endLine==cpos.line)=true:=by rfl):
  zw X xr (.Call (.Attribute a "append" apos) [b] [] cpos) (jQ yi ma mb):=by
 try simp only[zO]at*
 exact Kr PySem.F.slot_list_append PySem.F.type_list_append TR Hq (λφ A H x y u v Q S g q p=>by
   unfold yi at p;cases u with
   |ref n=>
    dsimp only at p;cases E:A[n]? with
    |none=>rw[E]at p;exact p.elim|some o=>cases o with
     |lst ws=>
      rw[E]at p;dsimp only at p
      by_cases c:ws.length<qd
      ·rw[aj c]at p
       obtain⟨l,vs,rfl,f1,g1,r⟩:=S.lst g E;refine⟨l,vs,y,rfl,rfl,g1,?_,?_⟩
       ·rw[<- r.length]
        have:sizeLine=16777216:=sizeLine_eq
        unfold qd at c;omega
       ·have ln:Le X.K φ H φ (upd H l (.lst (vs++[y]))):=Le.upd f1 (λxs z=>by rw[g1]at z;cases z) (λ_ _ z=>by rw[g1]at z;cases z)
        obtain⟨f,d⟩:=S.write (o:=.lst ws) (o':=.lst (ws++[v])) E rfl rfl f1 ⟨_,j6,(r.mono ln).append (.one (q.mono ln))⟩;exact p _ _ _ f d rfl
      ·rw[ao c]at p;exact p.elim
     |_=>rw[E]at p;exact p.elim
   |_=>exact p.elim) ho he s e w h
def Jp (hm:X.mg "int"=none)(a:zw X xr e m)(h:Gl X "int":=by rfl)(he:starEach [e] X.env=(false,eval e X.env)::starEach [] X.env:=by rfl):zw X xr (.Call (.Name "int" p) [e] [] pos) (jH Zk m):=by
 try simp only[zO]at*
 exact DQ Im (λw A=>by unfold Zk;split;exact jB;exact jB;exact qM) (λφ A H x u Q S q p=>by
   cases u with
   |int i=>obtain rfl:=q;exact .inl ⟨i,rfl,p φ H _ .refl S rfl⟩|bl k=>obtain rfl:=q;exact .inr ⟨k,rfl,p φ H _ .refl S rfl⟩|_=>exact p.elim) hm (by rfl) a h (by decide) (by decide) he (by rfl)
def F4 (e:X.calm=true)(hm:X.mg "max"=none)(n:zw X xr a ma)(m:zw X xr b mb)(l:Gl X "max":=by rfl)(r:starEach [a,b] X.env=(false,eval a X.env)::starEach [b] X.env:=by rfl)(o:starEach [b] X.env=(false,eval b X.env)::starEach [] X.env:=by rfl)(h:(backTo pos (starEach [b] X.env)).any (·.1)=false:=by rfl):
  zw X xr (.Call (.Name "max" p) [a,b] [] pos) (zh Xt ma mb):=by
 try simp only[zO]at*
 exact Px (Il e) gA (λφ A H x y u v Q S d c p=>by
   obtain⟨i,j,s,E,q⟩:=gw (K:=X.K) (f:=λi j=>.int (if j > i then j else i)) (g:=λi j=>.int (if j > i then j else i)) (λ_ _ _ _=>rfl) φ A H x y u v Q S d c p;subst s;subst E;exact⟨i,j,rfl,q⟩) hm (by rfl) n m l (by decide) (by decide) r o h
def IC (ho:zw X xr a ma)(he:zw X xr b mb)(t:starEach [b] X.env=(false,eval b X.env)::starEach [] X.env:=by rfl)
  (e:attributeBase a "pop" X.env (eval a X.env)=eval a X.env:=by rfl)
  (c:((backTo cpos (starEach [b] X.env)).all (λx=>!x.1)&&(backToKw cpos (keywordEach [] X.env)).all (λx=>x.1.isSome)
   && decide ([b].length+([]:bJ).length+(if ([]:bJ).isEmpty then 0 else 1)<30))=true:=by rfl)(h:(apos.endLine==cpos.line)=true:=by rfl):
  zw X xr (.Call (.Attribute a "pop" apos) [b] [] cpos) (jQ wd ma mb):=by
 try simp only[zO]at*
 exact Kr PySem.F.slot_list_pop PySem.F.type_list_pop FG FA (λφ A H x y u v Q S s q p=>by
   unfold wd at p;cases u with
   |ref n=>cases v with
    |int i=>
     obtain rfl:=q;dsimp only at p;cases E:A[n]? with
     |none=>rw[E]at p;exact p.elim|some o=>cases o with
      |lst ws=>
       rw[E]at p;dsimp only at p
       by_cases d:jy i=true
       ·rw[aj d]at p
        obtain⟨I,D⟩:=gZ d;cases g:seqIndex? i ws.length with
        |none=>rw[g]at p;exact p.elim|some k=>
         rw[g]at p;dsimp only at p;cases f:ws[k]? with
         |none=>rw[f]at p;exact p.elim|some w=>
          rw[f]at p;obtain⟨l,vs,rfl,f1,g1,r⟩:=S.lst s E;obtain⟨y,C,B⟩:=r.get f;have ln:Le X.K φ H φ (upd H l (.lst (vs.eraseIdx k))):=Le.upd f1 (λxs z=>by rw[g1]at z;cases z) (λ_ _ z=>by rw[g1]at z;cases z)
          obtain⟨j,m⟩:=S.write (o:=.lst ws) (o':=.lst (ws.eraseIdx k)) E rfl rfl f1 ⟨_,j6,(r.erase k).mono ln⟩;exact⟨l,vs,i,k,y,rfl,rfl,g1,by omega,by omega,by rw[<- r.length];exact g,C,p _ _ _ j m (B.mono j)⟩
       ·rw[ao d]at p;exact p.elim
      |_=>rw[E]at p;exact p.elim
    |_=>exact p.elim
   |_=>cases v<;>exact p.elim) ho he t e c h
def YT (H:zw X xr a ma)(h:zw X xr b mb):zw X xr (.BinOp a .Pow b pos) (zh QI ma mb):=by
 try simp only[zO]at*
 exact we Cv JT (JN RD λ_ _ _ _=>rfl) H h
def Rj (H:zw X xr a ma)(h:zw X xr b mb):zw X xr (.BinOp a .BitXor b pos) (zh XN ma mb):=by
 try simp only[zO]at*
 exact we Cd gA (gw λ_ _ _ _=>rfl) H h
def S6 {o i:Expr}{mo mi:Ev}(he:zw X xr e m)(ho:zw X xr o mo)(H:zw X xr i mi)
  (h:swapsWithSole [.Subscript o i tpos] e pos.line X.env=pure false:=by rfl)(hw:swappedStores [.Subscript o i tpos] e X.env=pure none:=by rfl)
  (b:(assignEach [.Subscript o i tpos] X.env).map (·.2)=[assign (.Subscript o i tpos) X.env]:=by rfl)
  (a:∀v,assign (.Subscript o i tpos) X.env v=(do
   let ov <- holding [v] (eval o X.env)
   let iv <- holding [v,ov] (eval i X.env)
   standAt tpos
   holding [v,ov,iv] (setItem ov iv v)
   release [v,ov,iv] []):=by intro _;rfl):ym X xr (.Assign [.Subscript o i tpos] e pos) (Qy kB m mo mi):=by
 try simp only[zO]at*
 exact Fo set_list RQ Rw he ho H h hw b a
def GA (f:Nat)(B:PassesOwn (model X.prog X.w) X.A X.env X.xe)(C:j5 X xr c mc)(E:yZ X xr body m1):ym X xr (.While c body [] pos) (Y9 f mc m1):=by
 try simp only[zO]at*
 exact PS.imp (FX B C E) λD σ H ⟨φ,A,ρ,S,re,h⟩=>by
   refine⟨λf g e=>∃a A2 d,Le X.K φ H a e/\zL X.K a A2 e/\RE X.K a e d g/\(wq mc m1 f d A2).post (FB X.K a e D) (EB X.K a e xr),⟨f,φ,A,ρ,.refl,S,re,h⟩,?_⟩
   rintro f t T ⟨a,A2,d,v,J,n,u⟩
   cases f with
   |zero=>exact u.elim|succ f=>
    unfold wq at u;refine tT.go J n (zW.mp u) λw N j=>?_;cases w with
    |bl k=>
     refine⟨k,rfl,λo M l x=>?_⟩;cases k with
     |true=>
      rw[aj rfl];refine⟨λg e=>∃a A2 d,Le X.K φ H a e/\zL X.K a A2 e/\RE X.K a e d g/\(wq mc m1 f d A2).post (FB X.K a e D) (EB X.K a e xr),λg e z=>⟨f,bc _,z⟩,?_⟩;refine⟨o,N,d,x,n.mono l,qw (zW.mp j) (λI y q=>?_) λ_ _ z=>z.mono l⟩;cases I with
      |nx i=>exactλb p m L s r=>⟨b,y,i,(v.trans l).trans L,s,r,qw q (λ_ _ z=>z.mono (l.trans L)) λ_ _ z=>z.mono (l.trans L)⟩|ct i=>exactλb p m L s r=>⟨b,y,i,(v.trans l).trans L,s,r,qw q (λ_ _ z=>z.mono (l.trans L)) λ_ _ z=>z.mono (l.trans L)⟩|bk i=>exactλb p m L s r=>q b p m (l.trans L) s r|rt P=>exactλb p v4 L s Q=>q b p v4 (l.trans L) s Q
     |false=>
      rw[ao au];exact j o M t l x (n.mono l)
    |non=>cases j|int _=>cases j|str _=>cases j|tup _=>cases j|ref _=>cases j|clo _ _ _=>cases j|xc _=>cases j
end
end Mi
variable {mi:Mi.Ei}{em:Mi.Em}{ρ:Mi.En}{m me:Mi.Ev}{A A1:Mi.Hx}{ws:List Mi.W}{tw:Mi.Tg}{g:Mi.W->Mi.W->Mi.Hx->Mi.R Mi.W}{xr:Mi.XR}{j:Mi.ja}{q:Mi.jv}
set_option maxHeartbeats 4000000
namespace Mi
open PySem L2
section
variable {ρ1:En}{A2:Hx}{w x y:W}{ma mb mc:Ev}{m1 m2:Ex}{f:Fn}
def zx (h:ρ[i]? =some (some w)):zX i ρ A=.ok w A:=by unfold zX;rw[h]
def qY:zY w ρ A=.ok w A:=rfl
def qb (H:ma ρ A=.ok x A1)(h:mb ρ A1=.ok y A2):zh g ma mb ρ A=g x y A2:=by unfold zh;rw[H,zK,h,zK]
def RR {g:W->Hx->R W}(h:ma ρ A=.ok x A1):jH g ma ρ A=g x A1:=by unfold jH;rw[h,zK]
def JB {k:Bool}(h:ma ρ A=.ok (.bl k) A1):jX ma ρ A=.ok (.bl (!k)) A1:=by unfold jX;rw[h,zK]
def Qs (h:ma ρ A=.ok (.bl true) A1):jS ma mb ρ A=mb ρ A1:=by unfold jS;rw[h,zK]
def R8 (h:ma ρ A=.ok (.bl false) A1):jS ma mb ρ A=.ok (.bl false) A1:=by unfold jS;rw[h,zK]
def XG (h:ma ρ A=.ok (.bl false) A1):gK ma mb ρ A=mb ρ A1:=by unfold gK;rw[h,zK]
def jd {a:Ea}(h:a ρ A=.ok ws A1):zy f a ρ A=f ws A1:=by unfold zy;rw[h,zK]
def qZ:zr ρ A=.ok [] A:=rfl
def qf {r:Ea}(H:ma ρ A=.ok x A1)(h:r ρ A1=.ok ws A2):zi ma r ρ A=.ok (x::ws) A2:=by unfold zi;rw[H,zK,h,zK]
def Y6 {a:Ea}(h:a ρ A=.ok ws A1):ji a ρ A=.ok (.tup ws) A1:=by unfold ji;rw[h,zK]
def wN {a:Ea}(h:a ρ A=.ok ws A1):jt a ρ A=.ok (.ref A1.length) (A1++[.lst ws]):=by unfold jt;rw[h,zK]
def qc (h:m1 ρ A=.ok (.nx ρ1) A1):zm m1 m2 ρ A=m2 ρ1 A1:=by unfold zm;rw[h,zK]
def qX (h:m1 ρ A=.ok (.rt w) A1):zm m1 m2 ρ A=.ok (.rt w) A1:=by unfold zm;rw[h,zK]
def yE:zu ρ A=.ok (.nx ρ) A:=rfl
def jq (h:m ρ A=.ok w A1):zR i m ρ A=.ok (.nx (ρ.set i (some w))) A1:=by unfold zR;rw[h,zK]
def G3 (h:m ρ A=.ok w A1):ju m ρ A=.ok (.nx ρ) A1:=by unfold ju;rw[h,zK]
def jI (h:m ρ A=.ok w A1):qi m ρ A=.ok (.rt w) A1:=by unfold qi;rw[h,zK]
def JZ (h:mc ρ A=.ok (.bl true) A1):qW mc m1 m2 ρ A=m1 ρ A1:=by unfold qW;rw[h,zK]
def wj (h:mc ρ A=.ok (.bl false) A1):qW mc m1 m2 ρ A=m2 ρ A1:=by unfold qW;rw[h,zK]
def yP (h:mi ρ A=.ok j A1):qK mi tw m1 ρ A=jF j (turn tw m1) j.len 0 ρ A1:=by unfold qK;rw[h,zK]
def kL (h:tw w ρ=some ρ1):turn tw m1 w ρ A=m1 ρ1 A:=by unfold turn;rw[h]
def Gp {st:W->Ex}(h:j.at_ A i=some none):jF j st n i ρ A=.ok (.nx ρ) A:=by
 cases n with
 |zero=>unfold jF;rw[h]|succ n=>unfold jF;rw[h]
def YI {st:W->Ex}(h:j.at_ A i=some (some w))(H:st w ρ A=.ok (.nx ρ1) A1):jF j st (n+1) i ρ A=jF j st n (i+1) ρ1 A1:=by
 rw[jF,h];dsimp only;rw[H,zK]
def ZE {k:Int}(h:m ρ A=.ok (.int k) A1)(H:jy k=true):jc m ρ A=.ok (kx 0 k.toNat) A1:=by unfold jc;rw[h,zK];dsimp only;rw[aj H]
def ZM {lo:Int}{k:Nat}(h:i<k):(kx lo k).at_ A i=some (some (.int (lo+i))):=by unfold kx;dsimp only;rw[aj h]
def ZG {lo:Int}{k:Nat}(h:¬i<k):(kx lo k).at_ A i=some none:=by unfold kx;dsimp only;rw[ao h]
def jo (h:m1 (ws.map some++List.replicate (n-ws.length) none) A=.ok (.rt w) A1):zU n m1 ws A=.ok w A1:=by unfold zU;rw[h];rfl
def Rp (h:m1 (ws.map some++List.replicate (n-ws.length) none) A=.ok (.nx ρ) A1):zU n m1 ws A=.ok .non A1:=by unfold zU;rw[h];rfl
def ZO {w:W}(hn:qG ws=true)(hw:w.nr=true)(h:f ws []=.ok w A1):iso f ws A=.ok w A:=by
 unfold iso;rw[aj hn,h];cases w with
 |ref k=>cases hw|_=>dsimp only;rw[aj hw]
end
end Mi
set_option maxHeartbeats 4000000
namespace Mi
open PySem L2
def FJ {ifs:Ev}{c:En}{N:Nat}{item g:Nat->W}{keep:Nat->Bool}(t:∀i,i<N->j.at_ A i=some (some (item i)))(d:j.at_ A N=some none)
  (b:∀i,i<N->ifs (some (item i)::c) A=.ok (.bl (keep i)) A)(he:∀i,i<N->keep i=true->me (some (item i)::c) A=.ok (g i) A):
  ∀(n i:Nat)(x:Option W)(acc:List W),i+n=N->acc.length+n<=qd->∃y,qV j (zI 0) ifs (zQ me) n i (x::c) acc A=.ok (y::c,acc++((List.range' i n).filter keep).map g) A:=by
 intro n
 induction n with
 |zero=>
  intro i x acc h _
  have:i=N:=by omega
  subst this;refine⟨x,?_⟩;unfold qV;rw[d];simp
 |succ n I=>
  intro i x acc h hl;have H:i<N:=by omega
  rw[qV,t i H];dsimp only[zI,List.set];rw[b i H,zK];rw[range'_succ];cases a:keep i with
  |true=>
   dsimp only;obtain⟨y,e⟩:=I (i+1) (some (item i)) (acc++[g i]) (by omega) (by rw[aA,aV];omega)
   refine⟨y,?_⟩;have E:zQ me (some (item i)::c) acc A=.ok (some (item i)::c,acc++[g i]) A:=by
    unfold zQ;rw[he i H a,zK,aj (by omega)]
   rw[E,zK];dsimp only;rw[e,List.filter_cons_of_pos a,aS,aP]
   rfl
  |false=>
   dsimp only;obtain⟨y,e⟩:=I (i+1) (some (item i)) acc (by omega) (by omega)
   exact⟨y,by rw[e,List.filter_cons_of_neg (by rw[a];exact au)]⟩
def Ih {ifs:Ev}{N:Nat}{item g:Nat->W}{keep:Nat->Bool}(hm:mi ρ A=.ok j A)(a:j.len=N)(d:N<=qd)
  (H:∀i,i<N->j.at_ A i=some (some (item i)))(h:j.at_ A N=some none)(b:∀i,i<N->ifs (some (item i)::cap.map λi=>(ρ[i]?).join) A=.ok (.bl (keep i)) A)
  (he:∀i,i<N->keep i=true->me (some (item i)::cap.map λi=>(ρ[i]?).join) A=.ok (g i) A):
  zT 1 cap mi (zI 0) ifs (zQ me) ρ A=.ok (((List.range N).filter keep).map g) A:=by
 obtain⟨y,e⟩:=FJ H h b he N 0 none [] (zero_add N) (by simpa using d)
 unfold zT;rw[hm,zK,a];have c:Zd 1 cap ρ=none::cap.map λi=>(ρ[i]?).join:=rfl;rw[c,e,bb,<- range_eq_range']
 rfl
def gY {N:Nat}{item g:Nat->W}(hm:mi ρ A=.ok j A)(a:j.len=N)(c:N<=qd)
  (t:∀i,i<N->j.at_ A i=some (some (item i)))(H:j.at_ A N=some none)(he:∀i,i<N->me (some (item i)::cap.map λi=>(ρ[i]?).join) A=.ok (g i) A):
  zT 1 cap mi (zI 0) (zY (.bl true)) (zQ me) ρ A=.ok ((List.range N).map g) A:=by
 have h:=Ih (ifs:=zY (.bl true)) (keep:=λ_=>true) hm a c t H (λ_ _=>rfl) λi b _=>he i b;have f:(List.range N).filter (λ_=>true)=List.range N:=List.filter_eq_self.mpr λ_ _=>rfl;rw[f]at h;exact h
def yt {g:List W->Hx->R W}(h:q ρ A=.ok ws A1):mQ g q ρ A=g ws A1:=by unfold mQ;rw[h,zK]
def wM (h:q ρ A=.ok ws A1):jh q ρ A=.ok (.ref A1.length) (A1++[.lst ws]):=by unfold jh;rw[h,zK]
def yV {w:W}(h:m ρ A=.ok w A1)(H:z7 w A1=some ws):zP m ρ A=.ok ws A1:=by unfold zP;rw[h,zK,H]
open PySem PySem.Spec PyProof.Rows L2
noncomputable def mJ:List Ev->Str->Ev
 |[],acc=>λ_ A=>.ok (.str acc) A|m::ms,acc=>λρ A=>(m ρ A).bind λw A1=>match w with
  |.str y=>if (acc++y).length<=sizeLine then mJ ms (acc++y) ρ A1 else .bad|_=>.bad
section
variable {es:bE}{ms:List Ev}
inductive SJ (X:Cx)(xr:XR):List Expr->List Ev->Prop where
 |nil:SJ X xr [] []
 |cons {e:Expr} {es:bE} {m:Ev} {ms:List Ev} (h:SE X xr e m) (r:SJ X xr es ms):SJ X xr (e::es) (m::ms)
end
open PySem PySem.W PySem.Spec PySem.Calls PyProof.Rows Builtin Builtin.ObjectAttr Builtin.Getset_descriptor
section
variable {ma mb:Ev}
noncomputable def J5 (m:Ev)(tw:Tg):Ex:=λρ A=>(m ρ A).bind λw A1=>match tw w ρ with
 |some a=>.ok (.nx a) A1|none=>.bad
noncomputable def kQ (i j:Nat)(ma m:Ev):Ex:=λρ A=>(ma ρ A).bind λx A1=>(m ρ A1).bind λy A2=>.ok (.nx ((ρ.set i (some x)).set j (some y))) A2
end
open Classical in
def Jy:W->W->Hx->R W:=λx y A=>match x,y with
 |.ref n,.ref k=>match A[n]?,A[k]? with
  |some (.lst ws),some (.lst us)=>if ws.length+us.length<=qd then .ok .non (A.set n (.lst (ws++us))) else .bad|_,_=>.bad
 |_,_=>.bad
def ID:∀x y A,qE (Jy x y A):=λx y A=>by
 unfold Jy
 split
 ·split
  ·exact wQ jB qM
  ·exact qM
 ·exact qM
section
variable {prog:Program}{A:Around}
noncomputable abbrev wm (led:Bool):Obj:={ cls:=.type "set",dict:=none,data:=.set #[] 0 (.fresh 0 0 led) }
noncomputable abbrev gE (ns:bt)(k:Nat):bt:=firstMet (λi=>ns.getD i 0) k
def M0 {led:Bool}{t:Addr}(y:A.handled=none)(u:s.heap.IsTuple t its.toArray)(r:IntsAre its ns)(B:its.length+1<scanBound)
  (h:∀(h':Heap)(l:Nat),h'.SetOf (intKind prog w) s.heap.objs.size (λk=>(gE ns its.length).any (·==k)) (gE ns its.length).length->
   (∀b o,b<s.heap.objs.size->s.heap.get? b=some o->h'.get? b=some o)->Q .none { s with heap:=h',toks:=l }):
  codeAny (model prog w) A (.call (.builtin "set.__init__") ⟨[.ref s.heap.objs.size,.ref t],[]⟩) (wants Q E) { s with heap:=s.heap.push (wm led) }:=by
 have g:(s.heap.push (wm led)).get? s.heap.objs.size=some (wm led):=av _ rfl;refine codeAny_call_builtin F.called_set.init.plain F.entry_set_init (check_set_init_1 ⟨_,g,rfl⟩ ?_);obtain⟨ob,f,d,n,H⟩:=u;obtain⟨L,K,q,p⟩:=ob;dsimp only at d H;cases d;cases H;have g1:=ae (wm led) f;have n1:=F.sub_tuple_set;have N:=F.sub_tuple_frozenset;have n3:(Value.type "tuple" == Value.type "dict")=false:=by decide
 have j:(s.heap.push (wm led)).IsTuple t its.toArray:=⟨_,g1,rfl,n,rfl⟩;unfold Builtin.«set.__init__» noKeywords Builtin.Frozenset.updateFrom;generalize x:pyIter=PI
 wp_walk
 subst x;refine wpAny_pyIter_tuple j (bM (wpAny_runValue ?_));have lt:t<s.heap.objs.size:=aF f;have sz:(s.heap.push (wm led)).objs.size=s.heap.objs.size+1:=a8 ..;have ne:t≠(s.heap.push (wm led)).objs.size:=by rw[sz];exact aO (a5 lt)
 have W:=(Walks.tuple (prog:=prog) (w:=w) (A:=A.in1.in1) (by simp[y]) (s.heap.push (wm led)).objs.size t ne its.toArray).toS
 have c:its.toArray.size=its.length:=aq;rw[c]at W;have off:s.heap.objs.size∉[(s.heap.push (wm led)).objs.size,t]:=by
  rw[sz];intro hm;rcases bQ.mp hm with z|hm
  ·exact aO (bc _) z
  ·exact ne_of_gt lt (bS.mp hm)
 refine codeAny_set_update_loopS W s.heap.objs.size off (λi=>ns.getD i 0) (λi v e=>IntsAre.int_at r i v (by simpa using e)) B its.length 0 _ rfl (zero_le _) ⟨⟨_,av _ rfl,rfl,rfl⟩,j.push _⟩ ?_ ?_
 ·exact SetOf_congr ((setObjOf_fresh (knd:=intKind prog w) led).setOf (ae _ g) (by unfold scanBound;omega)) (λ_=>rfl) rfl
 ·intro S m J
  obtain⟨h',g',d',T,a⟩:=S;have I:g'=s.gens:=m.gens;have D:d'=s.drawn:=m.drawn;have C:a=s.os:=m.os;subst I D C;refine bN ?_;show wpAny _ _ (ret Value.none) _ _ _;refine bN (h h' T J λb o lb e=>m.heap b o (λhm=>?_) (ae _ (ae _ e)));rcases bQ.mp hm with z|hm
  ·exact aO lb z
  ·exact aO (a5 lb) ((bS.mp hm).trans sz)
def M9 {t:Addr}(m:A.handled=none)(l:s.heap.IsTuple t its.toArray)(j:IntsAre its ns)(n:its.length+1<scanBound)
  (h:∀(h':Heap)(a:Nat),h'.SetOf (intKind prog w) s.heap.objs.size (λk=>(gE ns its.length).any (·==k)) (gE ns its.length).length->
   (∀b o,b<s.heap.objs.size->s.heap.get? b=some o->h'.get? b=some o)->Q (.ref s.heap.objs.size) { s with heap:=h',toks:=a }):
  wpAny (model prog w) A (call (.type "set") [.ref t]) Q E s:=by
 obtain⟨c,q,g⟩:=F.called_set.mro;have a1:=F.called_set.made;have a2:=F.called_set.sub;have C:=F.called_set.notType;have z:=F.called_set.canCreate;have y:=F.typeCall_set_1 (.ref t);refine wpAny_call (codeAny_of_tree ?_);show wpAny _ _ (callAny (.type "set") _) _ _ _;refine bN ⟨Code.quiet_builtin _ (by decide +kernel),codeAny_builtin F.entry_type_call ?_⟩
 rw[Around.under_plain (weight_type_call_type "set" [.ref t] []) rfl]
 repeat (any_goals (first|assumption|wp_step))
 refine codeAny_mono (code_set_new_1 (.ref t) (E:=E) (Q₁:=λu s1=>∃led,u=.ref s.heap.objs.size/\s1={ s with heap:=s.heap.push (wm led) }) λled=>⟨led,rfl,rfl⟩) λr s1 d=>?_
 cases r with
 |error e=>exact d|ok p=>
  cases p with
  |ret u=>
   obtain⟨led,rfl,rfl⟩:=d;have T:Shared.TypeIs { s with heap:=s.heap.push (wm led) } (.ref s.heap.objs.size) "set":=⟨_,av _ rfl,rfl⟩
   have x:=F.called_set.init.lookup;have B:=F.called_set.init.bind (.ref s.heap.objs.size)
   repeat (any_goals (first|assumption|wp_step))
   refine codeAny_mono (M0 (E:=E) (Q:=λv s2=>v=.none/\∃h' a,s2={ s with heap:=h',toks:=a }/\h'.SetOf (intKind prog w) s.heap.objs.size (λk=>(gE ns its.length).any (·==k)) (gE ns its.length).length/\
    ∀b o,b<s.heap.objs.size->s.heap.get? b=some o->h'.get? b=some o) (by simp[m]) l j n λh' a S K=>⟨rfl,h',a,rfl,S,K⟩) λi s2 H=>?_
   cases i with
   |error e=>exact H|ok f=>
    cases f with
    |ret v=>
     obtain⟨rfl,h',a,rfl,S,K⟩:=H
     repeat (any_goals (first|assumption|wp_step))
     exact h _ _ S K
    |_=>exact H.elim
  |_=>exact d.elim
end
def intsAre_of:∀{ns:bt}{i:bw},Vals (ns.map V.int) i->IntsAre i ns:=by
 intro ns
 induction ns with
 |nil=>intro i h;cases h;exact .nil|cons n ns I=>
  intro i h;cases h with
  |cons r t=>obtain⟨T,rfl⟩:=r;exact .cons n T (I t)
section
abbrev PU (ns:bt):HO:=.set (λk=>(gE ns ns.length).any (·==k)) (gE ns ns.length).length
def B3 (K:Frag):List V->Hp->VK->Prop:=λxs H Q=>∃p ns,xs=[.ref p]/\qm K H p (ns.map V.int)/\ns.length<=100/\∀l,H l=none->Q (.ref l) (upd H l (PU ns))
def II (d:X.calm=true):j9 X (.type "set") (B3 X.K):=by
 intro pins s σ H xs us Q I r h;obtain⟨p,ns,rfl,c,z,q⟩:=h;obtain⟨u,rfl,a⟩:=vals1 r;cases a;obtain⟨i,v,P,_⟩:=I.tuple c;have hlen:i.length=ns.length:=by have:=v.length;rw[ai]at this;omega
 refine M9 (I.ok.hd d) P (intsAre_of v) (by unfold scanBound;omega) λh' t S kp=>?_
 rw[hlen]at S;exact⟨.ref s.heap.objs.size,_,I.laid (t':=t) (o:=PU ns) (λb o e=>kp b o (aF e) e) (ak _) S,rfl,q _ (I.hok.fresh (ak _))⟩
def IM:j9 X (.builtin "len") (λxs H Q=>∃p S n,xs=[.ref p]/\H p=some (.set S n)/\n<=100/\Q (.int n) H):=by
 intro pins s σ H xs us Q I r h;obtain⟨p,S,n,rfl,b,z,q⟩:=h;obtain⟨u,rfl,a⟩:=vals1 r;cases a;obtain⟨o,e,E,t,ho,ex,hd,_,_,_,hf,hn⟩:=(show jA X.prog X.w H s.heap p (.set S n) from I.hok p _ b)
 subst hn;exact call_len_set ho ex hd hf (by omega) ⟨.int e.size,H,I.tok _,⟨_,rfl⟩,q⟩
def RA:W->Hx->R W:=λw A=>match w with
 |.tup ws=>match intsOf ws with
  |some ns=>if ns.length<=100 then .ok (.int (gE ns ns.length).length) A else .bad|none=>.bad
 |_=>.bad
def Rg (m:Ev):Ev:=λρ A=>(m ρ A).bind λw A1=>RA w A1
end
section
def J7:=wB KL λi j=>.int (i * 2 ^ j.toNat)
end
def Ww:fillsNumberSlot (.type "tuple") "mul"=pure false:=
 PySem.fillsNumberSlot_seq (id := "tuple.__mul__") (r:=some (.builtin "tuple.__rmul__")) F.slot_tuple_mul.lookup (by decide +kernel) F.slot_tuple_rmul.lookup (by decide +kernel)
def W6:seqRepeat? (.type "tuple")=pure (some (.builtin "tuple.__mul__")):=by
 unfold seqRepeat?;rw[PySem.seqSlot_of (T := "tuple") (name := "__mul__") (id := "tuple.__mul__") F.slot_tuple_mul.lookup (by decide +kernel),PySem.seqSlot_of (T := "tuple") (name := "__rmul__") (id := "tuple.__rmul__") F.slot_tuple_rmul.lookup (by decide +kernel)]
 rfl
def Gb (a:Int)(t:Tok)(l:Addr)(o:bK)(items:Array Value)(n:Nat)(sl:Array (bB)):
  Meets (Builtin.«int.__rmul__» ⟨[.int a t,.ref l],[]⟩) (λ_ R s=>s.heap.get? l=some ⟨.type "tuple",o,.seq items n,sl⟩/\R (.ok (.ret Value.notImplemented)) s):=
 .of_wp λprog w A R s h=>by
  obtain⟨H,g,d,T,os⟩:=s;obtain⟨hl,h⟩:=h
  wp_walk
  exact⟨_,rfl,h⟩
def I9 (k:Int)(t:Tok)(l:Addr)(o:bK)(items:Array Value)(n:Nat)(sl:Array (bB))(f:2<=k)(c:k<1000)(i:0<items.size)(z:items.size<1000):
  Meets (Builtin.«tuple.__mul__» ⟨[.ref l,.int k t],[]⟩) (λ_ R s=>s.heap.get? l=some ⟨.type "tuple",o,.seq items n,sl⟩/\R (.ok (.ret (.ref s.heap.objs.size))) { s with heap:=s.heap.push { cls:=.type "tuple",data:=.seq ((List.replicate k.toNat items).foldl (·++·) #[]) } }):=
 .of_wp λprog w A R s h=>by
  obtain⟨p,g,d,T,os⟩:=s;obtain⟨hl,h⟩:=h;have r:items.isEmpty=false:=by
   cases he:items.isEmpty with
   |false=>rfl|true=>rw[Array.isEmpty_iff_size_eq_zero]at he;omega
  have q:(k==1)=false:=by rw[beq_eq_false_iff_ne];omega
  have b:(decide (k < -2 ^ 63) || decide (k ≥ 2 ^ 63))=false:=by
   rw[Bool.or_eq_false_iff,decide_eq_false_iff_not,decide_eq_false_iff_not];omega
  have j:decide (k<=0)=false:=by rw[decide_eq_false_iff_not];omega
  have hm:(items.size:Int) * k<=1000 * 1000:=Int.mul_le_mul (by omega) (by omega) (by omega) (by omega)
  have a:¬(items.size:Int) * k > (2 ^ 63-1)/8:=by omega
  have E:Builtin.Tuple.tupleTooMany ((items.size:Int) * k)=false:=by
   unfold Builtin.Tuple.tupleTooMany
   have:sizeLine=16777216:=sizeLine_eq
   rw[decide_eq_false_iff_not];omega
  wp_walk
  rw[b];rw[ao (by decide)]
  dsimp only
  wp_walk
  rw[ao a,E,ao (by decide)]
  have H:(List.foldl (λx1 x2=>x1++x2) #[] (List.replicate k.toNat items)).size<=sizeLine:=by
   have hf:=foldl_rep items.toList k.toNat [];rw[bb]at hf;have e:items.toList.toArray=items:=by simp
   rw[e]at hf;rw[hf,aq,len_rep]
   have:sizeLine=16777216:=sizeLine_eq
   have:k.toNat * items.toList.length<=1000 * 1000:=mul_le_mul (by omega) (by rw[length_toList];omega)
   omega
  refine bM (m:=Builtin.Tuple.tupleExact _) (wpAny_newObj_type ?_ H);exact bN ⟨_,rfl,h⟩
section
variable {K:Frag}{b:Expr}
def XC (K:Frag):R2:=λx y H Q=>∃l k xs,x=.ref l/\y=.int k/\qm K H l xs/\2<=k/\k<1000/\0<xs.length/\xs.length<1000/\
 ∀p,H p=none->Q (.ref p) (upd H p (.tup (List.replicate k.toNat xs).flatten))
def DG:qB X (binaryOp .Mult) (XC X.K):=by
 intro pins s σ H x y v u Q I e a h;obtain⟨l,k,xs,rfl,rfl,f,j,g,A,z,q⟩:=h;cases e;obtain⟨t,rfl⟩:=a;obtain⟨i,r,p,_⟩:=I.tuple f;obtain⟨⟨cls,d,data,sl⟩,ho,c,n,hd⟩:=id p;simp only at c hd;subst c hd;have w:List.foldl (λx1 x2=>x1++x2) #[] (List.replicate k.toNat i.toArray)=(List.replicate k.toNat i).flatten.toArray:=by
  have:=foldl_rep i k.toNat []
  rw[bb]at this;exact this
 have hlen:=r.length;refine wpAny_binaryOp_repeat_ref (T := "tuple") (U := "int") (by decide) ⟨_,ho,rfl⟩ (λS=>typeIs_int S k t) Ww F.fills_int_mul F.slot_int_rmul W6 F.slot_int_index.lookup
  (call_meets F.slot_int_rmul (typeIs_int s k t) F.entry_int_rmul (F.args_int_rmul_2 _ _) (Gb k t l d i.toArray n sl)
   ⟨ho,rfl,⟨_,ho,rfl⟩,call_meets F.slot_tuple_mul ⟨_,ho,rfl⟩ F.entry_tuple_mul (F.args_tuple_mul_2 _ _) (I9 k t l d i.toArray n sl j g (by rw[aq];omega) (by rw[aq];omega)) ⟨ho,?_⟩⟩)
 rw[w];refine⟨.ref s.heap.objs.size,_,I.laid (t':=s.toks) (o:=.tup (List.replicate k.toNat xs).flatten) (λb ob q=>ae _ q) (ak _) ?_,rfl,q _ (I.hok.fresh (ak _))⟩;refine⟨?_,_,r.rep k.toNat,wU.new _ _⟩;rw[len_rep];have m:sizeLine=16777216:=sizeLine_eq
 have:k.toNat * xs.length<=1000 * 1000:=mul_le_mul (by omega) (by omega)
 omega
noncomputable def XF:W->W->Hx->R W:=λx y A=>match x,y with
 |.tup xs,.int k=>if decide (2<=k)&&(decide (k<1000)&&(decide (0<xs.length)&&decide (xs.length<1000))) then .ok (.tup (List.replicate k.toNat xs).flatten) A else .bad|_,_=>.bad
def HP:jO K (XC K) XF:=λφ A H x y u v Q S b q p=>by
 cases u with
 |tup xs=>cases v with
  |int j=>
   obtain⟨a1,a,rfl,t1,r⟩:=b;obtain rfl:=q;unfold XF at p;dsimp only at p
   by_cases h:(decide (2<=j)&&(decide (j<1000)&&(decide (0<xs.length)&&decide (xs.length<1000))))=true
   ·rw[aj h]at p
    simp only[ag,af]at h;refine⟨a1,j,a,rfl,rfl,t1,h.1,h.2.1,by rw[<- r.length];exact h.2.2.1,by rw[<- r.length];exact h.2.2.2,λl hl=>?_⟩
    obtain⟨c1,c2,c⟩:=gx S hl (r.rep j.toNat);exact p _ _ _ c1 c2 c
   ·rw[ao h]at p;exact p.elim
  |_=>exact p.elim
 |_=>cases v<;>exact p.elim
end
section
open PySem.SeqAt
open PySem.AutoSeq1 (wpAny_loadPart')
open PySem.MeetsSeq PySem.MeetsSeq2 PySem.MeetsSeq3
end
open PySem
open PySem PySem.Spec PyProof.Rows
namespace F
end F
section
variable {prog:Program}{A:Around}
def OY {t sl:Addr}{l v:Value}{lo i:bF}(H:IsTup s.heap t items)(d:s.heap.IsSliceOf sl l v .none)(p:IsPart l lo)(pu:IsPart v i)
  (hw:HT.z9 items.size 0 lo=0/\HT.z9 items.size items.size i=items.size)(h:Q (.ref t) s):wpAny (model prog w) A (getItem (.ref t) (.ref sl)) Q E s:=by
 obtain⟨os,a,b,e⟩:=id d;have c:s.TypeIs (.ref sl) "slice":=⟨os,a,b⟩;unfold getItem
 try with_reducible refine wpAny_holding ?_
 first|refine bM (bN ?_)|skip
 refine bM (wpAny_sequenceKey H.typeIs (by decide) ?_)
 refine bM (wpAny_callSpecial?_slot (name:=Str.ofString "__getitem__") H.typeIs PyProof.Rows.slot_tuple_getitem
  (wpAny_call_entry PyProof.Rows.slot_tuple_getitem H.typeIs PyProof.Rows.entry_tuple_getitem ?_ (PyProof.Rows.args_tuple_getitem _ _)))
 show wpAny _ _ (Builtin.Tuple.tupleItemsOf (.ref t) >>= _) _ _ s;refine bM (PyProof.Rows.tupleItemsOf_ H ?_);refine bM (wpAny_typeOf c ?_);rw[aj (by decide)]
 refine bM (HT.VJ d p pu ?_);show wpAny _ _ (if (((HT.z9 items.size 0 lo:Nat):Int)==0&&(1:Int)==1&&(HT.z9 items.size items.size i-HT.z9 items.size 0 lo)==items.size)=true then _ else _) _ _ s;rw[aj (by rw[hw.1,hw.2];simp)]
 unfold Builtin.Tuple.tupleIsExact;refine bM (bM (wpAny_typeOf H.typeIs (bN ?_)));rw[aj (by decide)]
 refine bM (wpAny_rule ?_)
 first
  |exact bN ⟨_,rfl,bN h⟩
  |exact bM (bN (bN ⟨_,rfl,bN h⟩))
end
section
variable {a:Expr}{lo hi:Option Expr}{K:Frag}
def PZ (K:Frag):V->Option Int->Option Int->Hp->VK->Prop:=λx lo h H Q=>∃a xs,x=.ref a/\qm K H a xs/\
 ((HT.z9 xs.length 0 lo=0/\HT.z9 xs.length xs.length h=xs.length)->Q (.ref a) H)/\
 (¬(HT.z9 xs.length 0 lo=0/\HT.z9 xs.length xs.length h=xs.length)->∀p,H p=none->Q (.ref p) (upd H p (.tup (wk xs lo h))))
def EN:Ye X (PZ X.K):=by
 intro pins s σ H x v l u lo e sl Q I b d p pu h;obtain⟨a,xs,rfl,c,f,q⟩:=h
 by_cases hw:HT.z9 xs.length 0 lo=0/\HT.z9 xs.length xs.length e=xs.length
 ·cases b
  obtain⟨i,r,t,z⟩:=I.tuple c;have hlen:i.toArray.size=xs.length:=by rw[aq];exact r.length.symm
  exact⟨"tuple",_,PyProof.Rows.slot_tuple_getitem.lookup,t.typeIs,OY t d p pu (by rw[hlen];exact hw) ⟨.ref a,H,I,rfl,f hw⟩⟩
 ·exact Be pins s σ H _ v l u lo e sl Q I b d p pu ⟨a,xs,rfl,c,hw,q hw⟩
abbrev Po:=En->Hx->R (bF)
noncomputable def Z5:Po:=λ_ A=>.ok none A
noncomputable def gI (m:Ev):Po:=λρ A=>(m ρ A).bind λw A1=>match w with
 |.int i=>.ok (some i) A1|_=>.bad
noncomputable def w5 (ws:List W)(lo h:bF):List W:=(ws.drop (HT.z9 ws.length 0 lo)).take (HT.z9 ws.length ws.length h-HT.z9 ws.length 0 lo)
inductive MP (K:Frag)(xr:XR)(p:Po)(σ:St)(H:Hp)(Q:Option Int->Hp->Prop):Prop
 |mk (φ:bx) (A:Hx) (ρ:En) (S:zL K φ A H) (re:RE K φ H ρ σ) (h:(p ρ A).post (λo A1=>∀φ1 H1,Le K φ H φ1 H1->zL K φ1 A1 H1->Q o H1) (EB K φ H xr))
noncomputable def tP (K:Frag)(x:XR)(p:Po):TO:=λσ H Q=>MP K x p σ H Q
def SP (X:Cx)(x:XR)(e:Option Expr)(p:Po):Prop:=PO X e (tP X.K x p)
def PO.imp {e:Option Expr}{t t':TO}(h:PO X e t)(i:∀σ H Q,t' σ H Q->t σ H Q):PO X e t':=λpins s σ H Q I hw=>h pins s σ H Q I (i σ H Q hw)
end
noncomputable def Kt (_ j:Int):Bool:=decide (0<j)&&decide (j<1152921504606846976)
def Pu (i j:Int):Prop:=0<j/\j<1152921504606846976
def Fj (i j:Int)(h:Kt i j=true):Pu i j:=by
 unfold Kt at h;rw[ag]at h;exact⟨of_decide_eq_true h.1,of_decide_eq_true h.2⟩
def FF:qB X (binaryOp .FloorDiv) (rI Pu λi j=>.int (i/j)):=QV λi j _ _ _ _ _ h q=>by
 have a:(0:Int)<j:=h.1;have H:j<1152921504606846976:=h.2;refine floordiv_int (by omega) (by rw[Int.fdiv_eq_ediv_of_nonneg i (by omega)];exact q) (.inl (PyProof.noPylong_of_log2 ?_))
 have h0:j.natAbs≠0:=by omega
 have:j.natAbs.log2<60:=(Nat.log2_lt h0).mpr (by omega)
 omega
def yv:=wB Kt λi j=>.int (i/j)
def L0 (t:Tok)(l:Addr)(o:bK)(items:Array Value)(n:Nat)(sl:Array (bB)):
  Meets (Builtin.«tuple.__mul__» ⟨[.ref l,.int 1 t],[]⟩) (λ_ R s=>s.heap.get? l=some ⟨.type "tuple",o,.seq items n,sl⟩/\R (.ok (.ret (.ref l))) s):=
 .of_wp λprog w A R s h=>by
  obtain⟨H,g,d,T,os⟩:=s;obtain⟨hl,h⟩:=h;have E:((1:Int)==1)=true:=rfl;have e:(decide ((1:Int) < -2 ^ 63) || decide ((1:Int) ≥ 2 ^ 63))=false:=by decide
  wp_walk
  exact⟨_,rfl,h⟩
section
variable {K:Frag}
def XA (K:Frag):R2:=λx y H Q=>(∃l xs,x=.ref l/\y=.int 1/\qm K H l xs/\Q (.ref l) H)∨XC K x y H Q
def Dh:qB X (binaryOp .Mult) (XA X.K):=by
 intro pins s σ H x y v u Q I b a h;rcases h with ⟨l,xs,rfl,rfl,e,q⟩|h
 ·cases b
  obtain⟨t,rfl⟩:=a;obtain⟨i,r,p,_⟩:=I.tuple e;obtain⟨⟨cls,d,data,sl⟩,ho,c,n,hd⟩:=id p;simp only at c hd;subst c hd;refine wpAny_binaryOp_repeat_ref (T := "tuple") (U := "int") (by decide) ⟨_,ho,rfl⟩ (λS=>typeIs_int S 1 t) Ww F.fills_int_mul F.slot_int_rmul W6 F.slot_int_index.lookup
   (call_meets F.slot_int_rmul (typeIs_int s 1 t) F.entry_int_rmul (F.args_int_rmul_2 _ _) (Gb 1 t l d i.toArray n sl)
    ⟨ho,rfl,⟨_,ho,rfl⟩,call_meets F.slot_tuple_mul ⟨_,ho,rfl⟩ F.entry_tuple_mul (F.args_tuple_mul_2 _ _) (L0 t l d i.toArray n sl) ⟨ho,?_⟩⟩)
  exact⟨.ref l,H,I,rfl,q⟩
 ·exact DG pins s σ H x y v u Q I b a h
noncomputable def Xr:W->W->Hx->R W:=λx y A=>match x,y with
 |.tup xs,.int k=>if decide (1<=k)&&(decide (k<1000)&&(decide (0<xs.length)&&decide (xs.length<1000))) then .ok (.tup (List.replicate k.toNat xs).flatten) A else .bad|_,_=>.bad
def Ff:jO K (XA K) Xr:=λφ A H x y u v Q S q b p=>by
 cases u with
 |tup xs=>cases v with
  |int j=>
   unfold Xr at p;dsimp only at p
   by_cases h:(decide (1<=j)&&(decide (j<1000)&&(decide (0<xs.length)&&decide (xs.length<1000))))=true
   ·rw[aj h]at p
    simp only[ag,af]at h
    by_cases h1:j=1
    ·subst h1
     obtain⟨a1,a,rfl,t1,r⟩:=id q;obtain rfl:=b;refine .inl ⟨a1,a,rfl,rfl,t1,?_⟩;have e:(List.replicate (1:Int).toNat xs).flatten=xs:=by simp
     rw[e]at p;exact p _ _ _ Le.refl S q
    ·refine .inr (HP φ A H x y (.tup xs) (.int j) Q S q b ?_)
     unfold XF;dsimp only;rw[aj (by simp only[ag,af];exact⟨by omega,h.2⟩)]
     exact p
   ·rw[ao h]at p;exact p.elim
  |_=>exact p.elim
 |_=>cases v<;>exact p.elim
end
end Mi
namespace PySem.SeqAt
open PySem
end PySem.SeqAt
namespace Mi
open PySem PySem.Spec PyProof.Rows L2
def L8 (t:Tok)(l:Addr)(o:bK)(items:Array Value)(n:Nat)(sl:Array (bB))(i:0<items.size):
  Meets (Builtin.«tuple.__mul__» ⟨[.ref l,.int 0 t],[]⟩) (λ_ R s=>s.heap.get? l=some ⟨.type "tuple",o,.seq items n,sl⟩/\R (.ok (.ret (.ref s.heap.objs.size))) { s with heap:=s.heap.push { cls:=.type "tuple",data:=.seq #[] } }):=
 .of_wp λprog w A R s h=>by
  obtain⟨H,g,d,T,os⟩:=s;obtain⟨hl,h⟩:=h;have b:items.isEmpty=false:=by
   cases he:items.isEmpty with
   |false=>rfl|true=>rw[Array.isEmpty_iff_size_eq_zero]at he;omega
  have a:((0:Int)==1)=false:=rfl;have E:(decide ((0:Int) < -2 ^ 63) || decide ((0:Int) ≥ 2 ^ 63))=false:=by decide
  have e:decide ((0:Int)<=0)=true:=by decide
  wp_walk
  exact⟨_,rfl,h⟩
section
variable {K:Frag}{b:Expr}
def PD (K:Frag):R2:=λx y H Q=>(∃l xs,x=.ref l/\y=.int 0/\qm K H l xs/\0<xs.length/\∀p,H p=none->Q (.ref p) (upd H p (.tup [])))∨XA K x y H Q
def DD:qB X (binaryOp .Mult) (PD X.K):=by
 intro pins s σ H x y v u Q I c a h;rcases h with ⟨l,xs,rfl,rfl,e,f,q⟩|h
 ·cases c
  obtain⟨t,rfl⟩:=a;obtain⟨i,r,p,_⟩:=I.tuple e;obtain⟨⟨cls,D,data,sl⟩,ho,d,n,hd⟩:=id p;simp only at d hd;subst d hd;have hlen:=r.length;refine wpAny_binaryOp_repeat_ref (T := "tuple") (U := "int") (by decide) ⟨_,ho,rfl⟩ (λS=>typeIs_int S 0 t) Ww F.fills_int_mul F.slot_int_rmul W6 F.slot_int_index.lookup
   (call_meets F.slot_int_rmul (typeIs_int s 0 t) F.entry_int_rmul (F.args_int_rmul_2 _ _) (Gb 0 t l D i.toArray n sl)
    ⟨ho,rfl,⟨_,ho,rfl⟩,call_meets F.slot_tuple_mul ⟨_,ho,rfl⟩ F.entry_tuple_mul (F.args_tuple_mul_2 _ _) (L8 t l D i.toArray n sl (by rw[aq];omega)) ⟨ho,?_⟩⟩)
  refine⟨.ref s.heap.objs.size,_,I.laid (t':=s.toks) (o:=.tup []) (λb ob q=>ae _ q) (ak _) ?_,rfl,q _ (I.hok.fresh (ak _))⟩;refine⟨zero_le _,[],?_,wU.new _ _⟩;exact r.rep 0
 ·exact Dh pins s σ H x y v u Q I c a h
noncomputable def QB:W->W->Hx->R W:=λx y A=>match x,y with
 |.tup xs,.int k=>if decide (0<=k)&&(decide (k<1000)&&(decide (0<xs.length)&&decide (xs.length<1000))) then .ok (.tup (List.replicate k.toNat xs).flatten) A else .bad|_,_=>.bad
def DC:∀x y A,qE (QB x y A):=λx y A=>by
 unfold QB
 split
 ·exact wQ jB qM
 ·exact qM
def FT:jO K (PD K) QB:=λφ A H x y u v Q S b q p=>by
 cases u with
 |tup xs=>cases v with
  |int j=>
   unfold QB at p;dsimp only at p
   by_cases h:(decide (0<=j)&&(decide (j<1000)&&(decide (0<xs.length)&&decide (xs.length<1000))))=true
   ·rw[aj h]at p
    simp only[ag,af]at h
    by_cases h1:j=0
    ·subst h1
     obtain⟨a1,a,rfl,t1,r⟩:=id b;obtain rfl:=q;refine .inl ⟨a1,a,rfl,rfl,t1,by rw[<- r.length];exact h.2.2.1,λl hl=>?_⟩
     obtain⟨c1,c2,c⟩:=gx S hl (r.rep 0);exact p _ _ _ c1 c2 c
    ·refine .inr (Ff φ A H x y (.tup xs) (.int j) Q S b q ?_)
     unfold Xr;dsimp only;rw[aj (by simp only[ag,af];exact⟨by omega,h.2⟩)]
     exact p
   ·rw[ao h]at p;exact p.elim
  |_=>exact p.elim
 |_=>cases v<;>exact p.elim
noncomputable def Od (m:Ev):Ev:=λρ A=>(m ρ A).bind λw A1=>match w with
 |.ref n=>match A1[n]? with
  |some (.lst ws)=>.ok (.bl (!ws.isEmpty)) A1|_=>.bad
 |_=>.bad
end
open PySem.W (KasT kas_rev kas_asc kas_desc kas_tail3 kas_descPart kas_count kas_place kas_bin kas_sort)
open PySem.W (KasT kas_sort kas_ask kat_run kat_snds kat_kind kat_lt kat_cons kat_nil kat_yes kat_no kat_one KatLex KatGo KatTups)
section
variable {K:Frag}{a:Expr}
def EX (K:Frag):V->List V->Hp->VK->Prop:=λx vs H Q=>∃a xs y,x=.ref a/\vs=[y]/\qF K H a xs/\yK y=true/\xs.all yK=true/\Q (.int (xs.countP λz=>kF z y)) H
def Hc:QS X "list.count" (EX X.K):=by
 intro pins s σ H x vs v us Q I b d h;obtain⟨a,xs,y,rfl,rfl,t,l,f,q⟩:=h;cases b;obtain⟨u,rfl,e⟩:=d.one;obtain⟨i,r,⟨⟨cls,D,data,sl⟩,n,ho,c,j,hd⟩,_⟩:=I.list t;simp only at c hd;subst c hd;refine call_meets F.slot_list_count ⟨_,ho,rfl⟩ F.entry_list_count (F.args_list_count_2 _ _) (SeqAt.list_countAt a i.toArray n D sl u (yB y)) ⟨ho,λz g=>ZF e l r f z (by simpa using g),?_⟩
 refine⟨.int _,H,I.tok _,⟨_,rfl⟩,?_⟩;rw[<- Gv r f]at q;simpa using q
def JC:W->W->Hx->R W:=λx y A=>match x with
 |.ref n=>match A[n]? with
  |some (.lst ws)=>if jV y&&ws.all jV then .ok (.int (Zn y ws 0)) A else .bad|_=>.bad
 |_=>.bad
def Iy:∀x y A,qE (JC x y A):=λx y A=>by
 unfold JC
 split
 ·split
  ·exact wQ jB qM
  ·exact qM
 ·exact qM
end
open PySem.W (kas_kind)
section
open PySem.SeqAt
open PySem.AutoSeq1 (wpAny_loadPart')
open PySem.MeetsSeq PySem.MeetsSeq2 PySem.MeetsSeq3
end
section
variable {lo hi:Option Expr}{K:Frag}
def cA:Ye X (λx lo i H Q=>PZ X.K x lo i H Q∨P9 X.K x lo i H Q):=by
 intro pins s σ H x v l u lo i sl Q I r a p pu h;rcases h with h|h
 ·exact EN pins s σ H x v l u lo i sl Q I r a p pu h
 ·exact Dr pins s σ H x v l u lo i sl Q I r a p pu h
def Zg (m:Ev)(p pu:Po):Ev:=λρ A=>(m ρ A).bind λw A1=>(p ρ A1).bind λl A2=>(pu ρ A2).bind λu a=>match w with
 |.tup ws=>.ok (.tup (w5 ws l u)) a|.ref n=>match a[n]? with
  |some (.lst ws)=>.ok (.ref a.length) (a++[.lst (w5 ws l u)])|_=>.bad
 |_=>.bad
def PC:=kY λi j=>.int (Builtin.bitAnd i j)
def P5:=wB (λ_ j=>decide (0<=j)) λi j=>.int (i/2 ^ j.toNat)
noncomputable def Pr (m:Ev):Ev:=λρ A=>(m ρ A).bind λw A1=>match w with
 |.int i=>.ok (.bl (i != 0)) A1|_=>.bad
end
@[irreducible] noncomputable def KZ (X:Cx)(x:XR)(e:bE)(ms:List Ev):Prop:=Mi.SJ X x e ms
def R4:@KZ=@Mi.SJ:=by
 funext X xr es ms
 unfold KZ
 rfl
section
def gv:@zw=@Mi.SE/\@wy=@Mi.SA/\@j5=@Mi.ST/\@kU=@Mi.SW/\@ym=@Mi.SS/\@yZ=@Mi.Yk/\@yI=@Mi.SI/\@kg=@Mi.SG/\@gL=@Mi.SF/\@kE=@Mi.SQ/\@wt=@Mi.Yh/\@k5=@Mi.SM/\@KZ=@Mi.SJ:=⟨Xl,Xi,G8,Xm,Xg,GN,Xd,G2,Xc,Xk,GP,Xe,R4⟩
def E8 (he:zw X xr e m)(g:kg X tg tw)(f:swapsWithSole [tg] e pos.line X.env=pure false:=by rfl)(hw:swappedStores [tg] e X.env=pure none:=by rfl)(a:(assignEach [tg] X.env).map (·.2)=[assign tg X.env]:=by rfl):ym X xr (.Assign [tg] e pos) (J5 m tw):=by
 try simp only[gv]at*
 exact PS.imp (Pa he g f hw a) λD σ H ⟨φ,A,ρ,S,re,h⟩=>by
   refine tM.go S re (zW.mp h) λw A1 b H1 v a l s q=>?_;cases E:tw w ρ with
   |none=>rw[E]at a;exact a.elim|some d=>
    rw[E]at a;exact⟨b,A1,ρ,w,d,s,re.mono l,q,E,λc r=>a b H1 c l s r⟩
def Qq {a:Expr}{b:Expr}{ma:Ev}{m:Ev}{pt:Pos}{kt:Nat}(i j:Nat){y:Str}{P py p:Pos}{K:Nat}(u:X.calm=true)(E:X.N.Nodup)(C:zw X xr a ma)(B:zw X xr b m)(t:X.N[i]? =some x:=by rfl)(r:X.N[j]? =some y:=by rfl)(d:i≠j:=by decide)
  (o:X.env.scope.names.lookup x=some .local:=by rfl)(n:X.env.scope.names.lookup y=some .local:=by rfl)
  (hw:swappedStores [.Tuple [.Name x P,.Name y py] kt pt] (.Tuple [a,b] K p) X.env=pure (some [x,y]):=by rfl)
  (s:swapsWithSole [.Tuple [.Name x P,.Name y py] kt pt] (.Tuple [a,b] K p) pos.line X.env=pure false:=by rfl)
  (f:starEach [a,b] X.env=(false,eval a X.env)::starEach [b] X.env:=by rfl)(e:starEach [b] X.env=(false,eval b X.env)::starEach [] X.env:=by rfl):
  ym X xr (.Assign [.Tuple [.Name x P,.Name y py] kt pt] (.Tuple [a,b] K p) pos) (kQ i j ma m):=by
 try simp only[gv]at*
 exact PS.imp (DU u E t r d o n (jz C (jz B yd e) f) hw s) λD σ H ⟨φ,A,ρ,S,re,h⟩=>by
   refine tM.go S re (zW.mp h) λw A1 g H1 v f l J Q=>?_;refine tM.go J (re.mono l) (qw (zW.mp f) (λ_ _ z=>z) λ_ _ z=>z.mono l) λT A2 c M v2 e L I q=>?_;exact⟨v,v2,rfl,e c M _ (l.trans L) I (((re.mono (l.trans L)).set (Q.mono L)).set q)⟩
end
section
def LO {a:Expr}{b:Expr}{ma:Ev}{m:Ev}(ho:zw X xr a ma)(he:zw X xr b m)(t:starEach [b] X.env=(false,eval b X.env)::starEach [] X.env:=by rfl)
  (e:attributeBase a "extend" X.env (eval a X.env)=eval a X.env:=by rfl)
  (w:((backTo cpos (starEach [b] X.env)).all (λx=>!x.1)&&(backToKw cpos (keywordEach [] X.env)).all (λx=>x.1.isSome)
   && decide ([b].length+([]:bJ).length+(if ([]:bJ).isEmpty then 0 else 1)<30))=true:=by rfl)(h:(apos.endLine==cpos.line)=true:=by rfl):
  zw X xr (.Call (.Attribute a "extend" apos) [b] [] cpos) (jQ Jy ma m):=by
 try simp only[gv]at*
 exact Kr PySem.F.slot_list_extend (by kernel_rfl) IY ID (λφ A H x y u v Q S j q p=>by
   unfold Jy at p;cases u with
   |ref n=>
    cases v with
    |ref k=>
     dsimp only at p;cases c:A[n]? with
     |none=>rw[c]at p;exact p.elim|some o=>cases o with
      |lst ws=>
       cases E:A[k]? with
       |none=>rw[c,E]at p;exact p.elim|some s=>cases s with
        |lst us=>
         rw[c,E]at p;dsimp only at p
         by_cases d:ws.length+us.length<=qd
         ·rw[aj d]at p
          obtain⟨l,xs,rfl,f1,g1,f⟩:=S.lst j c;obtain⟨B,zs,rfl,f2,g2,r⟩:=S.lst q E;refine⟨l,B,xs,zs,rfl,rfl,g1,g2,?_,?_⟩
          ·rw[<- f.length,<- r.length]
           have:sizeLine=16777216:=sizeLine_eq
           unfold qd at d;omega
          ·obtain⟨i,g⟩:=S.write (o:=.lst ws) (o':=.lst (ws++us)) c rfl rfl f1 (u:=.lst (xs++zs)) ⟨xs++zs,j6,(f.append r).mono (Le.upd f1 (λ_ z=>by rw[g1]at z;cases z) λ_ _ z=>by rw[g1]at z;cases z)⟩
           exact p _ _ _ i g rfl
         ·rw[ao d]at p;exact p.elim
        |_=>rw[c,E]at p;exact p.elim
      |_=>rw[c]at p;cases E:A[k]? with
       |none=>rw[E]at p;exact p.elim|some _=>rw[E]at p;exact p.elim
    |_=>exact p.elim
   |_=>cases v<;>exact p.elim) ho he t e w h
def LN {P pos':Pos}(j:X.calm=true)(hm:X.mg "len"=none)(d:X.mg "set"=none)(n:zw X xr e m)(i:Gl X "len":=by rfl)(f:Gl X "set":=by rfl)(s:starEach [e] X.env=(false,eval e X.env)::starEach [] X.env:=by rfl)
  (c:starEach [.Call (.Name "set" P) [e] [] pos'] X.env=(false,eval (.Call (.Name "set" P) [e] [] pos') X.env)::starEach [] X.env:=by rfl):
  zw X xr (.Call (.Name "len" p) [.Call (.Name "set" P) [e] [] pos'] [] pos) (Rg m):=by
 try simp only[gv]at*
 exact PE.imp (Jr IM i hm (by rfl) (jz (YH (II j) f d (by rfl) (jz n yd s) (by decide) (by decide) s (by rfl)) yd c) (by decide) (by decide) c (by rfl)) λσ H Q ⟨φ,A,ρ,S,re,h⟩=>by
   refine tM.go S re (zW.mp h) λw A1 g H1 v b L u q=>?_;cases w with
   |tup ws=>
    obtain⟨a,vs,rfl,t,r⟩:=q;unfold RA at b;dsimp only at b
    revert b
    cases o:intsOf ws with
    |none=>intro b;exact b.elim|some ns=>
     intro b;dsimp only at b;have E:=GC o;subst E;have ev:=zF.ints.mp r;subst ev
     by_cases z:ns.length<=100
     ·rw[aj z]at b
      refine⟨a,ns,rfl,t,z,λl hl=>⟨l,_,_,rfl,j6,a3 (firstMet_length_le _ _) z,?_⟩⟩;exact b _ _ _ (L.trans (Le.new hl)) (u.lay hl) rfl
     ·rw[ao z]at b;exact b.elim
   |_=>exact b.elim
def Y5 {a:Expr}{b:Expr}{ma:Ev}{m:Ev}(H:zw X xr a ma)(h:zw X xr b m):zw X xr (.BinOp a .LShift b pos) (zh J7 ma m):=by
 try simp only[gv]at*
 exact we D9 JT (JN RD λ_ _ _ _=>rfl) H h
end
@[irreducible] noncomputable def Z4 (X:Cx)(x:XR)(e:Option Expr)(p:Po):Prop:=Mi.SP X x e p
def Bh:@Z4=@Mi.SP:=by
 funext X xr e p
 unfold Z4
 rfl
def Qv:@zw=@Mi.SE/\@wy=@Mi.SA/\@j5=@Mi.ST/\@kU=@Mi.SW/\@ym=@Mi.SS/\@yZ=@Mi.Yk/\@yI=@Mi.SI/\@kg=@Mi.SG/\@gL=@Mi.SF/\@kE=@Mi.SQ/\@wt=@Mi.Yh/\@k5=@Mi.SM/\@KZ=@Mi.SJ/\@Z4=@Mi.SP:=⟨Xl,Xi,G8,Xm,Xg,GN,Xd,G2,Xc,Xk,GP,Xe,R4,Bh⟩
def RI:Z4 X xr none Z5:=by
 try simp only[Qv]at*
 exact PO.imp Dv λσ H Q ⟨φ,A,ρ,S,re,h⟩=>h φ H .refl S
def Rq (c:zw X xr e m):Z4 X xr (some e) (gI m):=by
 try simp only[Qv]at*
 exact PO.imp (EG c) λσ H Q ⟨φ,A,ρ,S,re,h⟩=>by
  refine tM.go S re (zW.mp h) λw A1 a H1 v b l s q=>?_;cases w with
  |int i=>obtain rfl:=q;exact⟨i,rfl,b a H1 l s⟩|_=>exact b.elim
def yU {a b:Expr}{ma m:Ev}(H:zw X xr a ma)(h:zw X xr b m):zw X xr (.BinOp a .FloorDiv b pos) (zh yv ma m):=by
 try simp only[gv]at*
 exact we FF JT (JN Fj λ_ _ _ _=>rfl) H h
def F7 {a b:Expr}{ma m:Ev}(H:zw X xr a ma)(h:zw X xr b m):zw X xr (.BinOp a .Mult b pos) (zh QB ma m):=by
 try simp only[gv]at*
 exact we DD DC FT H h
def Ej (h:zw X xr e m)(he:∀whole,isTrue e X.env whole=(do let v <- whole;standAt e.pos;holding [v] (truthy v)):=by intro _;rfl):j5 X xr e (Od m):=by
 try simp only[gv]at*
 exact PT.imp (Sx h he) λσ H Q ⟨φ,A,ρ,S,re,h⟩=>by
   refine tM.go S re (zW.mp h) λw A1 c H1 v a l s d=>?_;cases w with
   |ref n=>
    dsimp only at a;cases E:A1[n]? with
    |none=>rw[E]at a;exact a.elim|some u=>cases u with
     |lst ws=>
      rw[E]at a;dsimp only at a;obtain⟨p,y,rfl,f,i,r⟩:=s.lst d E;obtain⟨b,g,q⟩:=a;cases g;have hl:=r.length;refine⟨!ws.isEmpty,.inl ⟨y,qF.of i,?_⟩,q c H1 l s⟩;cases ws with
      |nil=>cases y with
       |nil=>rfl|cons _ _=>cases hl
      |cons _ _=>cases y with
       |nil=>cases hl|cons _ _=>rfl
     |_=>rw[E]at a;exact a.elim
   |_=>exact a.elim
section
variable {a b:Expr}{ma mb:Ev}
def LM (ho:zw X xr a ma)(he:zw X xr b mb)(s:starEach [b] X.env=(false,eval b X.env)::starEach [] X.env:=by rfl)
  (e:attributeBase a "count" X.env (eval a X.env)=eval a X.env:=by rfl)
  (w:((backTo cpos (starEach [b] X.env)).all (λx=>!x.1)&&(backToKw cpos (keywordEach [] X.env)).all (λx=>x.1.isSome)
   && decide ([b].length+([]:bJ).length+(if ([]:bJ).isEmpty then 0 else 1)<30))=true:=by rfl)(h:(apos.endLine==cpos.line)=true:=by rfl):
  zw X xr (.Call (.Attribute a "count" apos) [b] [] cpos) (jQ JC ma mb):=by
 try simp only[gv]at*
 exact Kr PySem.F.slot_list_count PySem.F.type_list_count Hc Iy (λφ A H x y u v Q S c q p=>by
   unfold JC at p;cases u with
   |ref n=>
    dsimp only at p;cases E:A[n]? with
    |none=>rw[E]at p;exact p.elim|some o=>cases o with
     |lst ws=>
      rw[E]at p;dsimp only at p
      by_cases hf:(jV v&&ws.all jV)=true
      ·rw[aj hf]at p
       rw[ag]at hf;obtain⟨l,rfl,f1⟩:=c;obtain⟨L,f2,vs,g1,g2⟩:=S.ob n _ E;rw[f1]at f2;cases f2;obtain⟨c1,c2⟩:=Gd q hf.1 g2 hf.2;refine⟨l,vs,y,rfl,rfl,qF.of g1,Jn q hf.1,c1,?_⟩;rw[c2]
       have:=p φ H _ .refl S rfl
       rw[GU]at this;simpa using this
      ·rw[ao hf]at p;exact p.elim
     |_=>rw[E]at p;exact p.elim
   |_=>exact p.elim) ho he s e w h
end
def Si {lo D:Option Expr}{P pu:Po}{I:Pos}(he:zw X xr e m)(hl:Z4 X xr lo P)(J:Z4 X xr D pu):zw X xr (.Subscript e (.Slice lo D none I) pos) (Zg m P pu):=by
 try simp only[Qv]at*
 exact PE.imp (FY cA he hl J) λσ H Q ⟨φ,A,ρ,S,re,h⟩=>by
   refine tM.go S re (zW.mp h) λw A1 i H1 v N f Z C=>?_;refine⟨i,A1,ρ,Z,re.mono f,qw (zW.mp N) (λl A2 M g H2 d Y=>?_) λ_ _ z=>z.mono f⟩;refine⟨g,A2,ρ,Y,(re.mono f).mono d,qw (zW.mp M) (λu A3 b c B q s=>?_) λ_ _ z=>z.mono (f.trans d)⟩;have L:=(f.trans d).trans q;cases w with
   |tup ws=>
    obtain⟨a,vs,rfl,t,r⟩:=(C.mono d).mono q;have hlen:ws.length=vs.length:=r.length;refine .inl ⟨a,vs,rfl,t,λhw=>?_,λhw p x=>?_⟩
    ·refine b c B _ L s ⟨a,vs,rfl,t,?_⟩
     have:w5 ws l u=ws:=by
      unfold w5;rw[hlen,hw.1,hw.2,Nat.sub_zero,List.drop_zero,<- hlen,List.take_length]
     rw[this];exact r
    ·have j:zF X.K c B (w5 ws l u) (wk vs l u):=by
      unfold w5 wk;rw[hlen];exact zF.take _ (zF.drop _ r)
     obtain⟨a1,a2,y⟩:=gx s x j;exact b _ _ _ (L.trans a1) a2 y
   |ref n=>
    dsimp only at b;cases E:A3[n]? with
    |none=>rw[E]at b;exact b.elim|some o=>cases o with
     |lst ws=>
      rw[E]at b;dsimp only at b;obtain⟨a,vs,rfl,T,U,r⟩:=s.lst ((C.mono d).mono q) E;have hlen:ws.length=vs.length:=r.length;refine .inr ⟨a,vs,rfl,qF.of U,λp x=>?_⟩;have j:zF X.K c B (w5 ws l u) (wk vs l u):=by
       unfold w5 wk;rw[hlen];exact zF.take _ (zF.drop _ r)
      obtain⟨a1,a2,y⟩:=JP s x j;exact b _ _ _ (L.trans a1) a2 y
     |_=>rw[E]at b;exact b.elim
   |_=>exact b.elim
section
variable {a b:Expr}{ma mb:Ev}
def HH (H:zw X xr a ma)(h:zw X xr b mb):zw X xr (.BinOp a .BitAnd b pos) (zh PC ma mb):=by
 try simp only[Qv]at*
 exact we C0 gA (gw λ_ _ _ _=>rfl) H h
def EW (c:zw X xr a ma)(H:zw X xr b mb):zw X xr (.BinOp a .RShift b pos) (zh P5 ma mb):=by
 try simp only[Qv]at*
 exact we Bb JT (JN (λ_ _ h=>of_decide_eq_true h) λ_ _ _ _=>rfl) c H
def HG (h:zw X xr e m)(he:∀whole,isTrue e X.env whole=(do let v <- whole;standAt e.pos;holding [v] (truthy v)):=by intro _;rfl):j5 X xr e (Pr m):=by
 try simp only[Qv]at*
 exact PT.imp (Sx h he) λσ H Q ⟨φ,A,ρ,S,re,h⟩=>by
   refine tM.go S re (zW.mp h) λw A1 a H1 v c l s d=>?_;cases w with
   |int i=>
    obtain rfl:=d;obtain⟨b,E,q⟩:=c;cases E;exact⟨i != 0,rfl,q a H1 l s⟩
   |_=>exact c.elim
end
def zE.up {K:Frag}{j k:Nat}{f:Fn}(F:zE P w K mg base j x n f)(h:j<=k:=by decide):zE P w K mg base k x n f:=F.mono h
section
variable {C:List Value->Prop}
theorem jT (h:∀a,C [a]):∀us:bw,us.length=1->C us
 |[a],_=>h a
theorem j4 (h:∀a b,C [a,b]):∀us:bw,us.length=2->C us
 |[a,b],_=>h a b
theorem Wc (h:∀a b c,C [a,b,c]):∀us:bw,us.length=3->C us
 |[a,b,c],_=>h a b c
theorem Ov (h:∀a b c d,C [a,b,c,d]):∀us:bw,us.length=4->C us
 |[a,b,c,d],_=>h a b c d
end
def qL {l:bC}(h:decide l.Nodup=true):l.Nodup:=of_decide_eq_true h
noncomputable def OD (N P:bC)(sc:Scope):Bool:=decide (sc.kind=.function)&&(!sc.isCoroutine&&(!sc.isGenerator&&(decide N.Nodup&&(decide (N.take P.length=P)&&(P.all (λx=>decide (sc.names.lookup x=some .local) || decide (sc.names.lookup x=some .cell))&&sc.names.all λy=>!decide (y.2=.free))))))
def qz {P:bC}(h:OD N P sc=true):qk N P sc:=by
 unfold OD at h;simp only[ag,af,Bool.not_eq_true',aR,bj,decide_eq_false_iff_not]at h;obtain⟨g,f,e,d,c,b,a⟩:=h;exact⟨g,f,e,d,c,b,λy H=>a y H⟩
section
def jl {iter:Expr}{m:Ev}(nl:Nat)(cap:bA)(hw:yI X xr tg iter mi)
  (n:∀s H fp,kg (jC X N sc s H fp ye) tg tw/\wt (jC X N sc s H fp ye) ifs m/\k5 (jC X N sc s H fp ye) elt (⟨tg,iter,ifs,0⟩::gs) sc pos 0 em)
  (c:X.calm=true:=by rfl)(S:wO X sc:=by exact cps (by kernel_rfl))(p:Ze X.N N sc nl cap=true:=by kernel_rfl)
  (b:∀g',gs[0]? =some g'->g'.is_async=0:=by intro _ h;cases h<;>rfl)
  (a:∀x,foldedSetIterable iter X.env x=pure x:=by intro _;rfl):gL X xr (.ListComp elt (⟨tg,iter,ifs,0⟩::gs) sc pos) (zT nl cap mi tw m em):=HR nl cap c S p hw n b a
def qT {d:Nat}(he:zw X ka elt me)(h:∀e s,X.xe e s->False:=by exactλ_ _ z=>z)(H:gens[d+1]? =none:=by rfl):k5 X elt gens sc pos d (zQ me):=E9 h he H
end
open PySem L2
abbrev zp:Ev:=zX 0
abbrev zt:Ev:=zX 1
abbrev zH:Ev:=zX 2
abbrev zS:Ev:=zX 3
abbrev qt:Ev:=zX 4
abbrev qR:Ev:=zX 5
abbrev jZ:Ev:=zX 6
abbrev yC:Ev:=zX 7
abbrev wG:Ev:=zX 8
abbrev Yl:Ev:=zX 9
abbrev XU:Ev:=zX 10
abbrev AZ:Ev:=zX 11
abbrev cB:Ev:=zX 12
abbrev qj:Ev:=zY (.int 0)
abbrev qC:Ev:=zY (.int 1)
abbrev Z2:Ev:=zY (.int 2)
abbrev Yi:Ev:=zY (.int 3)
abbrev K2:Ev:=zY (.int 4)
abbrev cC:Ev:=zY (.int 5)
abbrev cD:Ev:=zY (.int 6)
abbrev Oz:Ev:=zY (.int 7)
abbrev OG:Ev:=zY (.int 8)
abbrev cE:Ev:=zY (.int 9)
abbrev XM:Ev:=zY (.int 10)
abbrev qo:Ev:=zY (.bl true)
abbrev OJ:Ev:=zY (.bl false)
abbrev K8:Ev:=zY .non
abbrev yn:Ex:=zm (qi OJ) zu
end Mi
namespace G
open PySem L2 Mi
noncomputable def top (i:Nat):Stmt:=PySem.Challenge.pw_nearkinds_k43_whole_turned_about.main.body.getD i (.Pass ⟨0,0,0,0⟩)
structure Bu (mg:bG):Prop where
 Pj:mg "abs"=none
 JW:mg "all"=none
 BW:mg "any"=none
 DS:mg "bool"=none
 gn:mg "enumerate"=none
 QA:mg "int"=none
 YC:mg "isinstance"=none
 qQ:mg "len"=none
 DR:mg "list"=none
 QC:mg "max"=none
 PL:mg "min"=none
 jg:mg "range"=none
 AF:mg "set"=none
 Ag:mg "sum"=none
 jE:mg "tuple"=none
 Kl:mg "zip"=none
 Mp:∃t,mg "MOST_PLACES"=some (.int 8 t)
abbrev TH:Stmt:=top 1
def Lv:qk ["thing"] ["thing"] (z8 TH):=qz (by kernel_rfl)
def LQ:Ex:=zm (qi (jS (Yf .int zp) (jX (Yf .bl zp)))) zu
abbrev VP:Stmt:=top 2
def Nl:qk ["thing","limit"] ["thing","limit"] (z8 VP):=qz (by kernel_rfl)
def Nw (g:Fn):Ex:=zm (qi (jS (zy g (zi zp zr)) (yQ Zp Zq qj zp zt))) zu
abbrev Tq:Stmt:=top 3
def Ld:qk ["thing","many"] ["thing","many"] (z8 Tq):=qz (by kernel_rfl)
def Ta (g:Fn):Ex:=zm (qi (jS (Yf .tup zp) (jS (zh jY (mQ qe (zP zp)) zt) (mQ ZX (zT 1 [] (qp zp) (zI 0) qo (zQ (zy g (zi zp zr)))))))) zu
abbrev VC:Stmt:=top 4
def O5:qk ["thing","many","limit"] ["thing","many","limit"] (z8 VC):=qz (by kernel_rfl)
def VE (g:Fn):Ex:=zm (qi (jS (zy g (zi zp (zi zt zr))) (mQ ZX (zT 1 [2] (qp zp) (zI 0) qo (zQ (yQ Zp Zq qj zp zt)))))) zu
abbrev Tt:Stmt:=top 14
def Td:qk ["thing","many"] ["thing"] (z8 Tt):=qz (by kernel_rfl)
def Tu (I:Fn)(N:Fn)(o:Fn):Ex:=zm (qW (gK (jX (Yf .tup zp)) (jX (yQ Zp Zp qC (mQ qe (zP zp)) OG))) yn zu) (zm (zR 1 (mQ qe (zP zp))) (zm (qW (jX (mQ ZX (zT 1 [1] (qp zp) (zI 0) qo (zQ (zy N (zi zp (zi zt (zi zt zr)))))))) yn zu) (zm (qi (jS (zy I (zi zp zr)) (zy o (zi zp zr)))) zu)))
abbrev T3:Stmt:=top 15
def Gs:qk ["rows","a","row","b","kind"] ["rows"] (z8 T3):=qz (by kernel_rfl)
def TY:Ex:=zm (qK (yk zp) (qN 1 2) (zm (qK (yk zH) (qN 3 4) (zm (qW (gK (zh q9 (zh jY qt qj) (zh jY zt zS)) (zh q9 (zh zB (zh zB zp zS) zt) qt)) yn zu) zu)) zu)) (zm (qi qo) zu)
abbrev Vs:Stmt:=top 16
def Vo:qk ["rows","standing"] ["rows"] (z8 Vs):=qz (by kernel_rfl)
def Vq:Ex:=zm (zR 1 (jh (zT 2 [] (qp zp) (zI 0) qo (kO (qp zp) (zI 1) qo (zQ zt))))) (zm (qi (mQ ZX (zT 1 [1] (jc (mQ yH (zP zt))) (zI 0) qo (zQ (zh X3 zp zt))))) zu)
abbrev V3:Stmt:=top 17
def NC:qk ["table"] ["table"] (z8 V3):=qz (by kernel_rfl)
def VZ (L:Fn):Ex:=zm (qW (jX (zy L (zi zp zr))) (zm Zi zu) zu) zu
abbrev UB:Stmt:=top 18
def NZ:qk ["table"] ["table"] (z8 UB):=qz (by kernel_rfl)
def Uk:Ex:=zm (qi (zh qU (mQ yH (zT 1 [] (qp zp) (zI 0) qo (zQ (mQ yH (zP zp))))) qC)) zu
abbrev Ub:Stmt:=top 19
def Yq:qk ["table","one","other","many","counts","i","j"] ["table","one","other"] (z8 Ub):=qz (by kernel_rfl)
def Ug (g:Fn):Ex:=zm (zR 3 (zy g (zi zp zr))) (zm (zR 4 (jh (zT 1 [3] (jc zS) (zI 0) qo (zQ (zh qh (jt (zi qj zr)) zt))))) (zm (qK (kC (zh zB zp zt) (zh zB zp zH)) (qN 5 6) (zm (J1 (zh zB qt qR) jZ qC) zu)) (zm (qi (mQ je (zT 1 [] (qp qt) (zI 0) qo (zQ (mQ je (zP zp)))))) zu)))
abbrev Ux:Stmt:=top 20
def Yt:qk ["table","firsts","a","row","b","kind"] ["table"] (z8 Ux):=qz (by kernel_rfl)
def Us:Ex:=zm (zR 1 P4) (zm (qK (yk zp) (qN 2 3) (zm (qK (yk zS) (qN 4 5) (zm (ju (Qw gu zt qR (ji (zi zH (zi qt zr))))) zu)) zu)) (zm (qi zt) zu))
abbrev UH:Stmt:=top 21
def WH:qk ["table","firsts","pairs"] ["table"] (z8 UH):=qz (by kernel_rfl)
def Uz (g:Fn)(Y:Fn)(w:Fn):Ex:=zm (zR 1 (zy w (zi zp zr))) (zm (zR 2 (jh (zT 1 [1] (jc (zy g (zi zp zr))) (zI 0) qo (zQ (zh Km zt zp))))) (zm (qi (jh (zT 2 [0] (qp zH) (qN 0 1) qo (zQ (zy Y (zi zH (zi zp (zi zt zr)))))))) zu))
abbrev Ud:Stmt:=top 22
def Q5:qk ["table","kind","a","b","shares","c","row","e","by"] ["table"] (z8 Ud):=qz (by kernel_rfl)
def WE (Y:Fn)(w:Fn):Ex:=zm (qK (JG (zy w (zi zp zr))) (Qu 1 2 3) (zm (zR 4 (zy Y (zi zp (zi zH (zi zS zr))))) (zm (qK (yk zp) (qN 5 6) (zm (qK (yk jZ) (qN 7 8) (zm (qW (jS (zh jY wG zt) (zh q9 (zy Y (zi zp (zi qR (zi yC zr)))) qt)) (zm (qi (ji (zi zH (zi zS (zi qR (zi yC zr)))))) zu) zu) zu)) zu)) zu))) (zm (qi K8) zu)
abbrev VQ:Stmt:=top 23
def Nn:qk ["table"] ["table"] (z8 VQ):=qz (by kernel_rfl)
def VR (N:Fn)(n:Fn):Ex:=zm (ju (zy N (zi zp zr))) (zm (qW (zh (QR true) (zy n (zi zp zr)) K8) (zm Zi zu) zu) zu)
abbrev Uy:Stmt:=top 25
def NX:qk ["table"] ["table"] (z8 Uy):=qz (by kernel_rfl)
def Uq (g:Fn):Ex:=zm (qi (jh (zT 1 [0] (jc (zy g (zi zp zr))) (zI 0) qo (zQ (Ke JL (zh zB zt qj) zp))))) zu
abbrev R0:Stmt:=top 27
def Qp:qk ["shares","start","some","i","j","later","now"] ["shares","start"] (z8 R0):=qz (by kernel_rfl)
def G6:Ex:=zm (zR 2 (mQ qe (zP zt))) (zm (qK (jc zH) (zI 3) (zm (qK (jc zH) (zI 4) (zm (zR 5 (jh (zT 1 [3,4] (qp (Zg zp (gI zH) Z5)) (zI 0) qo (zQ (zh zB (zh zB zp zt) zH))))) (zm (zR 6 (jh (zT 2 [3,4] (kC zp zt) (qN 0 1) qo (zQ (zh qh (zh zB (zh zB zp zH) zS) zt))))) (zm (qW (jS (jX (mQ QG (zP qR))) (zh q9 (zh qh (zh zB zt zS) (zh zB zt qt)) (mQ kR (zP jZ)))) yn zu) zu)))) zu)) (zm (qi qo) zu))
abbrev Vx:Stmt:=top 28
def O1:qk ["table","thing"] ["table","thing"] (z8 Vx):=qz (by kernel_rfl)
def Wm (g:Fn)(X:Fn)(h:Fn)(w:Fn):Ex:=zm (qW (jX (zy h (zi zt (zi (zy g (zi zp zr)) zr)))) yn zu) (zm (qi (jS (zh jY (zh zB zt qj) qC) (zy X (zi (zy w (zi zp zr)) (zi zt zr))))) zu)
abbrev VF:Stmt:=top 29
def O3:qk ["table","weights"] ["table","weights"] (z8 VF):=qz (by kernel_rfl)
def Wo (N:Fn):Ex:=zm (qW (jX (zy N (zi zp (zi zt zr)))) (zm Zi zu) zu) zu
abbrev VO:Stmt:=top 30
def Z7:qk ["table","shares","starts","size","longer"] ["table"] (z8 VO):=qz (by kernel_rfl)
def VG (Z:Fn)(X:Fn)(w:Fn):Ex:=zm (zR 1 (zy w (zi zp zr))) (zm (zR 2 (jt (zi (ji (zi qC zr)) zr))) (zm (qK (qp (Zg (zy Z (zi zp zr)) (gI qC) Z5)) (zI 3) (zm (zR 4 (jh (zT 2 [3] (qp zH) (zI 0) qo (kO (JV zH (zh yM (jH ZZ zH) qC)) (zI 1) qo (zQ (zh qU zp (ji (zi zt zr)))))))) (zm (zR 2 (jh (zT 1 [1] (qp qt) (zI 0) (zy X (zi zt (zi zp zr))) (zQ zp)))) zu))) (zm (qi zH) zu)))
abbrev Up:Stmt:=top 31
def NY:qk ["table"] ["table"] (z8 Up):=qz (by kernel_rfl)
def WV (Q:Fn)(g:Fn):Ex:=zm (ju (zy Q (zi zp zr))) (zm (qi (zy g (zi zp zr))) zu)
abbrev VI:Stmt:=top 32
def Ni:qk ["table"] ["table"] (z8 VI):=qz (by kernel_rfl)
def Wt (g:Fn)(Q:Fn)(i:Fn):Ex:=zm (ju (zy Q (zi zp zr))) (zm (qi (zh jY (mQ qe (zP (zy i (zi zp zr)))) (zy g (zi zp zr)))) zu)
abbrev V0:Stmt:=top 33
def NF:qk ["table"] ["table"] (z8 V0):=qz (by kernel_rfl)
def WB (N:Fn):Ex:=zm (qW (jX (zy N (zi zp zr))) (zm Zi zu) zu) zu
abbrev Um:Stmt:=top 34
def Qa:qk ["table","weights","top","bottom","size","weight"] ["table","weights"] (z8 Um):=qz (by kernel_rfl)
def WU (Z:Fn):Ex:=zm (zR 2 qj) (zm (zR 3 qC) (zm (qK (kC (zy Z (zi zp zr)) zt) (qN 4 5) (zm (zR 2 (zh qU (zh qh zH qt) (zh qh (zh qh qR qR) zS))) (zm (zR 3 (zh qh zS qt)) zu))) (zm (qi (zh yv (zh qh (mQ qe (zP zp)) zS) zH)) zu)))
abbrev Tj:Stmt:=top 35
def MX:qk ["table","weights"] ["table","weights"] (z8 Tj):=qz (by kernel_rfl)
def Gi (Q:Fn)(q:Fn)(N:Fn):Ex:=zm (ju (zy q (zi zp zr))) (zm (ju (zy N (zi zp (zi zt zr)))) (zm (qi (zy Q (zi zp (zi zt zr)))) zu))
abbrev Vz:Stmt:=top 37
def Vu:qk ["one","other"] ["one","other"] (z8 Vz):=qz (by kernel_rfl)
def O6:Ex:=zm (Y9 1000 (Pr zt) (zm (kQ 0 1 zt (zh jU zp zt)) zu)) (zm (qi zp) zu)
abbrev SN:Stmt:=top 38
def TX:qk ["top","bottom","divisor"] ["top","bottom"] (z8 SN):=qz (by kernel_rfl)
def F5 (o:Fn):Ex:=zm (zR 2 (zy o (zi (jH J6 zp) (zi zt zr)))) (zm (qi (ji (zi (zh yv zp zH) (zi (zh yv zt zH) zr)))) zu)
abbrev RM:Stmt:=top 39
def JD:qk ["table","found","table_sizes","turned","weights","often"] ["table","found"] (z8 RM):=qz (by kernel_rfl)
def Xo (Q:Fn)(Z:Fn)(g:Fn):Ex:=zm (zR 2 (zy Z (zi zp zr))) (zm (zR 3 (jt zr)) (zm (qK (qp zt) (zI 4) (zm (zR 5 (zy Q (zi zp (zi qt zr)))) (zm (ju (jQ yi zS (mQ je (zT 2 [5] (kC qt zH) (qN 0 1) qo (zQ (zy g (zi (zh qh zH zp) (zi zt zr)))))))) zu))) (zm (qi (mQ je (zP zS))) zu)))
abbrev VV:Stmt:=top 40
def Nh:qk ["table"] ["table"] (z8 VV):=qz (by kernel_rfl)
def Wv (Q:Fn)(g:Fn)(X:Fn):Ex:=zm (ju (zy Q (zi zp zr))) (zm (qi (zy X (zi zp (zi (zy g (zi zp zr)) zr)))) zu)
abbrev V2:Stmt:=top 41
def kI:qk ["table","one","other","third","found","place","table_sizes","together","size","top","kind","parts","often"] ["table","one","other","third"] (z8 V2):=qz (by kernel_rfl)
def WC (Q:Fn)(Z:Fn)(N:Fn)(a:Fn)(q:Fn)(g:Fn):Ex:=zm (ju (zy q (zi zp zr))) (zm (zR 4 (zy g (zi zp zr))) (zm (qK (qp (ji (zi zt (zi zH (zi zS zr))))) (zI 5) (zm (qW (jX (zy N (zi qR (zi (mQ qe (zP qt)) zr)))) (zm Zi zu) zu) zu)) (zm (zR 6 (zy Z (zi zp zr))) (zm (zR 7 qC) (zm (qK (qp jZ) (zI 8) (zm (zR 7 (zh qh yC wG)) zu)) (zm (zR 9 qj) (zm (qK (yk jZ) (qN 10 8) (zm (zR 11 (zh qh (zh qh (zh zB (zh zB qt zt) XU) (zh zB (zh zB qt zH) XU)) (zh zB (zh zB qt zS) XU))) (zm (QH 9 (zh qh AZ (zh QI (zh yv yC wG) Z2))) zu))) (zm (zR 12 (zh qh (zy Q (zi zp (zi (zh zB qt zt) zr))) (zy Q (zi zp (zi (zh zB qt zH) zr))))) (zm (qi (zy a (zi (zh qh cB Yl) (zi (zh qh (mQ qe (zP zp)) (zh QI yC Z2)) zr)))) zu)))))))))
abbrev Ur:Stmt:=top 42
def NT:qk ["found","turned","order"] ["found","turned","order"] (z8 Ur):=qz (by kernel_rfl)
def Mx:Ex:=zm (qi (mQ ZX (zT 4 [0,1,2] (yk zH) (qN 0 1) qo (kO (yk jZ) (qN 2 3) qo (zQ (zh jY (zh zB (zh zB qR zS) zp) (ji (zi (zh zB (zh zB qt zt) zH) (zi qC zr))))))))) zu
abbrev U0:Stmt:=top 43
def Zw:qk ["table","found","turned","orders","kind","longer"] ["table"] (z8 U0):=qz (by kernel_rfl)
def W5 (M:Fn)(Q:Fn)(g:Fn)(X:Fn):Ex:=zm (ju (zy Q (zi zp zr))) (zm (zR 1 (zy g (zi zp zr))) (zm (zR 2 (zy X (zi zp (zi zt zr)))) (zm (zR 3 (jt (zi (ji (zi qj zr)) zr))) (zm (qK (Xx qC (mQ qe (zP zt))) (zI 4) (zm (zR 5 (jh (zT 2 [1] (qp zS) (zI 0) qo (kO (jc (mQ qe (zP zH))) (zI 1) (zh RO zt zp) (zQ (zh qU zp (ji (zi zt zr)))))))) (zm (zR 3 (jh (zT 1 [1,2] (qp qR) (zI 0) (zy M (zi zt (zi zH (zi zp zr)))) (zQ zp)))) zu))) (zm (qi (Va (Od zS) (zh zB zS qj) K8)) zu)))))
abbrev V7:Stmt:=top 45
def WA:qk ["_law_top","_law_bottom","_law_one","_law_other"] ["_law_top","_law_bottom"] (z8 V7):=qz (by kernel_rfl)
def Uh:Ex:=zm (kQ 2 3 (jH J6 zp) zt) (zm (Y9 1000 (zh q9 zS qj) (zm (kQ 2 3 zS (zh jU zH zS)) zu)) (zm (qi (ji (zi (zh yv zp zH) (zi (zh yv zt zH) zr)))) zu))
abbrev Th:Stmt:=top 46
def YB:qk ["_law_state_here","_law_many","_law_found","_law_stirred"] ["_law_state_here","_law_many"] (z8 Th):=qz (by kernel_rfl)
def Gj:Ex:=zm (qW (zh zB zp qC) (zm (zR 2 (zh jU (zh zB zp qj) zt)) (zm (Qy kB (zh yv (zh zB zp qj) zt) zp qj) (zm (qi zH) zu))) zu) (zm (Qy kB (zh jU (zh qU (zh qh (zh zB zp qj) (zY (.int 48271))) (zY (.int 29))) (zY (.int 2147483647))) zp qj) (zm (zR 3 (zh jU (zh qU (zh qU (zh qh (zh zB zp qj) (zh zB zp qj)) (zh qh (zY (.int 39373)) (zh zB zp qj))) Oz) (zY (.int 2147483629)))) (zm (zR 3 (zh jU (zh qU (zh qh zS zS) (zh qh (zY (.int 16807)) zS)) (zY (.int 2147483587)))) (zm (qi (zh jU (zh yv zS OG) zt)) zu))))
abbrev Ua:Stmt:=top 47
def NI:qk ["_law_script","_law_k"] ["_law_script","_law_k"] (z8 Ua):=qz (by kernel_rfl)
def WL:Ex:=zm (qW (zh Zq zt (mQ qe (zP zp))) (zm (qi (zh zB zp zt)) zu) zu) (zm (qi qj) zu)
abbrev US:Stmt:=top 48
def UA:qk ["_law_script","_law_k","_law_cell"] ["_law_script","_law_k"] (z8 US):=qz (by kernel_rfl)
def W2 (N:Fn):Ex:=zm (zR 2 (zy N (zi zp (zi zt zr)))) (zm (qW (zh Vj zH (zh QI XM (zY (.int 18)))) (zm (qi (jt (zi (zh yM zH (zh QI XM (zY (.int 18)))) (zi qo zr)))) zu) zu) (zm (qi (jt (zi (zh jU zH (zY (.int 2147483647))) (zi OJ zr)))) zu))
abbrev UO:Stmt:=top 49
def MJ:qk ["_law_many"] ["_law_many"] (z8 UO):=qz (by kernel_rfl)
def M1:Ex:=zm (qi (mQ je (zT 1 [0] (jc zp) (zI 0) qo (zQ (mQ je (zT 1 [0] (jc zt) (zI 0) qo (zQ (jH Zk (zh q9 zt zp))))))))) zu
abbrev Tc:Stmt:=top 50
def Ll:qk ["_law_many"] ["_law_many"] (z8 Tc):=qz (by kernel_rfl)
def LF:Ex:=zm (qi (mQ je (zT 1 [0] (jc zp) (zI 0) qo (zQ (mQ je (zT 1 [0,1] (jc zt) (zI 0) qo (zQ (zh Kj (zh jU (zh yM zt zp) zH) (zh jU (zh yM zp zt) zH))))))))) zu
abbrev UE:Stmt:=top 51
def Q7:qk ["_law_many","_law_size","_law_found","_law_a","_law_row","_law_b"] ["_law_many","_law_size"] (z8 UE):=qz (by kernel_rfl)
def Mw:Ex:=zm (zR 2 (jt zr)) (zm (qK (jc (zh qh zp zt)) (zI 3) (zm (zR 4 (jt zr)) (zm (qK (jc (zh qh zp zt)) (zI 5) (zm (ju (jQ yi qt (zh qU (jH Zk (zh q9 zS qR)) (jH Zk (jS (zh q9 (zh yv zS zt) (zh yv qR zt)) (zh X4 zt qC)))))) zu)) (zm (ju (jQ yi zH (mQ je (zP qt)))) zu)))) (zm (qi (mQ je (zP zH))) zu))
abbrev UD:Stmt:=top 52
def WI:qk ["_law_many","_law_found","_law_a"] ["_law_many"] (z8 UD):=qz (by kernel_rfl)
def Ml:Ex:=zm (zR 1 (jt zr)) (zm (qK (jc (zh J7 qC zp)) (zI 2) (zm (ju (jQ yi zt (mQ je (zT 1 [0,2] (jc (zh J7 qC zp)) (zI 0) qo (zQ (jQ JC (jh (zT 1 [0,2] (jc zt) (zI 0) qo (zQ (zh PC (zh P5 (zh XN zH zt) zp) qC)))) qC)))))) zu)) (zm (qi (mQ je (zP zt))) zu))
abbrev V1:Stmt:=top 53
def ND:qk ["_law_many"] ["_law_many"] (z8 V1):=qz (by kernel_rfl)
def NJ:Ex:=zm (qi (mQ je (zT 1 [0] (jc (zh J7 qC zp)) (zI 0) qo (zQ (mQ je (zT 1 [0] (jc (zh J7 qC zt)) (zI 0) qo (zQ (zh XN zt zp)))))))) zu
abbrev U7:Stmt:=top 54
def Q8:qk ["_law_many","_law_pairs_here","_law_a","_law_found","_law_one"] ["_law_many"] (z8 U7):=qz (by kernel_rfl)
def Lb:Ex:=zm (zR 1 (jt zr)) (zm (qK (jc zp) (zI 2) (zm (ju (jQ Jy zt (jh (zT 1 [2] (Xx (zh qU zH qC) zp) (zI 0) qo (zQ (ji (zi zt (zi zp zr)))))))) zu)) (zm (zR 3 (jt zr)) (zm (qK (qp zt) (zI 4) (zm (ju (jQ yi zS (mQ je (zT 1 [4] (qp zt) (zI 0) qo (zQ (zh yM K2 (Rg (zh qU zt zp)))))))) zu)) (zm (qi (mQ je (zT 1 [] (qp zS) (zI 0) qo (zQ (mQ je (zT 1 [] (qp zp) (zI 0) qo (zQ (zh zB (jt (zi Z2 (zi qC (zi qj zr)))) zp)))))))) zu))))
abbrev UY:Stmt:=top 55
def Mn:qk ["_law_table"] ["_law_table"] (z8 UY):=qz (by kernel_rfl)
def Lo:Ex:=zm (qi (zh qU (mQ yH (zT 1 [] (qp zp) (zI 0) qo (zQ (mQ yH (zP zp))))) qC)) zu
abbrev UI:Stmt:=top 56
def Qb:qk ["_law_one","_law_other","_law_many","_law_found","_law_a","_law_row","_law_b","_law_first"] ["_law_one","_law_other"] (z8 UI):=qz (by kernel_rfl)
def Mg (J:Fn):Ex:=zm (kQ 2 3 (zy J (zi zt zr)) (jt zr)) (zm (qK (jc (zh qh (mQ qe (zP zp)) (mQ qe (zP zt)))) (zI 4) (zm (zR 5 (jt zr)) (zm (qK (jc (zh qh (mQ qe (zP zp)) (mQ qe (zP zt)))) (zI 6) (zm (zR 7 (zh zB (zh zB zp (zh yv qt (mQ qe (zP zt)))) (zh yv jZ (mQ qe (zP zt))))) (zm (ju (jQ yi qR (zh qU (zh qh yC zH) (zh zB (zh zB zt (zh jU qt (mQ qe (zP zt)))) (zh jU jZ (mQ qe (zP zt))))))) zu))) (zm (ju (jQ yi zS (mQ je (zP qR)))) zu)))) (zm (qi (mQ je (zP zS))) zu))
abbrev UG:Stmt:=top 57
def Z9:qk ["_law_one","_law_other","_law_more","_law_found","_law_a","_law_row","_law_b","_law_first"] ["_law_one","_law_other"] (z8 UG):=qz (by kernel_rfl)
def Mt (J:Fn):Ex:=zm (kQ 2 3 (zh yM (zy J (zi zt zr)) qC) (jt zr)) (zm (qK (jc (zh qh (mQ qe (zP zp)) (mQ qe (zP zt)))) (zI 4) (zm (zR 5 (jt zr)) (zm (qK (jc (zh qh (mQ qe (zP zp)) (mQ qe (zP zt)))) (zI 6) (zm (zR 7 (zh zB (zh zB zp (zh yv qt (mQ qe (zP zt)))) (zh yv jZ (mQ qe (zP zt))))) (zm (ju (jQ yi qR (Va (zh X4 yC qj) (zh qU yC zH) (zh zB (zh zB zt (zh jU qt (mQ qe (zP zt)))) (zh jU jZ (mQ qe (zP zt))))))) zu))) (zm (ju (jQ yi zS (mQ je (zP qR)))) zu)))) (zm (qi (mQ je (zP zS))) zu))
abbrev U4:Stmt:=top 58
def WQ:qk ["_law_state_here","_law_many","_law_left","_law_found"] ["_law_state_here","_law_many"] (z8 U4):=qz (by kernel_rfl)
def UW (Z:Fn):Ex:=zm (zR 2 (Y3 zt)) (zm (zR 3 (jt zr)) (zm (Y9 1000 (zh q9 zH (jt zr)) (zm (ju (jQ yi zS (jQ wd zH (zy Z (zi zp (zi (mQ qe (zP zH)) zr)))))) zu)) (zm (qi (mQ je (zP zS))) zu)))
abbrev UQ:Stmt:=top 59
def Ma:qk ["_law_table","_law_order","_law_names"] ["_law_table","_law_order","_law_names"] (z8 UQ):=qz (by kernel_rfl)
def U5:Ex:=zm (qi (mQ je (zT 1 [0,1,2] (qp zt) (zI 0) qo (zQ (mQ je (zT 1 [0,1,3] (qp zH) (zI 0) qo (zQ (zh zB zS (zh zB (zh zB zH zt) zp))))))))) zu
abbrev Vw:Stmt:=top 60
def Wk:qk ["_law_state_here","_law_table","_law_kinds_here","_law_names"] ["_law_state_here","_law_table"] (z8 Vw):=qz (by kernel_rfl)
def Vv (J:Fn)(U:Fn)(M:Fn):Ex:=zm (zR 2 (zy J (zi zt zr))) (zm (zR 3 (zh qU (jt (zi qj zr)) (jh (zT 1 [] (qp (zy U (zi zp (zi (zh yM zH qC) zr)))) (zI 0) qo (zQ (zh qU qC zp)))))) (zm (qi (zy M (zi zt (zi (zy U (zi zp (zi (mQ qe (zP zt)) zr))) (zi zS zr))))) zu))
abbrev VS:Stmt:=top 61
def Yo:qk ["_law_state_here","_law_way","_law_some"] ["_law_state_here"] (z8 VS):=qz (by kernel_rfl)
def VT (Y:Fn)(M:Fn)(d:Fn)(N:Fn)(L:Fn)(g:Fn)(Z:Fn)(o:Fn)(m:Fn)(h:Fn):Ex:=zm (zR 1 (zy Z (zi zp (zi cE zr)))) (zm (zR 2 (jt (zi (zy Y (zi cC zr)) (zi (zy g (zi cD zr)) (zi (zy g (zi K2 zr)) (zi (zy d (zi Z2 (zi Yi zr))) (zi (zy m (zi Yi zr)) (zi (zy N (zi Z2 zr)) zr)))))))) (zm (zR 2 (zh qU zH (jt (zi (zy L (zi K2 zr)) (zi (zy M (zi (zy Y (zi Z2 zr)) (zi (zy Y (zi Yi zr)) zr))) (zi (zy h (zi (zy Y (zi Z2 zr)) (zi (zy g (zi K2 zr)) zr))) zr)))))) (zm (qi (zy o (zi zp (zi (zh zB zH zt) zr)))) zu)))
abbrev Tb:Stmt:=top 62
def Ln:qk ["_law_one","_law_other"] ["_law_one","_law_other"] (z8 Tb):=qz (by kernel_rfl)
def U8 (w:Fn):Ex:=zm (qi (zy w (zi (zh qU (zh qh (zh zB zp qj) (zh zB zt qC)) (zh qh (zh zB zt qj) (zh zB zp qC))) (zi (zh qh (zh zB zp qC) (zh zB zt qC)) zr)))) zu
abbrev UZ:Stmt:=top 63
def Mm:qk ["_law_one","_law_other"] ["_law_one","_law_other"] (z8 UZ):=qz (by kernel_rfl)
def U6 (w:Fn):Ex:=zm (qi (zy w (zi (zh qh (zh zB zp qj) (zh zB zt qj)) (zi (zh qh (zh zB zp qC) (zh zB zt qC)) zr)))) zu
abbrev Vr:Stmt:=top 64
def Zt:qk ["_law_state_here","_law_table","_law_rows","_law_turned","_law_one","_law_other","_law_kind","_law_total","_law_third","_law_amount"] ["_law_state_here","_law_table","_law_rows","_law_turned"] (z8 Vr):=qz (by kernel_rfl)
def Vp (g:Fn)(Z:Fn)(U:Fn)(v:Fn):Ex:=zm (kQ 4 5 (zy Z (zi zp (zi (mQ qe (zP zH)) zr))) (zy Z (zi zp (zi (mQ qe (zP zH)) zr)))) (zm (zR 6 (zy Z (zi zp (zi (mQ qe (zP zH)) zr)))) (zm (zR 7 (ji (zi qj (zi qC zr)))) (zm (qK (jc (mQ qe (zP zH))) (zI 8) (zm (zR 9 (zy v (zi zt (zi qt (zi qR (zi wG zr)))))) (zm (qW (zh Zq (zh zB Yl qj) qj) yn zu) (zm (zR 7 (zy g (zi yC (zi (zy U (zi Yl (zi (zh zB (zh zB zS wG) jZ) zr))) zr)))) zu)))) (zm (qW (zh q9 (zy v (zi zt (zi qj (zi qt (zi qR zr))))) (ji (zi (jH Zk (zh jY qt qR)) (zi qC zr)))) yn zu) (zm (qi (zh jY yC (zy U (zi (zh zB (zh zB zS qt) jZ) (zi (zh zB (zh zB zS qR) jZ) zr))))) zu)))))
abbrev UR:Stmt:=top 65
def gW:qk ["_law_state_here","_law_table","_law_rows","_law_turned","_law_kind","_law_total","_law_row","_law_order","_law_i"] ["_law_state_here","_law_table"] (z8 UR):=qz (by kernel_rfl)
def W4 (o:Fn)(g:Fn)(M:Fn)(L:Fn)(m:Fn)(N:Fn):Ex:=zm (J5 (ji (zi (zy M (zi zt zr)) (zi (zy N (zi zt zr)) zr))) (qN 2 3)) (zm (qW (zh q9 (zh zB zS qj) (zh QB (ji (zi (ji (zi qC (zi qC zr))) zr)) (mQ qe (zP zH)))) yn zu) (zm (qW (zh q9 (jh (zT 1 [] (qp zS) (zI 0) qo (zQ (zh zB zp qj)))) (jh (zT 1 [1] (qp zH) (zI 0) qo (zQ (ji (zi (zy L (zi zt (zi zp zr))) (zi qC zr))))))) yn zu) (zm (qK (jc (mQ qe (zP zH))) (zI 4) (zm (zR 5 (ji (zi qj (zi qC zr)))) (zm (qK (qp zS) (zI 6) (zm (zR 5 (zy g (zi qR (zi (zh zB jZ qt) zr)))) zu)) (zm (qW (zh q9 qR (ji (zi (zh qh (mQ qe (zP zt)) (jH Zk (zh jY qt qj))) (zi qC zr)))) yn zu) zu)))) (zm (zR 7 (zy m (zi zt zr))) (zm (qW (zh (QR true) yC K8) (zm (qK (jc (mQ qe (zP zH))) (zI 8) (zm (qW (zh q9 (jh (zT 1 [3,7,8] (jc (mQ qe (zP zH))) (zI 0) qo (zQ (zh zB (zh zB zt (zh zB zH zp)) zS)))) (jh (zT 1 [] (qp (zh zB zH (zh zB yC wG))) (zI 0) qo (zQ (ji (zi zp (zi qC zr))))))) yn zu) zu)) zu) zu) (zm (qi (zy o (zi zp (zi zt (zi zH (zi zS zr)))))) zu))))))
abbrev Ki:Stmt:=top 66
def G9:qk ["_law_script","_law_k","_law_state_here"] ["_law_script"] (z8 Ki):=qz (by kernel_rfl)
def XH (J:Fn)(Y:Fn)(Q:Fn):Ex:=zm (qK (jc (zh Xt qC (zh Kj (mQ qe (zP zp)) Yi))) (zI 1) (zm (zR 2 (zy Y (zi zp (zi zt zr)))) (zm (qW (gK (jX (zy J (zi zH (zi (zy Q (zi zH zr)) zr)))) (jX (zy J (zi zH (zi (zy Q (zi zH zr)) zr))))) yn zu) zu))) (zm (qi qo) zu)
def o_law {K:Frag}{k:Nat}(T:Bu mg){f:Addr}(F:gh K "law" "law" Ki f fd){J:Fn}(Zy:zE P w K mg base k "_law_right" 2 J){Y:Fn}(Qf:zE P w K mg base k "_law_state" 2 Y){Q:Fn}(Zu:zE P w K mg base k "_law_whole_one" 1 Q):yA P w K mg base kT (k+1) f fd ["_law_script"] (gR K 1 (zU 3 (XH J Y Q))):=
 cz F G9 λc A outer s H E h=>zo (jj PassesOwn.never rfl (jx rfl T.jg (F4 rfl T.QC zG (SO rfl T.PL (qS T.qQ (qv (zc 0))) zG))) (ql 1 G9.nd) (zo (qu 2 G9.nd (zJ Qf h (zq (zc 0) (zq (zc 1) zA)))) (zo (j0 (Jv (G5 (wb (km (zJ Zy h (zq (zc 2) (zq (zJ Zu h (zq (zc 2) zA)) zA))))) (GQ (wb (km (zJ Zy h (zq (zc 2) (zq (zJ Zu h (zq (zc 2) zA)) zA)))))))) (zo (qa yF) zD) zD) zD))) (zo (qa yF) zD)
def Gn:Fn:=zU 1 LQ
def Qi:Fn :=  Gn
def TQ:Fn:=zU 5 TY
def Gy:Fn:=iso TQ
def Vt:Fn:=zU 2 Vq
def Wj:Fn:=iso Vt
def Ui:Fn:=zU 1 Uk
def kj:Fn:=iso Ui
def WY:Fn:=zU 6 Us
def Qd:Fn:=iso WY
def Kg:Fn:=zU 7 G6
def Zb:Fn:=j3 Kg
def VA:Fn:=zU 2 O6
def VB:Fn:=iso VA
def UL:Fn:=zU 3 Mx
def WW:Fn:=j3 UL
def V6:Fn:=zU 4 Uh
def Qc:Fn:=iso V6
def Ji:Fn:=zU 4 Gj
def wa:Fn:=j3 Ji
def Uc:Fn:=zU 2 WL
def Yu:Fn :=  Uc
def U3:Fn:=zU 1 M1
def Jg:Fn:=iso U3
def Tf:Fn:=zU 1 LF
def YD:Fn:=iso Tf
def Ut:Fn:=zU 6 Mw
def WT:Fn:=iso Ut
def Uw:Fn:=zU 3 Ml
def WR:Fn:=iso Uw
def VX:Fn:=zU 1 NJ
def Wx:Fn:=iso VX
def UX:Fn:=zU 5 Lb
def W3:Fn:=iso UX
def U2:Fn:=zU 1 Lo
def Jf:Fn:=iso U2
def W8:Fn:=zU 3 U5
def Yz:Fn :=  W8
def VU:Fn:=zU 2 (Nw Qi)
def Wu:Fn:=iso VU
def Gf:Fn:=zU 2 (Ta Qi)
def Qg:Fn :=  Gf
def V8:Fn:=zU 7 (Ug kj)
def k9:Fn:=iso V8
def Uj:Fn:=zU 1 (Uq kj)
def ki:Fn:=iso Uj
def Sl:Fn:=zU 3 (F5 VB)
def Jq:Fn:=iso Sl
def UT:Fn:=zU 3 (W2 Yu)
def Qf:Fn :=  UT
def Uv:Fn:=zU 8 (Mg Jf)
def WM:Fn:=iso Uv
def Uo:Fn:=zU 8 (Mt Jf)
def WO:Fn:=iso Uo
def W0:Fn:=zU 4 (UW wa)
def ZA:Fn:=j3 W0
def Gm:Fn:=zU 2 (U8 Qc)
def ZC:Fn:=iso Gm
def Ga:Fn:=zU 2 (U6 Qc)
def Jd:Fn:=iso Ga
def Wn:Fn:=zU 3 (VE Qg)
def QY:Fn :=  Wn
def Ul:Fn:=zU 3 (Uz kj k9 Qd)
def gU:Fn:=iso Ul
def Ue:Fn:=zU 9 (WE k9 Qd)
def Ys:Fn:=iso Ue
def UK:Fn:=zU 6 (WU ki)
def gm:Fn:=iso UK
def Wl:Fn:=zU 4 (Vv Jf ZA Yz)
def Yn:Fn:=j3 Wl
def Gw:Fn:=zU 2 (Tu Gy QY Wj)
def Jm:Fn :=  Gw
def Vy:Fn:=zU 2 (Wm kj Zb Qg gU)
def QX:Fn:=iso Vy
def VL:Fn:=zU 5 (VG ki Zb gU)
def yT:Fn:=iso VL
def RG:Fn:=zU 6 (Xo gm ki Jq)
def Kd:Fn :=  RG
def VH:Fn:=zU 3 (VT Jg WM WT Wx W3 YD wa Yn WR WO)
def Zu:Fn:=j3 VH
def Wz:Fn:=zU 1 (VZ Jm)
def Yp:Fn :=  Wz
def VD:Fn:=zU 2 (Wo QX)
def QZ:Fn:=iso VD
def Wq:Fn:=zU 1 (VR Yp Ys)
def k7:Fn :=  Wq
def UJ:Fn:=zU 1 (WV k7 yT)
def Ja:Fn:=iso UJ
def VM:Fn:=zU 1 (Wt kj k7 yT)
def Q3:Fn:=iso VM
def Ts:Fn:=zU 2 (Gi gm k7 QZ)
def Jj:Fn:=iso Ts
def VW:Fn:=zU 1 (WB Q3)
def gj:Fn:=iso VW
def VN:Fn:=zU 1 (Wv gj yT Kd)
def Q0:Fn:=iso VN
def VY:Fn:=zU 13 (WC gm ki Wu Jq gj yT)
def Zv:Fn:=iso VY
def UM:Fn:=zU 6 (W5 WW gj yT Kd)
def Jb:Fn:=iso UM
def Wi:Fn:=zU 10 (Vp ZC wa Jd Zv)
def Z6:Fn :=  Wi
def W7:Fn:=zU 9 (W4 Z6 ZC Ja Jj Jb Q0)
def Zy:Fn:=j3 W7
structure Tx (K:Frag):Prop where
 Ib:FD K "is_whole" TH
 He:FD K "is_even" T3
 OQ:FD K "leaves_no_kind_out" Vs
 Mv:FD K "count_kinds" UB
 N9:FD K "first_pairs" Ux
 Bt:FD K "fits" R0
 O2:FD K "greatest_divisor" Vz
 Mj:FD K "keeps_order" Ur
 NV:FD K "_law_divided" V7
 LD:FD K "_law_take" Th
 N4:FD K "_law_cell_at" Ua
 Lh:FD K "_law_alike" UO
 Lw:FD K "_law_ring" Tc
 MH:FD K "_law_blocks" UE
 Mf:FD K "_law_unlike" UD
 NO:FD K "_law_each_own" V1
 Lj:FD K "_law_pairs" U7
 Lg:FD K "_law_kinds" UY
 Li:FD K "_law_named" UQ
 Nt:FD K "is_whole_below" VP
 Lq:FD K "is_wholes" Tq
 N2:FD K "count_shares" Ub
 N6:FD K "count_sizes" Uy
 FE:FD K "lowest" SN
 Lp:FD K "_law_state" US
 Mz:FD K "_law_beside" UI
 Mo:FD K "_law_within" UG
 M3:FD K "_law_mixed" U4
 LA:FD K "_law_plus" Tb
 MN:FD K "_law_times" UZ
 Ng:FD K "is_wholes_below" VC
 My:FD K "kind_shares" UH
 N1:FD K "search_break" Ud
 MD:FD K "count_often" Um
 OZ:FD K "_law_turned_about" Vw
 L9:FD K "is_table" Tt
 O7:FD K "is_weights_tuple" Vx
 NH:FD K "search_weights" VO
 CG:FD K "turn" RM
 Ny:FD K "_law_whole_one" VS
 NS:FD K "require_table" V3
 Nk:FD K "require_weights" VF
 NA:FD K "require_steady" VQ
 MB:FD K "all_weights" Up
 Nu:FD K "is_whole_table" VI
 LJ:FD K "how_often" Tj
 NN:FD K "require_whole" V0
 Nz:FD K "turned_weights" VV
 NR:FD K "turned_number" V2
 MO:FD K "self_order" U0
 OV:FD K "_law_numbers_right" Vr
 MV:FD K "_law_right" UR
 Ad:FD K "law" Ki
 BB:nsIn K mainGlobals "abs"=some none
 Ar:nsIn K mainGlobals "all"=some none
 BN:nsIn K mainGlobals "any"=some none
 Bo:nsIn K mainGlobals "bool"=some none
 LB:nsIn K mainGlobals "enumerate"=some none
 BU:nsIn K mainGlobals "int"=some none
 MY:nsIn K mainGlobals "isinstance"=some none
 BO:nsIn K mainGlobals "len"=some none
 CH:nsIn K mainGlobals "list"=some none
 B5:nsIn K mainGlobals "max"=some none
 Av:nsIn K mainGlobals "min"=some none
 Dq:nsIn K mainGlobals "range"=some none
 Ae:nsIn K mainGlobals "set"=some none
 BQ:nsIn K mainGlobals "sum"=some none
 Dl:nsIn K mainGlobals "tuple"=some none
 Bz:nsIn K mainGlobals "zip"=some none
 Mc:CD K "MOST_PLACES" 8
section
variable {K:Frag}
def bu (X:K.In h)(G:h.Ns mainGlobals mg)(T:Tx K):Bu mg:=⟨aQ X G T.BB,aQ X G T.Ar,aQ X G T.BN,aQ X G T.Bo,aQ X G T.LB,aQ X G T.BU,aQ X G T.MY,aQ X G T.BO,aQ X G T.CH,aQ X G T.B5,aQ X G T.Av,aQ X G T.Dq,aQ X G T.Ae,aQ X G T.BQ,aQ X G T.Dl,aQ X G T.Bz,(let ⟨t,e⟩:=T.Mc;⟨t,aN X G e⟩)⟩
structure Zz (K:Frag)(h:Heap)(mg:bG):Prop where
 X:K.In h
 G:h.Ns mainGlobals mg
 T:Tx K
 B:Bu mg
def zz (X:K.In h)(G:h.Ns mainGlobals mg)(T:Tx K):Zz K h mg:=⟨X,G,T,bu X G T⟩
def Tv (Z:Zz K h mg):zE P w K mg base 1 "is_whole" 1 Qi:=by
 obtain⟨f,fd,F,a⟩:=Z.T.Ib;exact(qA F (aN Z.X Z.G a) Lv (λ_ _ _ _ _ _=>jT λ_=>rfl) λc A outer s H E r=>zo (qa (g9 (Kc .int Z.B.YC Z.B.QA (by rfl) (zc 0)) (ZL (Dn (Kc .bl Z.B.YC Z.B.DS (by rfl) (zc 0)))))) (zD):zE P w K mg base 1 "is_whole" 1 Gn)
def IE (Z:Zz K h mg):zE P w K mg base 1 "is_even" 1 Gy:=by
 obtain⟨f,fd,F,a⟩:=Z.T.He;exact(qA F (aN Z.X Z.G a) Gs (λ_ _ _ _ _ _=>jT λ_=>rfl) λc A outer s H E r=>zo (jj PassesOwn.never rfl (gp rfl Z.B.gn (zc 0)) (yO 1 2 rfl Gs.nd) (zo (jj PassesOwn.never rfl (gp rfl Z.B.gn (zc 2)) (yO 3 4 rfl Gs.nd) (zo (j0 (Jv (G5 (yu (yY r) (ky (wV r) (zc 4) zG) (ky (wV r) (zc 1) (zc 3))) (GQ (yu (yY r) (zZ (zZ (zc 0) (zc 3)) (zc 1)) (zc 4))))) (zo (qa yF) zD) zD) zD)) zD)) (zo (qa yF) zD):zE P w K mg base 1 "is_even" 1 TQ).iso
def OT (Z:Zz K h mg):zE P w K mg base 1 "leaves_no_kind_out" 1 Wj:=by
 obtain⟨f,fd,F,a⟩:=Z.T.OQ;exact(qA F (aN Z.X Z.G a) Vo (λ_ _ _ _ _ _=>jT λ_=>rfl) λc A outer s H E r=>zo (qu 1 Vo.nd (wL (jl (N:=["row","kind"]) 2 [] (js (zc 0)) (λ_ _ _=>⟨ql 0 (qL (by kernel_rfl)),qP,Y7 (λ_ _ z=>z) rfl rfl (by intro _ h;cases h<;>rfl) (js (zc 0)) (ql 1 (qL (by kernel_rfl))) qP (qT (zc 1))⟩)))) (zo (qa (JE rfl Z.B.JW (j8 (jl (N:=["kind","standing"]) 1 [1] (jx rfl Z.B.jg (Js rfl Z.B.QC (qv (zc 1)))) (λ_ _ _=>⟨ql 0 (qL (by kernel_rfl)),qP,qT (Ci cw (zc 0) (zc 1))⟩))))) zD):zE P w K mg base 1 "leaves_no_kind_out" 1 Vt).iso
def Q9 (Z:Zz K h mg):zE P w K mg base 1 "count_kinds" 1 kj:=by
 obtain⟨f,fd,F,a⟩:=Z.T.Mv;exact(qA F (aN Z.X Z.G a) NZ (λ_ _ _ _ _ _=>jT λ_=>rfl) λc A outer s H E r=>zo (qa (yq (Js rfl Z.B.QC (j8 (jl (N:=["row"]) 1 [] (js (zc 0)) (λ_ _ _=>⟨ql 0 (qL (by kernel_rfl)),qP,qT (Js rfl Z.B.QC (qv (zc 0)))⟩)))) zG)) (zD):zE P w K mg base 1 "count_kinds" 1 Ui).iso
def UC (Z:Zz K h mg):zE P w K mg base 1 "first_pairs" 1 Qd:=by
 obtain⟨f,fd,F,a⟩:=Z.T.N9;exact(qA F (aN Z.X Z.G a) Yt (λ_ _ _ _ _ _=>jT λ_=>rfl) λc A outer s H E r=>zo (qu 1 Yt.nd DE) (zo (jj PassesOwn.never rfl (gp rfl Z.B.gn (zc 0)) (yO 2 3 rfl Yt.nd) (zo (jj PassesOwn.never rfl (gp rfl Z.B.gn (zc 3)) (yO 4 5 rfl Yt.nd) (zo (yc (LW (zc 1) (zc 5) (yb (zq (zc 2) (zq (zc 4) zA)) (qg (qg qJ))))) zD)) zD)) (zo (qa (zc 1)) zD)):zE P w K mg base 1 "first_pairs" 1 WY).iso
def Pc (Z:Zz K h mg):zE P w K mg base 1 "fits" 2 Zb:=by
 obtain⟨f,fd,F,a⟩:=Z.T.Bt;exact(qA F (aN Z.X Z.G a) Qp (λ_ _ _ _ _ _=>j4 λ_ _=>rfl) λc A outer s H E r=>zo (qu 2 Qp.nd (qS Z.B.qQ (qv (zc 1)))) (zo (jj PassesOwn.never rfl (jx rfl Z.B.jg (zc 2)) (ql 3 Qp.nd) (zo (jj PassesOwn.never rfl (jx rfl Z.B.jg (zc 2)) (ql 4 Qp.nd) (zo (gX 5 (N:=["by_kind","i","j"]) 1 [3,4] Qp.nd rfl (cps (by kernel_rfl)) (by kernel_rfl) (js (Si (zc 0) (Rq (zc 2)) RI)) (λ_ _ _=>⟨ql 0 (qL (by kernel_rfl)),qP,qT (zZ (zZ (zc 0) (zc 1)) (zc 2))⟩)) (zo (gX 6 (N:=["by_kind","weight","i","j"]) 2 [3,4] Qp.nd rfl (cps (by kernel_rfl)) (by kernel_rfl) (Y0 rfl Z.B.Kl (zc 0) (zc 1)) (λ_ _ _=>⟨yO 0 1 rfl (qL (by kernel_rfl)),qP,qT (jb (zZ (zZ (zc 0) (zc 2)) (zc 3)) (zc 1))⟩)) (zo (j0 (Jv (Rx (wb (km (EM rfl Z.B.BW (qv (zc 5))))) (Sn (yu (yY r) (jb (zZ (zc 1) (zc 3)) (zZ (zc 1) (zc 4))) (Df rfl Z.B.Ag (qv (zc 6))))))) (zo (qa yF) zD) zD) zD)))) zD)) (zo (qa yF) zD)):zE P w K mg base 1 "fits" 2 Kg).j3
def O4 (Z:Zz K h mg):zE P w K mg base 1 "greatest_divisor" 2 VB:=by
 obtain⟨f,fd,F,a⟩:=Z.T.O2;exact(qA F (aN Z.X Z.G a) Vu (λ_ _ _ _ _ _=>j4 λ_ _=>rfl) λc A outer s H E r=>zo (GA 1000 PassesOwn.never (HG (zc 1)) (zo (Qq 0 1 rfl Vu.nd (zc 1) (yW (zc 0) (zc 1))) zD)) (zo (qa (zc 0)) zD):zE P w K mg base 1 "greatest_divisor" 2 VA).iso
def ML (Z:Zz K h mg):zE P w K mg base 1 "keeps_order" 3 WW:=by
 obtain⟨f,fd,F,a⟩:=Z.T.Mj;exact(qA F (aN Z.X Z.G a) NT (λ_ _ _ _ _ _=>Wc λ_ _ _=>rfl) λc A outer s H E r=>zo (qa (JE rfl Z.B.JW (j8 (jl (N:=["i","first","j","second","found","turned","order"]) 4 [0,1,2] (gp rfl Z.B.gn (zc 2)) (λ_ _ _=>⟨yO 0 1 rfl (qL (by kernel_rfl)),qP,Y7 (λ_ _ z=>z) rfl rfl (by intro _ h;cases h<;>rfl) (gp rfl Z.B.gn (zc 6)) (yO 2 3 rfl (qL (by kernel_rfl))) qP (qT (ky (wV r) (zZ (zZ (zc 5) (zc 3)) (zc 0)) (yb (zq (zZ (zZ (zc 4) (zc 1)) (zc 2)) (zq zG zA)) (qg (qg qJ)))))⟩))))) (zD):zE P w K mg base 1 "keeps_order" 3 UL).j3
def V9 (Z:Zz K h mg):zE P w K mg base 1 "_law_divided" 2 Qc:=by
 obtain⟨f,fd,F,a⟩:=Z.T.NV;exact(qA F (aN Z.X Z.G a) WA (λ_ _ _ _ _ _=>j4 λ_ _=>rfl) λc A outer s H E r=>zo (Qq 2 3 rfl WA.nd (Rk Z.B.Pj (zc 0)) (zc 1)) (zo (GA 1000 PassesOwn.never (yu (yY r) (zc 3) zG) (zo (Qq 2 3 rfl WA.nd (zc 3) (yW (zc 2) (zc 3))) zD)) (zo (qa (yb (zq (yU (zc 0) (zc 2)) (zq (yU (zc 1) (zc 2)) zA)) (qg (qg qJ)))) zD)):zE P w K mg base 1 "_law_divided" 2 V6).iso
def Jh (Z:Zz K h mg):zE P w K mg base 1 "_law_take" 2 wa:=by
 obtain⟨f,fd,F,a⟩:=Z.T.LD;exact(qA F (aN Z.X Z.G a) YB (λ_ _ _ _ _ _=>j4 λ_ _=>rfl) λc A outer s H E r=>zo (j0 (km (zZ (zc 0) zG)) (zo (qu 2 YB.nd (yW (zZ (zc 0) zG) (zc 1))) (zo (S6 (yU (zZ (zc 0) zG) (zc 1)) (zc 0) zG) (zo (qa (zc 2)) zD))) zD) (zo (S6 (yW (yq (jb (zZ (zc 0) zG) zG) zG) zG) (zc 0) zG) (zo (qu 3 YB.nd (yW (yq (yq (jb (zZ (zc 0) zG) (zZ (zc 0) zG)) (jb zG (zZ (zc 0) zG))) zG) zG)) (zo (qu 3 YB.nd (yW (yq (jb (zc 3) (zc 3)) (jb zG (zc 3))) zG)) (zo (qa (yW (yU (zc 3) zG) (zc 1))) zD)))):zE P w K mg base 1 "_law_take" 2 Ji).j3
def NU (Z:Zz K h mg):zE P w K mg base 1 "_law_cell_at" 2 Yu:=by
 obtain⟨f,fd,F,a⟩:=Z.T.N4;exact(qA F (aN Z.X Z.G a) NI (λ_ _ _ _ _ _=>j4 λ_ _=>rfl) λc A outer s H E r=>zo (j0 (yu KN (zc 1) (qS Z.B.qQ (qv (zc 0)))) (zo (qa (zZ (zc 0) (zc 1))) zD) zD) (zo (qa zG) zD):zE P w K mg base 1 "_law_cell_at" 2 Uc)
def YA (Z:Zz K h mg):zE P w K mg base 1 "_law_alike" 1 Jg:=by
 obtain⟨f,fd,F,a⟩:=Z.T.Lh;exact(qA F (aN Z.X Z.G a) MJ (λ_ _ _ _ _ _=>jT λ_=>rfl) λc A outer s H E r=>zo (qa (jP Z.B.jE (j8 (jl (N:=["_law_a","_law_many"]) 1 [0] (jx rfl Z.B.jg (zc 0)) (λ_ _ _=>⟨ql 0 (qL (by kernel_rfl)),qP,qT (jP Z.B.jE (j8 (jl (N:=["_law_b","_law_a"]) 1 [0] (jx rfl Z.B.jg (zc 1)) (λ_ _ _=>⟨ql 0 (qL (by kernel_rfl)),qP,qT (Jp Z.B.QA (ky (yY r) (zc 1) (zc 0)))⟩))))⟩))))) (zD):zE P w K mg base 1 "_law_alike" 1 U3).iso
def Ge (Z:Zz K h mg):zE P w K mg base 1 "_law_ring" 1 YD:=by
 obtain⟨f,fd,F,a⟩:=Z.T.Lw;exact(qA F (aN Z.X Z.G a) Ll (λ_ _ _ _ _ _=>jT λ_=>rfl) λc A outer s H E r=>zo (qa (jP Z.B.jE (j8 (jl (N:=["_law_a","_law_many"]) 1 [0] (jx rfl Z.B.jg (zc 0)) (λ_ _ _=>⟨ql 0 (qL (by kernel_rfl)),qP,qT (jP Z.B.jE (j8 (jl (N:=["_law_b","_law_a","_law_many"]) 1 [0,1] (jx rfl Z.B.jg (zc 1)) (λ_ _ _=>⟨ql 0 (qL (by kernel_rfl)),qP,qT (SO rfl Z.B.PL (yW (ZJ (zc 1) (zc 0)) (zc 2)) (yW (ZJ (zc 0) (zc 1)) (zc 2)))⟩))))⟩))))) (zD):zE P w K mg base 1 "_law_ring" 1 Tf).iso
def Me (Z:Zz K h mg):zE P w K mg base 1 "_law_blocks" 2 WT:=by
 obtain⟨f,fd,F,a⟩:=Z.T.MH;exact(qA F (aN Z.X Z.G a) Q7 (λ_ _ _ _ _ _=>j4 λ_ _=>rfl) λc A outer s H E r=>zo (qu 2 Q7.nd (j7 zA qJ)) (zo (jj PassesOwn.never rfl (jx rfl Z.B.jg (jb (zc 0) (zc 1))) (ql 3 Q7.nd) (zo (qu 4 Q7.nd (j7 zA qJ)) (zo (jj PassesOwn.never rfl (jx rfl Z.B.jg (jb (zc 0) (zc 1))) (ql 5 Q7.nd) (zo (yc (wK (zc 4) (yq (Jp Z.B.QA (ky (yY r) (zc 3) (zc 5))) (Jp Z.B.QA (g9 (ky (yY r) (yU (zc 3) (zc 1)) (yU (zc 5) (zc 1))) (ZL (ky P8 (zc 1) zG))))))) zD)) (zo (yc (wK (zc 2) (jP Z.B.jE (qv (zc 4))))) zD)))) (zo (qa (jP Z.B.jE (qv (zc 2)))) zD)):zE P w K mg base 1 "_law_blocks" 2 Ut).iso
def Ms (Z:Zz K h mg):zE P w K mg base 1 "_law_unlike" 1 WR:=by
 obtain⟨f,fd,F,a⟩:=Z.T.Mf;exact(qA F (aN Z.X Z.G a) WI (λ_ _ _ _ _ _=>jT λ_=>rfl) λc A outer s H E r=>zo (qu 1 WI.nd (j7 zA qJ)) (zo (jj PassesOwn.never rfl (jx rfl Z.B.jg (Y5 zG (zc 0))) (ql 2 WI.nd) (zo (yc (wK (zc 1) (jP Z.B.jE (j8 (jl (N:=["_law_b","_law_many","_law_a"]) 1 [0,2] (jx rfl Z.B.jg (Y5 zG (zc 0))) (λ_ _ _=>⟨ql 0 (qL (by kernel_rfl)),qP,qT (LM (wL (jl (N:=["_law_at","_law_b","_law_a"]) 1 [0,2] (jx rfl Z.B.jg (zc 1)) (λ_ _ _=>⟨ql 0 (qL (by kernel_rfl)),qP,qT (HH (EW (Rj (zc 2) (zc 1)) (zc 0)) zG)⟩))) zG)⟩)))))) zD)) (zo (qa (jP Z.B.jE (qv (zc 1)))) zD)):zE P w K mg base 1 "_law_unlike" 1 Uw).iso
def NQ (Z:Zz K h mg):zE P w K mg base 1 "_law_each_own" 1 Wx:=by
 obtain⟨f,fd,F,a⟩:=Z.T.NO;exact(qA F (aN Z.X Z.G a) ND (λ_ _ _ _ _ _=>jT λ_=>rfl) λc A outer s H E r=>zo (qa (jP Z.B.jE (j8 (jl (N:=["_law_a","_law_many"]) 1 [0] (jx rfl Z.B.jg (Y5 zG (zc 0))) (λ_ _ _=>⟨ql 0 (qL (by kernel_rfl)),qP,qT (jP Z.B.jE (j8 (jl (N:=["_law_b","_law_a"]) 1 [0] (jx rfl Z.B.jg (Y5 zG (zc 1))) (λ_ _ _=>⟨ql 0 (qL (by kernel_rfl)),qP,qT (Rj (zc 1) (zc 0))⟩))))⟩))))) (zD):zE P w K mg base 1 "_law_each_own" 1 VX).iso
def MU (Z:Zz K h mg):zE P w K mg base 1 "_law_pairs" 1 W3:=by
 obtain⟨f,fd,F,a⟩:=Z.T.Lj;exact(qA F (aN Z.X Z.G a) Q8 (λ_ _ _ _ _ _=>jT λ_=>rfl) λc A outer s H E r=>zo (qu 1 Q8.nd (j7 zA qJ)) (zo (jj PassesOwn.never rfl (jx rfl Z.B.jg (zc 0)) (ql 2 Q8.nd) (zo (yc (LO (zc 1) (wL (jl (N:=["_law_b","_law_a"]) 1 [2] (Sr rfl Z.B.jg (yq (zc 2) zG) (zc 0)) (λ_ _ _=>⟨ql 0 (qL (by kernel_rfl)),qP,qT (yb (zq (zc 1) (zq (zc 0) zA)) (qg (qg qJ)))⟩))))) zD)) (zo (qu 3 Q8.nd (j7 zA qJ)) (zo (jj PassesOwn.never rfl (js (zc 1)) (ql 4 Q8.nd) (zo (yc (wK (zc 3) (jP Z.B.jE (j8 (jl (N:=["_law_other","_law_one"]) 1 [4] (js (zc 1)) (λ_ _ _=>⟨ql 0 (qL (by kernel_rfl)),qP,qT (ZJ zG (LN rfl Z.B.qQ Z.B.AF (yq (zc 1) (zc 0))))⟩)))))) zD)) (zo (qa (jP Z.B.jE (j8 (jl (N:=["_law_row"]) 1 [] (js (zc 3)) (λ_ _ _=>⟨ql 0 (qL (by kernel_rfl)),qP,qT (jP Z.B.jE (j8 (jl (N:=["_law_kind"]) 1 [] (js (zc 0)) (λ_ _ _=>⟨ql 0 (qL (by kernel_rfl)),qP,qT (zZ (j7 (zq zG (zq zG (zq zG zA))) (qg (qg (qg qJ)))) (zc 0))⟩))))⟩))))) zD)))):zE P w K mg base 1 "_law_pairs" 1 UX).iso
def W9 (Z:Zz K h mg):zE P w K mg base 1 "_law_kinds" 1 Jf:=by
 obtain⟨f,fd,F,a⟩:=Z.T.Lg;exact(qA F (aN Z.X Z.G a) Mn (λ_ _ _ _ _ _=>jT λ_=>rfl) λc A outer s H E r=>zo (qa (yq (Js rfl Z.B.QC (j8 (jl (N:=["_law_row"]) 1 [] (js (zc 0)) (λ_ _ _=>⟨ql 0 (qL (by kernel_rfl)),qP,qT (Js rfl Z.B.QC (qv (zc 0)))⟩)))) zG)) (zD):zE P w K mg base 1 "_law_kinds" 1 U2).iso
def Lf (Z:Zz K h mg):zE P w K mg base 1 "_law_named" 3 Yz:=by
 obtain⟨f,fd,F,a⟩:=Z.T.Li;exact(qA F (aN Z.X Z.G a) Ma (λ_ _ _ _ _ _=>Wc λ_ _ _=>rfl) λc A outer s H E r=>zo (qa (jP Z.B.jE (j8 (jl (N:=["_law_a","_law_table","_law_order","_law_names"]) 1 [0,1,2] (js (zc 1)) (λ_ _ _=>⟨ql 0 (qL (by kernel_rfl)),qP,qT (jP Z.B.jE (j8 (jl (N:=["_law_b","_law_a","_law_table","_law_names"]) 1 [0,1,3] (js (zc 2)) (λ_ _ _=>⟨ql 0 (qL (by kernel_rfl)),qP,qT (zZ (zc 3) (zZ (zZ (zc 2) (zc 1)) (zc 0)))⟩))))⟩))))) (zD):zE P w K mg base 1 "_law_named" 3 W8)
def Nv (Z:Zz K h mg):zE P w K mg base 2 "is_whole_below" 2 Wu:=by
 obtain⟨f,fd,F,a⟩:=Z.T.Nt;exact(qA F (aN Z.X Z.G a) Nl (λ_ _ _ _ _ _=>j4 λ_ _=>rfl) λc A outer s H E r=>zo (qa (g9 (zJ (Tv Z).up r (zq (zc 0) zA)) (ZL (RS Ky KN zG (zc 0) (zc 1))))) (zD):zE P w K mg base 2 "is_whole_below" 2 VU).iso
def U9 (Z:Zz K h mg):zE P w K mg base 2 "is_wholes" 2 Qg:=by
 obtain⟨f,fd,F,a⟩:=Z.T.Lq;exact(qA F (aN Z.X Z.G a) Ld (λ_ _ _ _ _ _=>j4 λ_ _=>rfl) λc A outer s H E r=>zo (qa (g9 (Kc .tup Z.B.YC Z.B.jE (by rfl) (zc 0)) (g9 (ky (wV r) (qS Z.B.qQ (qv (zc 0))) (zc 1)) (ZL (JE rfl Z.B.JW (j8 (jl (N:=["part"]) 1 [] (js (zc 0)) (λ_ _ _=>⟨ql 0 (qL (by kernel_rfl)),qP,qT (zJ (Tv Z).up r (zq (zc 0) zA))⟩)))))))) (zD):zE P w K mg base 2 "is_wholes" 2 Gf)
def WK (Z:Zz K h mg):zE P w K mg base 2 "count_shares" 3 k9:=by
 obtain⟨f,fd,F,a⟩:=Z.T.N2;exact(qA F (aN Z.X Z.G a) Yq (λ_ _ _ _ _ _=>Wc λ_ _ _=>rfl) λc A outer s H E r=>zo (qu 3 Yq.nd (zJ (Q9 Z).up r (zq (zc 0) zA))) (zo (gX 4 (N:=["kind","many"]) 1 [3] Yq.nd rfl (cps (by kernel_rfl)) (by kernel_rfl) (jx rfl Z.B.jg (zc 3)) (λ_ _ _=>⟨ql 0 (qL (by kernel_rfl)),qP,qT (jb (j7 (zq zG zA) (qg qJ)) (zc 1))⟩)) (zo (jj PassesOwn.never rfl (Y0 rfl Z.B.Kl (zZ (zc 0) (zc 1)) (zZ (zc 0) (zc 2))) (yO 5 6 rfl Yq.nd) (zo (FC (zZ (zc 4) (zc 5)) (zc 6) zG) zD)) (zo (qa (jP Z.B.jE (j8 (jl (N:=["row"]) 1 [] (js (zc 4)) (λ_ _ _=>⟨ql 0 (qL (by kernel_rfl)),qP,qT (jP Z.B.jE (qv (zc 0)))⟩))))) zD))):zE P w K mg base 2 "count_shares" 3 V8).iso
def Yv (Z:Zz K h mg):zE P w K mg base 2 "count_sizes" 1 ki:=by
 obtain⟨f,fd,F,a⟩:=Z.T.N6;exact(qA F (aN Z.X Z.G a) NX (λ_ _ _ _ _ _=>jT λ_=>rfl) λc A outer s H E r=>zo (qa (wL (jl (N:=["kind","table"]) 1 [0] (jx rfl Z.B.jg (zJ (Q9 Z).up r (zq (zc 0) zA))) (λ_ _ _=>⟨ql 0 (qL (by kernel_rfl)),qP,qT (Iz (zZ (zc 1) zG) (zc 0))⟩)))) (zD):zE P w K mg base 2 "count_sizes" 1 Uj).iso
def Sg (Z:Zz K h mg):zE P w K mg base 2 "lowest" 2 Jq:=by
 obtain⟨f,fd,F,a⟩:=Z.T.FE;exact(qA F (aN Z.X Z.G a) TX (λ_ _ _ _ _ _=>j4 λ_ _=>rfl) λc A outer s H E r=>zo (qu 2 TX.nd (zJ (O4 Z).up r (zq (Rk Z.B.Pj (zc 0)) (zq (zc 1) zA)))) (zo (qa (yb (zq (yU (zc 0) (zc 2)) (zq (yU (zc 1) (zc 2)) zA)) (qg (qg qJ)))) zD):zE P w K mg base 2 "lowest" 2 Sl).iso
def M8 (Z:Zz K h mg):zE P w K mg base 2 "_law_state" 2 Qf:=by
 obtain⟨f,fd,F,a⟩:=Z.T.Lp;exact(qA F (aN Z.X Z.G a) UA (λ_ _ _ _ _ _=>j4 λ_ _=>rfl) λc A outer s H E r=>zo (qu 2 UA.nd (zJ (NU Z).up r (zq (zc 0) (zq (zc 1) zA)))) (zo (j0 (yu cq (zc 2) (YT zG zG)) (zo (qa (j7 (zq (ZJ (zc 2) (YT zG zG)) (zq yF zA)) (qg (qg qJ)))) zD) zD) (zo (qa (j7 (zq (yW (zc 2) zG) (zq yF zA)) (qg (qg qJ)))) zD)):zE P w K mg base 2 "_law_state" 2 UT)
def N7 (Z:Zz K h mg):zE P w K mg base 2 "_law_beside" 2 WM:=by
 obtain⟨f,fd,F,a⟩:=Z.T.Mz;exact(qA F (aN Z.X Z.G a) Qb (λ_ _ _ _ _ _=>j4 λ_ _=>rfl) λc A outer s H E r=>zo (Qq 2 3 rfl Qb.nd (zJ (W9 Z).up r (zq (zc 1) zA)) (j7 zA qJ)) (zo (jj PassesOwn.never rfl (jx rfl Z.B.jg (jb (qS Z.B.qQ (qv (zc 0))) (qS Z.B.qQ (qv (zc 1))))) (ql 4 Qb.nd) (zo (qu 5 Qb.nd (j7 zA qJ)) (zo (jj PassesOwn.never rfl (jx rfl Z.B.jg (jb (qS Z.B.qQ (qv (zc 0))) (qS Z.B.qQ (qv (zc 1))))) (ql 6 Qb.nd) (zo (qu 7 Qb.nd (zZ (zZ (zc 0) (yU (zc 4) (qS Z.B.qQ (qv (zc 1))))) (yU (zc 6) (qS Z.B.qQ (qv (zc 1)))))) (zo (yc (wK (zc 5) (yq (jb (zc 7) (zc 2)) (zZ (zZ (zc 1) (yW (zc 4) (qS Z.B.qQ (qv (zc 1))))) (yW (zc 6) (qS Z.B.qQ (qv (zc 1)))))))) zD))) (zo (yc (wK (zc 3) (jP Z.B.jE (qv (zc 5))))) zD)))) (zo (qa (jP Z.B.jE (qv (zc 3)))) zD)):zE P w K mg base 2 "_law_beside" 2 Uv).iso
def N5 (Z:Zz K h mg):zE P w K mg base 2 "_law_within" 2 WO:=by
 obtain⟨f,fd,F,a⟩:=Z.T.Mo;exact(qA F (aN Z.X Z.G a) Z9 (λ_ _ _ _ _ _=>j4 λ_ _=>rfl) λc A outer s H E r=>zo (Qq 2 3 rfl Z9.nd (ZJ (zJ (W9 Z).up r (zq (zc 1) zA)) zG) (j7 zA qJ)) (zo (jj PassesOwn.never rfl (jx rfl Z.B.jg (jb (qS Z.B.qQ (qv (zc 0))) (qS Z.B.qQ (qv (zc 1))))) (ql 4 Z9.nd) (zo (qu 5 Z9.nd (j7 zA qJ)) (zo (jj PassesOwn.never rfl (jx rfl Z.B.jg (jb (qS Z.B.qQ (qv (zc 0))) (qS Z.B.qQ (qv (zc 1))))) (ql 6 Z9.nd) (zo (qu 7 Z9.nd (zZ (zZ (zc 0) (yU (zc 4) (qS Z.B.qQ (qv (zc 1))))) (yU (zc 6) (qS Z.B.qQ (qv (zc 1)))))) (zo (yc (wK (zc 5) (RW (yu P8 (zc 7) zG) (yq (zc 7) (zc 2)) (zZ (zZ (zc 1) (yW (zc 4) (qS Z.B.qQ (qv (zc 1))))) (yW (zc 6) (qS Z.B.qQ (qv (zc 1)))))))) zD))) (zo (yc (wK (zc 3) (jP Z.B.jE (qv (zc 5))))) zD)))) (zo (qa (jP Z.B.jE (qv (zc 3)))) zD)):zE P w K mg base 2 "_law_within" 2 Uo).iso
def UP (Z:Zz K h mg):zE P w K mg base 2 "_law_mixed" 2 ZA:=by
 obtain⟨f,fd,F,a⟩:=Z.T.M3;exact(qA F (aN Z.X Z.G a) WQ (λ_ _ _ _ _ _=>j4 λ_ _=>rfl) λc A outer s H E r=>zo (qu 2 WQ.nd (LS rfl Z.B.DR Z.B.jg (zc 1))) (zo (qu 3 WQ.nd (j7 zA qJ)) (zo (GA 1000 PassesOwn.never (yu (yY r) (zc 2) (j7 zA qJ)) (zo (yc (wK (zc 3) (IC (zc 2) (zJ (Jh Z).up r (zq (zc 0) (zq (qS Z.B.qQ (qv (zc 2))) zA)))))) zD)) (zo (qa (jP Z.B.jE (qv (zc 3)))) zD))):zE P w K mg base 2 "_law_mixed" 2 W0).j3
def To (Z:Zz K h mg):zE P w K mg base 2 "_law_plus" 2 ZC:=by
 obtain⟨f,fd,F,a⟩:=Z.T.LA;exact(qA F (aN Z.X Z.G a) Ln (λ_ _ _ _ _ _=>j4 λ_ _=>rfl) λc A outer s H E r=>zo (qa (zJ (V9 Z).up r (zq (yq (jb (zZ (zc 0) zG) (zZ (zc 1) zG)) (jb (zZ (zc 1) zG) (zZ (zc 0) zG))) (zq (jb (zZ (zc 0) zG) (zZ (zc 1) zG)) zA)))) (zD):zE P w K mg base 2 "_law_plus" 2 Gm).iso
def UU (Z:Zz K h mg):zE P w K mg base 2 "_law_times" 2 Jd:=by
 obtain⟨f,fd,F,a⟩:=Z.T.MN;exact(qA F (aN Z.X Z.G a) Mm (λ_ _ _ _ _ _=>j4 λ_ _=>rfl) λc A outer s H E r=>zo (qa (zJ (V9 Z).up r (zq (jb (zZ (zc 0) zG) (zZ (zc 1) zG)) (zq (jb (zZ (zc 0) zG) (zZ (zc 1) zG)) zA)))) (zD):zE P w K mg base 2 "_law_times" 2 Ga).iso
def Nc (Z:Zz K h mg):zE P w K mg base 3 "is_wholes_below" 3 QY:=by
 obtain⟨f,fd,F,a⟩:=Z.T.Ng;exact(qA F (aN Z.X Z.G a) O5 (λ_ _ _ _ _ _=>Wc λ_ _ _=>rfl) λc A outer s H E r=>zo (qa (g9 (zJ (U9 Z).up r (zq (zc 0) (zq (zc 1) zA))) (ZL (JE rfl Z.B.JW (j8 (jl (N:=["part","limit"]) 1 [2] (js (zc 0)) (λ_ _ _=>⟨ql 0 (qL (by kernel_rfl)),qP,qT (RS Ky KN zG (zc 0) (zc 1))⟩))))))) (zD):zE P w K mg base 3 "is_wholes_below" 3 Wn)
def Uu (Z:Zz K h mg):zE P w K mg base 3 "kind_shares" 1 gU:=by
 obtain⟨f,fd,F,a⟩:=Z.T.My;exact(qA F (aN Z.X Z.G a) WH (λ_ _ _ _ _ _=>jT λ_=>rfl) λc A outer s H E r=>zo (qu 1 WH.nd (zJ (UC Z).up r (zq (zc 0) zA))) (zo (gX 2 (N:=["kind","firsts"]) 1 [1] WH.nd rfl (cps (by kernel_rfl)) (by kernel_rfl) (jx rfl Z.B.jg (zJ (Q9 Z).up r (zq (zc 0) zA))) (λ_ _ _=>⟨ql 0 (qL (by kernel_rfl)),qP,qT (Io r (zc 1) (zc 0))⟩)) (zo (qa (wL (jl (N:=["a","b","table"]) 2 [0] (js (zc 2)) (λ_ _ _=>⟨yO 0 1 rfl (qL (by kernel_rfl)),qP,qT (zJ (WK Z).up r (zq (zc 2) (zq (zc 0) (zq (zc 1) zA))))⟩)))) zD)):zE P w K mg base 3 "kind_shares" 1 Ul).iso
def NW (Z:Zz K h mg):zE P w K mg base 3 "search_break" 1 Ys:=by
 obtain⟨f,fd,F,a⟩:=Z.T.N1;exact(qA F (aN Z.X Z.G a) Q5 (λ_ _ _ _ _ _=>jT λ_=>rfl) λc A outer s H E r=>zo (jj PassesOwn.never rfl (Iw (zJ (UC Z).up r (zq (zc 0) zA))) (Hi 1 2 3 rfl Q5.nd) (zo (qu 4 Q5.nd (zJ (WK Z).up r (zq (zc 0) (zq (zc 2) (zq (zc 3) zA))))) (zo (jj PassesOwn.never rfl (gp rfl Z.B.gn (zc 0)) (yO 5 6 rfl Q5.nd) (zo (jj PassesOwn.never rfl (gp rfl Z.B.gn (zc 6)) (yO 7 8 rfl Q5.nd) (zo (j0 (Jv (Rx (yu (wV r) (zc 8) (zc 1)) (Sn (yu (yY r) (zJ (WK Z).up r (zq (zc 0) (zq (zc 5) (zq (zc 7) zA)))) (zc 4))))) (zo (qa (yb (zq (zc 2) (zq (zc 3) (zq (zc 5) (zq (zc 7) zA)))) (qg (qg (qg (qg qJ)))))) zD) zD) zD)) zD)) zD))) (zo (qa Y2) zD):zE P w K mg base 3 "search_break" 1 Ue).iso
def Yw (Z:Zz K h mg):zE P w K mg base 3 "count_often" 2 gm:=by
 obtain⟨f,fd,F,a⟩:=Z.T.MD;exact(qA F (aN Z.X Z.G a) Qa (λ_ _ _ _ _ _=>j4 λ_ _=>rfl) λc A outer s H E r=>zo (qu 2 Qa.nd zG) (zo (qu 3 Qa.nd zG) (zo (jj PassesOwn.never rfl (Y0 rfl Z.B.Kl (zJ (Yv Z).up r (zq (zc 0) zA)) (zc 1)) (yO 4 5 rfl Qa.nd) (zo (qu 2 Qa.nd (yq (jb (zc 2) (zc 4)) (jb (jb (zc 5) (zc 5)) (zc 3)))) (zo (qu 3 Qa.nd (jb (zc 3) (zc 4))) zD))) (zo (qa (yU (jb (qS Z.B.qQ (qv (zc 0))) (zc 3)) (zc 2))) zD))):zE P w K mg base 3 "count_often" 2 UK).iso
def OX (Z:Zz K h mg):zE P w K mg base 3 "_law_turned_about" 2 Yn:=by
 obtain⟨f,fd,F,a⟩:=Z.T.OZ;exact(qA F (aN Z.X Z.G a) Wk (λ_ _ _ _ _ _=>j4 λ_ _=>rfl) λc A outer s H E r=>zo (qu 2 Wk.nd (zJ (W9 Z).up r (zq (zc 1) zA))) (zo (qu 3 Wk.nd (yq (j7 (zq zG zA) (qg qJ)) (wL (jl (N:=["_law_name"]) 1 [] (js (zJ (UP Z).up r (zq (zc 0) (zq (ZJ (zc 2) zG) zA)))) (λ_ _ _=>⟨ql 0 (qL (by kernel_rfl)),qP,qT (yq zG (zc 0))⟩))))) (zo (qa (zJ (Lf Z).up r (zq (zc 1) (zq (zJ (UP Z).up r (zq (zc 0) (zq (qS Z.B.qQ (qv (zc 1))) zA))) (zq (zc 3) zA))))) zD)):zE P w K mg base 3 "_law_turned_about" 2 Wl).j3
def L7 (Z:Zz K h mg):zE P w K mg base 4 "is_table" 1 Jm:=by
 obtain⟨f,fd,F,a⟩:=Z.T.L9;exact(qA F (aN Z.X Z.G a) Td (λ_ _ _ _ _ _=>jT λ_=>rfl) λc A outer s H E r=>zo (j0 (Jv (G5 (wb (km (Kc .tup Z.B.YC Z.B.jE (by rfl) (zc 0)))) (GQ (wb (Bl Ky Ky zG (qS Z.B.qQ (qv (zc 0))) (HM rfl Z.B.Mp.choose_spec)))))) (zo (qa yF) zD) zD) (zo (qu 1 Td.nd (qS Z.B.qQ (qv (zc 0)))) (zo (j0 (wb (km (JE rfl Z.B.JW (j8 (jl (N:=["row","many"]) 1 [1] (js (zc 0)) (λ_ _ _=>⟨ql 0 (qL (by kernel_rfl)),qP,qT (zJ (Nc Z).up r (zq (zc 0) (zq (zc 1) (zq (zc 1) zA))))⟩)))))) (zo (qa yF) zD) zD) (zo (qa (g9 (zJ (IE Z).up r (zq (zc 0) zA)) (ZL (zJ (OT Z).up r (zq (zc 0) zA))))) zD))):zE P w K mg base 4 "is_table" 1 Gw)
def O8 (Z:Zz K h mg):zE P w K mg base 4 "is_weights_tuple" 2 QX:=by
 obtain⟨f,fd,F,a⟩:=Z.T.O7;exact(qA F (aN Z.X Z.G a) O1 (λ_ _ _ _ _ _=>j4 λ_ _=>rfl) λc A outer s H E r=>zo (j0 (wb (km (zJ (U9 Z).up r (zq (zc 1) (zq (zJ (Q9 Z).up r (zq (zc 0) zA)) zA))))) (zo (qa yF) zD) zD) (zo (qa (g9 (ky (wV r) (zZ (zc 1) zG) zG) (ZL (zJ (Pc Z).up r (zq (zJ (Uu Z).up r (zq (zc 0) zA)) (zq (zc 1) zA)))))) zD):zE P w K mg base 4 "is_weights_tuple" 2 Vy).iso
def Q2 (Z:Zz K h mg):zE P w K mg base 4 "search_weights" 1 yT:=by
 obtain⟨f,fd,F,a⟩:=Z.T.NH;exact(qA F (aN Z.X Z.G a) Z7 (λ_ _ _ _ _ _=>jT λ_=>rfl) λc A outer s H E r=>zo (qu 1 Z7.nd (zJ (Uu Z).up r (zq (zc 0) zA))) (zo (qu 2 Z7.nd (j7 (zq (yb (zq zG zA) (qg qJ)) zA) (qg qJ))) (zo (jj PassesOwn.never rfl (js (Si (zJ (Yv Z).up r (zq (zc 0) zA)) (Rq zG) RI)) (ql 3 Z7.nd) (zo (gX 4 (N:=["start","weight","size"]) 2 [3] Z7.nd rfl (cps (by kernel_rfl)) (by kernel_rfl) (js (zc 2)) (λ_ _ _=>⟨ql 0 (qL (by kernel_rfl)),qP,Y7 (λ_ _ z=>z) rfl rfl (by intro _ h;cases h<;>rfl) (Fs rfl Z.B.jg (zc 2) (ZJ (EO (zc 2)) zG)) (ql 1 (qL (by kernel_rfl))) qP (qT (yq (zc 0) (yb (zq (zc 1) zA) (qg qJ))))⟩)) (zo (gX 2 (N:=["start","shares"]) 1 [1] Z7.nd rfl (cps (by kernel_rfl)) (by kernel_rfl) (js (zc 4)) (λ_ _ _=>⟨ql 0 (qL (by kernel_rfl)),GF (km (zJ (Pc Z).up r (zq (zc 1) (zq (zc 0) zA)))),qT (zc 0)⟩)) zD))) (zo (qa (zc 2)) zD))):zE P w K mg base 4 "search_weights" 1 VL).iso
def R1 (Z:Zz K h mg):zE P w K mg base 4 "turn" 2 Kd:=by
 obtain⟨f,fd,F,a⟩:=Z.T.CG;exact(qA F (aN Z.X Z.G a) JD (λ_ _ _ _ _ _=>j4 λ_ _=>rfl) λc A outer s H E r=>zo (qu 2 JD.nd (zJ (Yv Z).up r (zq (zc 0) zA))) (zo (qu 3 JD.nd (j7 zA qJ)) (zo (jj PassesOwn.never rfl (js (zc 1)) (ql 4 JD.nd) (zo (qu 5 JD.nd (zJ (Yw Z).up r (zq (zc 0) (zq (zc 4) zA)))) (zo (yc (wK (zc 3) (jP Z.B.jE (j8 (jl (N:=["weight","size","often"]) 2 [5] (Y0 rfl Z.B.Kl (zc 4) (zc 2)) (λ_ _ _=>⟨yO 0 1 rfl (qL (by kernel_rfl)),qP,qT (zJ (Sg Z).up r (zq (jb (zc 2) (zc 0)) (zq (zc 1) zA)))⟩)))))) zD))) (zo (qa (jP Z.B.jE (qv (zc 3)))) zD))):zE P w K mg base 4 "turn" 2 RG)
def Nr (Z:Zz K h mg):zE P w K mg base 4 "_law_whole_one" 1 Zu:=by
 obtain⟨f,fd,F,a⟩:=Z.T.Ny;exact(qA F (aN Z.X Z.G a) Yo (λ_ _ _ _ _ _=>jT λ_=>rfl) λc A outer s H E r=>zo (qu 1 Yo.nd (zJ (Jh Z).up r (zq (zc 0) (zq zG zA)))) (zo (qu 2 Yo.nd (j7 (zq (zJ (YA Z).up r (zq zG zA)) (zq (zJ (Ge Z).up r (zq zG zA)) (zq (zJ (Ge Z).up r (zq zG zA)) (zq (zJ (Me Z).up r (zq zG (zq zG zA))) (zq (zJ (Ms Z).up r (zq zG zA)) (zq (zJ (NQ Z).up r (zq zG zA)) zA)))))) (qg (qg (qg (qg (qg (qg qJ)))))))) (zo (qu 2 Yo.nd (yq (zc 2) (j7 (zq (zJ (MU Z).up r (zq zG zA)) (zq (zJ (N7 Z).up r (zq (zJ (YA Z).up r (zq zG zA)) (zq (zJ (YA Z).up r (zq zG zA)) zA)) (qg (qg qJ))) (zq (zJ (N5 Z).up r (zq (zJ (YA Z).up r (zq zG zA)) (zq (zJ (Ge Z).up r (zq zG zA)) zA)) (qg (qg qJ))) zA))) (qg (qg (qg qJ)))))) (zo (qa (zJ (OX Z).up r (zq (zc 0) (zq (zZ (zc 2) (zc 1)) zA)))) zD))):zE P w K mg base 4 "_law_whole_one" 1 VH).j3
def NL (Z:Zz K h mg):zE P w K mg base 5 "require_table" 1 Yp:=by
 obtain⟨f,fd,F,a⟩:=Z.T.NS;exact(qA F (aN Z.X Z.G a) NC (λ_ _ _ _ _ _=>jT λ_=>rfl) λc A outer s H E r=>zo (j0 (wb (km (zJ (L7 Z).up r (zq (zc 0) zA)))) (zo JF zD) zD) (zD):zE P w K mg base 5 "require_table" 1 Wz)
def Nb (Z:Zz K h mg):zE P w K mg base 5 "require_weights" 2 QZ:=by
 obtain⟨f,fd,F,a⟩:=Z.T.Nk;exact(qA F (aN Z.X Z.G a) O3 (λ_ _ _ _ _ _=>j4 λ_ _=>rfl) λc A outer s H E r=>zo (j0 (wb (km (zJ (O8 Z).up r (zq (zc 0) (zq (zc 1) zA))))) (zo JF zD) zD) (zD):zE P w K mg base 5 "require_weights" 2 VD).iso
def Ws (Z:Zz K h mg):zE P w K mg base 6 "require_steady" 1 k7:=by
 obtain⟨f,fd,F,a⟩:=Z.T.NA;exact(qA F (aN Z.X Z.G a) Nn (λ_ _ _ _ _ _=>jT λ_=>rfl) λc A outer s H E r=>zo (yc (zJ (NL Z).up r (zq (zc 0) zA))) (zo (j0 (yu RC (zJ (NW Z).up r (zq (zc 0) zA)) Y2) (zo JF zD) zD) zD):zE P w K mg base 6 "require_steady" 1 Wq)
def MK (Z:Zz K h mg):zE P w K mg base 7 "all_weights" 1 Ja:=by
 obtain⟨f,fd,F,a⟩:=Z.T.MB;exact(qA F (aN Z.X Z.G a) NY (λ_ _ _ _ _ _=>jT λ_=>rfl) λc A outer s H E r=>zo (yc (zJ (Ws Z).up r (zq (zc 0) zA))) (zo (qa (zJ (Q2 Z).up r (zq (zc 0) zA))) zD):zE P w K mg base 7 "all_weights" 1 UJ).iso
def NB (Z:Zz K h mg):zE P w K mg base 7 "is_whole_table" 1 Q3:=by
 obtain⟨f,fd,F,a⟩:=Z.T.Nu;exact(qA F (aN Z.X Z.G a) Ni (λ_ _ _ _ _ _=>jT λ_=>rfl) λc A outer s H E r=>zo (yc (zJ (Ws Z).up r (zq (zc 0) zA))) (zo (qa (ky (wV r) (qS Z.B.qQ (qv (zJ (Q2 Z).up r (zq (zc 0) zA)))) (zJ (Q9 Z).up r (zq (zc 0) zA)))) zD):zE P w K mg base 7 "is_whole_table" 1 VM).iso
def LH (Z:Zz K h mg):zE P w K mg base 7 "how_often" 2 Jj:=by
 obtain⟨f,fd,F,a⟩:=Z.T.LJ;exact(qA F (aN Z.X Z.G a) MX (λ_ _ _ _ _ _=>j4 λ_ _=>rfl) λc A outer s H E r=>zo (yc (zJ (Ws Z).up r (zq (zc 0) zA))) (zo (yc (zJ (Nb Z).up r (zq (zc 0) (zq (zc 1) zA)))) (zo (qa (zJ (Yw Z).up r (zq (zc 0) (zq (zc 1) zA)))) zD)):zE P w K mg base 7 "how_often" 2 Ts).iso
def Wy (Z:Zz K h mg):zE P w K mg base 8 "require_whole" 1 gj:=by
 obtain⟨f,fd,F,a⟩:=Z.T.NN;exact(qA F (aN Z.X Z.G a) NF (λ_ _ _ _ _ _=>jT λ_=>rfl) λc A outer s H E r=>zo (j0 (wb (km (zJ (NB Z).up r (zq (zc 0) zA)))) (zo JF zD) zD) (zD):zE P w K mg base 8 "require_whole" 1 VW).iso
def NG (Z:Zz K h mg):zE P w K mg base 9 "turned_weights" 1 Q0:=by
 obtain⟨f,fd,F,a⟩:=Z.T.Nz;exact(qA F (aN Z.X Z.G a) Nh (λ_ _ _ _ _ _=>jT λ_=>rfl) λc A outer s H E r=>zo (yc (zJ (Wy Z).up r (zq (zc 0) zA))) (zo (qa (zJ (R1 Z).up r (zq (zc 0) (zq (zJ (Q2 Z).up r (zq (zc 0) zA)) zA)))) zD):zE P w K mg base 9 "turned_weights" 1 VN).iso
def V4 (Z:Zz K h mg):zE P w K mg base 9 "turned_number" 4 Zv:=by
 obtain⟨f,fd,F,a⟩:=Z.T.NR;exact(qA F (aN Z.X Z.G a) kI (λ_ _ _ _ _ _=>Ov λ_ _ _ _=>rfl) λc A outer s H E r=>zo (yc (zJ (Wy Z).up r (zq (zc 0) zA))) (zo (qu 4 kI.nd (zJ (Q2 Z).up r (zq (zc 0) zA))) (zo (jj PassesOwn.never rfl (js (yb (zq (zc 1) (zq (zc 2) (zq (zc 3) zA))) (qg (qg (qg qJ))))) (ql 5 kI.nd) (zo (j0 (wb (km (zJ (Nv Z).up r (zq (zc 5) (zq (qS Z.B.qQ (qv (zc 4))) zA))))) (zo JF zD) zD) zD)) (zo (qu 6 kI.nd (zJ (Yv Z).up r (zq (zc 0) zA))) (zo (qu 7 kI.nd zG) (zo (jj PassesOwn.never rfl (js (zc 6)) (ql 8 kI.nd) (zo (qu 7 kI.nd (jb (zc 7) (zc 8))) zD)) (zo (qu 9 kI.nd zG) (zo (jj PassesOwn.never rfl (gp rfl Z.B.gn (zc 6)) (yO 10 8 rfl kI.nd) (zo (qu 11 kI.nd (jb (jb (zZ (zZ (zc 4) (zc 1)) (zc 10)) (zZ (zZ (zc 4) (zc 2)) (zc 10))) (zZ (zZ (zc 4) (zc 3)) (zc 10)))) (zo (DA 9 kI.nd (jb (zc 11) (YT (yU (zc 7) (zc 8)) zG))) zD))) (zo (qu 12 kI.nd (jb (zJ (Yw Z).up r (zq (zc 0) (zq (zZ (zc 4) (zc 1)) zA))) (zJ (Yw Z).up r (zq (zc 0) (zq (zZ (zc 4) (zc 2)) zA))))) (zo (qa (zJ (Sg Z).up r (zq (jb (zc 12) (zc 9)) (zq (jb (qS Z.B.qQ (qv (zc 0))) (YT (zc 7) zG)) zA)))) zD))))))))):zE P w K mg base 9 "turned_number" 4 VY).iso
def MZ (Z:Zz K h mg):zE P w K mg base 9 "self_order" 1 Jb:=by
 obtain⟨f,fd,F,a⟩:=Z.T.MO;exact(qA F (aN Z.X Z.G a) Zw (λ_ _ _ _ _ _=>jT λ_=>rfl) λc A outer s H E r=>zo (yc (zJ (Wy Z).up r (zq (zc 0) zA))) (zo (qu 1 Zw.nd (zJ (Q2 Z).up r (zq (zc 0) zA))) (zo (qu 2 Zw.nd (zJ (R1 Z).up r (zq (zc 0) (zq (zc 1) zA)))) (zo (qu 3 Zw.nd (j7 (zq (yb (zq zG zA) (qg qJ)) zA) (qg qJ))) (zo (jj PassesOwn.never rfl (Sr rfl Z.B.jg zG (qS Z.B.qQ (qv (zc 1)))) (ql 4 Zw.nd) (zo (gX 5 (N:=["order","place","found"]) 2 [1] Zw.nd rfl (cps (by kernel_rfl)) (by kernel_rfl) (js (zc 3)) (λ_ _ _=>⟨ql 0 (qL (by kernel_rfl)),qP,Y7 (λ_ _ z=>z) rfl rfl (by intro _ h;cases h<;>rfl) (jx rfl Z.B.jg (qS Z.B.qQ (qv (zc 2)))) (ql 1 (qL (by kernel_rfl))) (GF (DV EA (zc 1) (zc 0))) (qT (yq (zc 0) (yb (zq (zc 1) zA) (qg qJ))))⟩)) (zo (gX 3 (N:=["order","found","turned"]) 1 [1,2] Zw.nd rfl (cps (by kernel_rfl)) (by kernel_rfl) (js (zc 5)) (λ_ _ _=>⟨ql 0 (qL (by kernel_rfl)),GF (km (zJ (ML Z).up r (zq (zc 1) (zq (zc 2) (zq (zc 0) zA))))),qT (zc 0)⟩)) zD))) (zo (qa (RW (Ej (zc 3)) (zZ (zc 3) zG) Y2)) zD))))):zE P w K mg base 9 "self_order" 1 UM).iso
def OU (Z:Zz K h mg):zE P w K mg base 10 "_law_numbers_right" 4 Z6:=by
 obtain⟨f,fd,F,a⟩:=Z.T.OV;exact(qA F (aN Z.X Z.G a) Zt (λ_ _ _ _ _ _=>Ov λ_ _ _ _=>rfl) λc A outer s H E r=>zo (Qq 4 5 rfl Zt.nd (zJ (Jh Z).up r (zq (zc 0) (zq (qS Z.B.qQ (qv (zc 2))) zA))) (zJ (Jh Z).up r (zq (zc 0) (zq (qS Z.B.qQ (qv (zc 2))) zA)))) (zo (qu 6 Zt.nd (zJ (Jh Z).up r (zq (zc 0) (zq (qS Z.B.qQ (qv (zc 2))) zA)))) (zo (qu 7 Zt.nd (yb (zq zG (zq zG zA)) (qg (qg qJ)))) (zo (jj PassesOwn.never rfl (jx rfl Z.B.jg (qS Z.B.qQ (qv (zc 2)))) (ql 8 Zt.nd) (zo (qu 9 Zt.nd (zJ (V4 Z).up r (zq (zc 1) (zq (zc 4) (zq (zc 5) (zq (zc 8) zA)))))) (zo (j0 (yu KN (zZ (zc 9) zG) zG) (zo (qa yF) zD) zD) (zo (qu 7 Zt.nd (zJ (To Z).up r (zq (zc 7) (zq (zJ (UU Z).up r (zq (zc 9) (zq (zZ (zZ (zc 3) (zc 8)) (zc 6)) zA))) zA)))) zD)))) (zo (j0 (yu (yY r) (zJ (V4 Z).up r (zq (zc 1) (zq zG (zq (zc 4) (zq (zc 5) zA))))) (yb (zq (Jp Z.B.QA (ky (wV r) (zc 4) (zc 5))) (zq zG zA)) (qg (qg qJ)))) (zo (qa yF) zD) zD) (zo (qa (ky (wV r) (zc 7) (zJ (UU Z).up r (zq (zZ (zZ (zc 3) (zc 4)) (zc 6)) (zq (zZ (zZ (zc 3) (zc 5)) (zc 6)) zA))))) zD))))):zE P w K mg base 10 "_law_numbers_right" 4 Wi)
def Lk (Z:Zz K h mg):zE P w K mg base 11 "_law_right" 2 Zy:=by
 obtain⟨f,fd,F,a⟩:=Z.T.MV;exact(qA F (aN Z.X Z.G a) gW (λ_ _ _ _ _ _=>j4 λ_ _=>rfl) λc A outer s H E r=>zo (E8 (yb (zq (zJ (MK Z).up r (zq (zc 1) zA)) (zq (zJ (NG Z).up r (zq (zc 1) zA)) zA)) (qg (qg qJ))) (yO 2 3 rfl gW.nd)) (zo (j0 (yu (yY r) (zZ (zc 3) zG) (F7 (yb (zq (yb (zq zG (zq zG zA)) (qg (qg qJ))) zA) (qg qJ)) (qS Z.B.qQ (qv (zc 2))))) (zo (qa yF) zD) zD) (zo (j0 (yu (yY r) (wL (jl (N:=["_law_row"]) 1 [] (js (zc 3)) (λ_ _ _=>⟨ql 0 (qL (by kernel_rfl)),qP,qT (zZ (zc 0) zG)⟩))) (wL (jl (N:=["_law_row","_law_table"]) 1 [1] (js (zc 2)) (λ_ _ _=>⟨ql 0 (qL (by kernel_rfl)),qP,qT (yb (zq (zJ (LH Z).up r (zq (zc 1) (zq (zc 0) zA))) (zq zG zA)) (qg (qg qJ)))⟩)))) (zo (qa yF) zD) zD) (zo (jj PassesOwn.never rfl (jx rfl Z.B.jg (qS Z.B.qQ (qv (zc 2)))) (ql 4 gW.nd) (zo (qu 5 gW.nd (yb (zq zG (zq zG zA)) (qg (qg qJ)))) (zo (jj PassesOwn.never rfl (js (zc 3)) (ql 6 gW.nd) (zo (qu 5 gW.nd (zJ (To Z).up r (zq (zc 5) (zq (zZ (zc 6) (zc 4)) zA)))) zD)) (zo (j0 (yu (yY r) (zc 5) (yb (zq (jb (qS Z.B.qQ (qv (zc 1))) (Jp Z.B.QA (ky (wV r) (zc 4) zG))) (zq zG zA)) (qg (qg qJ)))) (zo (qa yF) zD) zD) zD)))) (zo (qu 7 gW.nd (zJ (MZ Z).up r (zq (zc 1) zA))) (zo (j0 (yu RC (zc 7) Y2) (zo (jj PassesOwn.never rfl (jx rfl Z.B.jg (qS Z.B.qQ (qv (zc 2)))) (ql 8 gW.nd) (zo (j0 (yu (yY r) (wL (jl (N:=["_law_j","_law_turned","_law_order","_law_i"]) 1 [3,7,8] (jx rfl Z.B.jg (qS Z.B.qQ (qv (zc 2)))) (λ_ _ _=>⟨ql 0 (qL (by kernel_rfl)),qP,qT (zZ (zZ (zc 1) (zZ (zc 2) (zc 0))) (zc 3))⟩))) (wL (jl (N:=["_law_one"]) 1 [] (js (zZ (zc 2) (zZ (zc 7) (zc 8)))) (λ_ _ _=>⟨ql 0 (qL (by kernel_rfl)),qP,qT (yb (zq (zc 0) (zq zG zA)) (qg (qg qJ)))⟩)))) (zo (qa yF) zD) zD) zD)) zD) zD) (zo (qa (zJ (OU Z).up r (zq (zc 0) (zq (zc 1) (zq (zc 2) (zq (zc 3) zA)))))) zD)))))):zE P w K mg base 11 "_law_right" 2 W7).j3
end
end G
namespace Mi
open PySem L2
section
def ZI (h:m ρ A=.ok (.tup ws) A1):qp m ρ A=.ok ⟨λA i=>(z7 (.tup ws) A).map λws=>ws[i]?,ws.length⟩ A1:=by
 unfold qp KH;rw[h,zK]
 rfl
def GK (h:m ρ A=.ok (.tup ws) A)(hl:ws.length<=qd){g:W->W}(he:∀w∈ws,me (some w::cap.map λi=>(ρ[i]?).join) A=.ok (g w) A):
  zT 1 cap (qp m) (zI 0) (zY (.bl true)) (zQ me) ρ A=.ok (ws.map g) A:=by
 have e:=gY (cap:=cap) (me:=me) (ρ:=ρ) (A:=A) (N:=ws.length) (item:=λi=>ws.getD i .non) (g:=λi=>g (ws.getD i .non)) (ZI h) rfl hl
  (λi H=>by show some ws[i]? =_;rw[ab H,aa,ab H];rfl)
  (by show some ws[ws.length]? =_;rw[az (ak _)])
  (λi H=>by
   have:ws.getD i .non=ws[i]:=by rw[aa,ab H];rfl
   rw[this];exact he _ (aK H))
 rw[e]
 congr 1
 apply ext_getElem
 ·simp
 ·intro i b a
  have H:i<ws.length:=by simpa using a
  simp[aa,ab H]
theorem T9 (p:α->Bool):∀l:List α,ko (l.map λx=>W.bl (p x))=some (l.map p)
 |[]=>rfl|x::l=>by
  show(match QM (.bl (p x)),ko (l.map λx=>W.bl (p x)) with|some k,some ks=>some (k::ks)|_,_=>none)=_
  rw[T9 p l];rfl
def Y1 {p:α->Bool}{l:List α}(h:∀x∈l,p x=true):ZX (l.map λx=>W.bl (p x)) A=.ok (.bl true) A:=by
 show wX (λks=>ks.all id) _ A=_;unfold wX;rw[T9];dsimp only
 have:(l.map p).all id=true:=by
  rw[List.all_map];exact bU.mpr λx H=>h x H
 rw[this]
theorem g8 {f:α->W}(h:∀x,(f x).nr=true):∀l:List α,qG (l.map f)=true
 |[]=>rfl|x::l=>by
  show((f x).nr&&qG (l.map f))=true;rw[h x,g8 h l];rfl
def K7 (i j:Int)(A:Hx):jY (.int i) (.int j) A=.ok (.bl (decide (i=j))) A:=by
 show R.ok (W.bl (PyData.eqv (.int i) (.int j))) A=_;simp[PyData.eqv]
 rfl
def X7 (i j:Int)(A:Hx):q9 (.int i) (.int j) A=.ok (.bl (!decide (i=j))) A:=by
 show R.ok (W.bl (!PyData.eqv (.int i) (.int j))) A=_;simp[PyData.eqv]
 rfl
def cF (i j:Bool)(A:Hx):q9 (.bl i) (.bl j) A=.ok (.bl (!(i==j))) A:=by
 cases i<;>cases j<;>rfl
end
noncomputable def zC (r:bt):W:=.tup (r.map W.int)
def zj (t:br):W:=.tup (t.map zC)
def GX (r:bt):(zC r).nr=true:=by
 show qG (r.map W.int)=true;exact g8 (λ_=>rfl) r
def Za (t:br):(zj t).nr=true:=by
 show qG (t.map zC)=true;exact g8 GX t
def T6 {st:W->Ex}{N:Nat}{item:Nat->W}{I:En->Prop}(t:∀i,i<N->j.at_ A i=some (some (item i)))(H:j.at_ A N=some none)
  (s:∀i,i<N->∀ρ,I ρ->∃a,st (item i) ρ A=.ok (.nx a) A/\I a):∀(n i:Nat)(ρ:En),i+n=N->I ρ->∃a,jF j st n i ρ A=.ok (.nx a) A/\I a:=by
 intro n
 induction n with
 |zero=>
  intro i ρ h c
  have:i=N:=by omega
  subst this;exact⟨ρ,Gp H,c⟩
 |succ n d=>
  intro i ρ h c;obtain⟨ρ1,E,g⟩:=s i (by omega) ρ c
  obtain⟨b,e,f⟩:=d (i+1) ρ1 (by omega) g
  exact⟨b,(YI (t i (by omega)) E).trans e,f⟩
def Qk (h:m ρ A=.ok (.tup ws) A1):yk m ρ A=.ok (yz (.tup ws) ws.length) A1:=by
 unfold yk;rw[h,zK]
 rfl
def QD {w:W}(h:ws[i]? =some w):(yz (.tup ws) ws.length).at_ A i=some (some (.tup [.int i,w])):=by
 show atEnd ws i _=_;unfold atEnd;rw[h]
def Qz:(yz (.tup ws) ws.length).at_ A ws.length=some none:=by
 show atEnd ws _ _=_;unfold atEnd;rw[az (ak _)];exact aj rfl
noncomputable def at2 (t:br)(a b:Nat):Int:=(t.getD a []).getD b 0
structure qI (t:br):Prop where
 n1:1<=t.length
 n8:t.length<=8
 sq:∀r∈t,r.length=t.length
 lo:∀r∈t,∀v∈r,0<=v/\v<(t.length:Int)
 dg:∀a b,a<t.length->b<t.length->(at2 t a b=0↔a=b)
 sy:∀a b,a<t.length->b<t.length->at2 t a b=at2 t b a
 fu:∀k:Nat,(∃v∈t.flatten,(k:Int)<v)->(k:Int)∈t.flatten
section
variable {a b:Nat}
def JR (h:a<t.length):(t.map zC)[a]? =some (zC (t.getD a [])):=by
 rw[aw,aa,ab h];rfl
def yo (h:a<t.length):t.getD a []∈t:=by
 rw[aa,ab h];exact aK h
def ZP (h:a<t.length):zB (zj t) (.int a) A=.ok (zC (t.getD a [])) A:=by
 unfold zB;show(match kh (t.map zC) (a:Int) with|some w=>R.ok w A|none=>R.bad)=_
 rw[YV (JR h)]
def int_at {r:bt}(h:b<r.length):(r.map W.int)[b]? =some (.int (r.getD b 0)):=by
 rw[aw,aa,ab h];rfl
def Qx {r:bt}(h:b<r.length):zB (zC r) (.int b) A=.ok (.int (r.getD b 0)) A:=by
 unfold zB;show(match kh (r.map W.int) (b:Int) with|some w=>R.ok w A|none=>R.bad)=_
 rw[YV (v:=.int (r.getD b 0)) (by rw[aw,aa,ab h];rfl)]
end
section
def F3 {c:Option W}(b:∀i,i<ws.length->j.at_ A i=some (some (ws.getD i .non)))(H:j.at_ A ws.length=some none)(he:∀w,me [c,some w] A=.ok w A):
  ∀(f i:Nat)(x:Option W)(acc:List W),i+f=ws.length->acc.length+f<=qd->∃y,qV j (zI 1) (zY (.bl true)) (zQ me) f i [c,x] acc A=.ok ([c,y],acc++ws.drop i) A:=by
 intro f
 induction f with
 |zero=>
  intro i x acc h hl
  have:i=ws.length:=by omega
  subst this;refine⟨x,?_⟩;unfold qV;rw[H,drop_length,append_nil]
 |succ f I=>
  intro i x acc h hl;have a:i<ws.length:=by omega
  have E:ws.getD i .non=ws[i]:=by rw[aa,ab a];rfl
  obtain⟨y,e⟩:=I (i+1) (some ws[i]) (acc++[ws[i]]) (by omega) (by rw[aA,aV];omega)
  refine⟨y,?_⟩;rw[qV,b i a,E];dsimp only[zI,List.set,zY];rw[zK];dsimp only;have d:zQ me [c,some ws[i]] acc A=.ok ([c,some ws[i]],acc++[ws[i]]) A:=by
   unfold zQ;rw[he,zK,aj (by omega)]
  rw[d,zK];rw[e,aP]
  congr 3
  rw[List.singleton_append,<- a7 a]
def IP (d:∀i,i<t.length->j.at_ A i=some (some (zC (t.getD i []))))(H:j.at_ A t.length=some none):
  ∀(f i:Nat)(x y:Option W)(acc:List W),i+f=t.length->acc.length+(t.drop i).flatten.length<=qd->
   ∃ρ,qV j (zI 0) (zY (.bl true)) (kO (qp (zX 0)) (zI 1) (zY (.bl true)) (zQ (zX 1))) f i [x,y] acc A=.ok (ρ,acc++(t.drop i).flatten.map W.int) A:=by
 intro f
 induction f with
 |zero=>
  intro i x y acc h hl
  have:i=t.length:=by omega
  subst this;refine⟨[x,y],?_⟩;unfold qV;rw[H,drop_length];simp
 |succ f I=>
  intro i x y acc h hl;have a:i<t.length:=by omega
  have r:t.getD i []=t[i]:=by rw[aa,ab a];rfl
  have e:t.drop i=t[i]::t.drop (i+1):=a7 a;rw[e,aZ,aA]at hl;obtain⟨z,E⟩:=F3 (A:=A) (j:=⟨λA i_1=>(z7 (zC t[i]) A).map λws=>ws[i_1]?,(t[i].map W.int).length⟩) (me:=zX 1) (ws:=t[i].map W.int) (c:=some (zC t[i]))
   (λk b=>by
    show some (t[i].map W.int)[k]? =_;rw[aa,ab b];rfl)
   (by show some (t[i].map W.int)[(t[i].map W.int).length]? =_;rw[az (ak _)])
   (λw=>zx rfl) (t[i].map W.int).length 0 y acc (by omega) (by rw[ai];omega)
  rw[List.drop_zero]at E;obtain⟨ρ,l⟩:=I (i+1) (some (zC t[i])) z (acc++t[i].map W.int) (by omega) (by rw[aA,ai];omega)
  refine⟨ρ,?_⟩;rw[qV,d i a,r];dsimp only[zI,List.set,zY];rw[zK];dsimp only;have g:kO (qp (zX 0)) (zI 1) (zY (.bl true)) (zQ (zX 1)) [some (zC t[i]),y] acc A=.ok ([some (zC t[i]),z],acc++t[i].map W.int) A:=by
   unfold kO;rw[ZI (ws:=t[i].map W.int) (A1:=A) (zx (i:=0) rfl),zK];exact E
  rw[g,zK];rw[l,e,aZ,aU,aP]
def Eg (h:m ρ A=.ok (zj t) A)(hl:t.flatten.length<=qd):
  zT 2 [] (qp m) (zI 0) (zY (.bl true)) (kO (qp (zX 0)) (zI 1) (zY (.bl true)) (zQ (zX 1))) ρ A=.ok (t.flatten.map W.int) A:=by
 have hlen:(t.map zC).length=t.length:=ai ..;obtain⟨a,e⟩:=IP (t:=t) (A:=A) (j:=⟨λA i=>(z7 (zj t) A).map λws=>ws[i]?,(t.map zC).length⟩) (λi H=>by show some (t.map zC)[i]? =_;rw[JR H])
  (by show some (t.map zC)[t.length]? =_;rw[az (by omega)]) t.length 0 none none [] (by omega) (by simpa using hl)
 unfold zT;rw[ZI (ws:=t.map zC) h,zK];show R.bind (R.nox (qV ⟨λA i=>(z7 (zj t) A).map λws=>ws[i]?,(t.map zC).length⟩ _ _ _ (t.map zC).length 0 [none,none] [] A)) _=_;rw[hlen]at e ⊢;rw[e];simp
 rfl
end
theorem YE:∀l:bt,intsOf (l.map W.int)=some l
 |[]=>rfl|i::l=>by
  show(match intsOf (l.map W.int) with|some is=>some (i::is)|none=>none)=_
  rw[YE l]
theorem GJ:∀(l:bt)(m:Int),jR l m=m∨jR l m∈l
 |[],_=>.inl rfl|i::l,m=>by
  show jR l (if i > m then i else m)=m∨jR l (if i > m then i else m)∈i::l;rcases GJ l (if i > m then i else m) with e|e
  ·by_cases h:i > m
   ·rw[aj h]at e ⊢;exact .inr (by rw[e];exact aJ ..)
   ·rw[ao h]at e ⊢;exact .inl e
  ·exact .inr (aI _ e)
end Mi
namespace G
open PySem L2 Mi
def H9 (h:qI t):t.flatten.length<=64:=by
 have:∀l:br,(∀r∈l,r.length<=8)->l.flatten.length<=8 * l.length:=by
  intro l
  induction l with
  |nil=>intro _;simp|cons r l i=>
   intro H;have e:=H r (aJ ..);have d:=i λb a=>H b (aI _ a);rw[aZ,aA,bq];omega
 have c:=h.n8
 have:=this t λr H=>by rw[h.sq r H];exact h.n8
 omega
section
def CW (h:ρ[i]? =some (some (zj t))):mQ qe (zP (zX i)) ρ A=.ok (.int t.length) A:=by
 rw[yt (yV (w:=zj t) (A1:=A) (zx h) rfl)];unfold qe;rw[ai]
def g7 (h:n<1000000):jy (n:Int)=true:=by
 unfold jy;simp;omega
end
def Qn (h:m ρ A=.ok (.ref n) A1)(H:A1[n]? =some (.lst ws)):qp m ρ A=.ok ⟨λA i=>(z7 (.ref n) A).map λws=>ws[i]?,ws.length⟩ A1:=by
 unfold qp KH;rw[h,zK];have e:z7 (.ref n) A1=some ws:=by unfold z7;dsimp only;rw[H]
 rw[e]
def kN (h:A[n]? =some (.lst ws)):((z7 (.ref n) A).map λws=>ws[i]?)=some ws[i]?:=by
 have e:z7 (.ref n) A=some ws:=by unfold z7;dsimp only;rw[h]
 rw[e];rfl
def y9:List Int->Int
 |[]=>0|i::is=>jR is i
def Rl {r:bt}(h:r≠[]):yH (r.map W.int) A=.ok (.int (y9 r)) A:=by
 unfold yH;rw[YE];cases r with
 |nil=>exact absurd rfl h|cons i is=>rfl
def YL {r:bt}(h:r≠[]):y9 r∈r:=by
 cases r with
 |nil=>exact absurd rfl h|cons i is=>
  rcases GJ is i with e|e
  ·show jR is i∈_;rw[e];exact aJ ..
  ·exact aI _ e
def qy (t:br):Int:=y9 (t.map y9)+1
section
def _root_.Mi.qI.row_ne (h:qI t){r:bt}(H:r∈t):r≠[]:=λe=>by
 have a:=h.sq r H;have b:=h.n1;rw[e,List.length_nil]at a;omega
def _root_.Mi.qI.map_ne (h:qI t):t.map y9≠[]:=λe=>by
 have:=h.n1
 rw[List.map_eq_nil_iff]at e;rw[e]at this;simp at this
def Zc (h:qI t):1<=qy t/\qy t<=8:=by
 obtain⟨r,H,e⟩:=bR.mp (YL h.map_ne)
 have:=h.lo r H _ (YL (h.row_ne H))
 have:=h.n8
 unfold qy;rw[<- e];omega
def JX (h:qI t){a b:Nat}(H:a<t.length)(c:b<t.length):0<=at2 t a b/\at2 t a b<8:=by
 have hl:=h.sq _ (yo H)
 have:(t.getD a []).getD b 0∈t.getD a []:=by
  rw[aa (l:=t.getD a []),ab (by omega)];exact aK _
 have d:=h.lo _ (yo H) _ this
 have:=h.n8
 unfold at2;omega
def JS (h:q ρ A=.ok ws A1):mQ je q ρ A=.ok (.tup ws) A1:=(yt h).trans rfl
end
end G
namespace Mi
open PySem L2
def GV {w:W}{s:Nat}(h:A[n]? =some (.lst ws))(H:ws[s]? =some w):zB (.ref n) (.int (s:Int)) A=.ok w A:=by
 unfold zB;have e:z7 (.ref n) A=some ws:=by unfold z7;dsimp only;rw[h]
 rw[e];dsimp only;rw[YV H]
def yG {o u:O}(h:A[n]? =some o):(A++[u])[n]? =some o:=by
 have:=(bP.mp h).1
 rw[ah this];exact h
def kq {u:O}:(A++[u])[A.length]? =some u:=by simp
noncomputable def ZY (μ:Nat->Nat->Int)(a b:Nat)(k:Int):Nat->Nat->Int:=λi j=>if i=a/\j=b then k else μ i j
structure Mu (n:Nat)(μ:Nat->Nat->Int)(c:Nat)(done:Nat->Nat->Prop):Prop where
 dg:∀i,μ i i=0
 sy:∀i j,μ i j=μ j i
 dn:∀i j,i<j->j<n->done i j->1<=μ i j/\μ i j<=(c:Int)
 un:∀i j,i<j->j<n->¬done i j->μ i j=0
 fu:∀k:Nat,1<=k->k<=c->∃i j,i<n/\j<n/\μ i j=(k:Int)
noncomputable def yL (n:Nat)(μ:Nat->Nat->Int):br:=(List.range n).map λi=>(List.range n).map (μ i)
def GO {μ:Nat->Nat->Int}{j:Nat}(H:i<n)(h:j<n):at2 (yL n μ) i j=μ i j:=by
 unfold at2 yL;rw[aa (l:=(List.range n).map λi=>(List.range n).map (μ i)),aw,aX H];show((List.range n).map (μ i)).getD j 0=_;rw[aa,aw,aX h]
 rfl
def Mu.tab {c:Nat}{μ:Nat->Nat->Int}{d:Nat->Nat->Prop}(h:Mu n μ c d)(all:∀i j,i<j->j<n->d i j)(n1:1<=n)(n8:n<=8)(y:n=1∨c<n):qI (yL n μ):=by
 have len:(yL n μ).length=n:=by unfold yL;simp
 have val:∀i j,i<n->j<n->i≠j->1<=μ i j/\μ i j<=(c:Int):=λi j H f ne=>by
  rcases Nat.lt_or_gt_of_ne ne with q|q
  ·exact h.dn i j q f (all i j q f)
  ·rw[h.sy];exact h.dn j i q H (all j i q H)
 have mem:∀r∈yL n μ,∀v∈r,∃i j,i<n/\j<n/\v=μ i j:=λr g v o=>by
  unfold yL at g;obtain⟨i,H,rfl⟩:=bR.mp g;obtain⟨j,f,rfl⟩:=bR.mp o;exact⟨i,j,bO.mp H,bO.mp f,rfl⟩
 have I:∀i j,i<n->j<n->μ i j∈(yL n μ).flatten:=λi j H f=>List.mem_flatten.mpr ⟨_,bR.mpr ⟨i,bO.mpr H,rfl⟩,bR.mpr ⟨j,bO.mpr f,rfl⟩⟩;refine⟨by rw[len];exact n1,by rw[len];exact n8,λr g=>?_,λr g v o=>?_,λa b m l=>?_,λa b m l=>?_,λk x=>?_⟩
 ·rw[len]
  unfold yL at g;obtain⟨i,H,rfl⟩:=bR.mp g;simp
 ·rw[len]
  obtain⟨i,j,H,f,rfl⟩:=mem r g v o
  by_cases q:i=j
  ·subst q;rw[h.dg];omega
  ·have:=val i j H f q
   omega
 ·rw[len]at m l
  rw[GO m l]
  constructor
  ·intro e
   by_cases q:a=b
   ·exact q
   ·have:=val a b m l q;omega
  ·intro e;subst e;exact h.dg a
 ·rw[len]at m l
  rw[GO m l,GO l m];exact h.sy a b
 ·obtain⟨v,o,t⟩:=x
  obtain⟨r,g,p⟩:=List.mem_flatten.mp o;obtain⟨i,j,H,f,rfl⟩:=mem r g v p
  by_cases K:k=0
  ·subst K
   have:=I 0 0 (by omega) (by omega)
   rw[h.dg]at this;exact this
  ·by_cases q:i=j
   ·subst q;rw[h.dg]at t;omega
   ·have:=val i j H f q
    obtain⟨w,J,u,s,e⟩:=h.fu k (by omega) (by omega)
    have:=I w J u s
    rw[e]at this;exact this
end Mi
namespace G
open PySem L2 Mi
def ZQ {i j:Int}(H:-(2 ^ 64)<i)(h:i<2 ^ 64):qh (.int i) (.int j) A=.ok (.int (i * j)) A:=by
 unfold qh;dsimp only;rw[aj];unfold Ya;rw[bj,ag,af,af];exact .inl ⟨H,h⟩
def ZS {i j:Int}(h:0<j):jU (.int i) (.int j) A=.ok (.int (i%j)) A:=by
 unfold jU wB;dsimp only;rw[aj];unfold Kv;exact aC h
def Ka {i j:Int}(h:0<j)(H:j<1152921504606846976):yv (.int i) (.int j) A=.ok (.int (i/j)) A:=by
 unfold yv wB;dsimp only;rw[aj];unfold Kt;rw[ag,af,af];exact⟨h,H⟩
def Bn {c m:Int}(h:0<m)(H:m<1000000000000000):Ji [.ref 0,.int m] [.lst [.int c,.bl true]]=.ok (.int (c%m)) [.lst [.int (c/m),.bl true]]:=by
 refine jo ?_;unfold Gj;refine qX (A1:=[.lst [.int (c/m),.bl true]]) ?_;refine(JZ (A1:=[.lst [.int c,.bl true]]) rfl).trans ?_;refine(qc (ρ1:=[some (.ref 0),some (.int m),some (.int (c%m)),none]) (A1:=[.lst [.int c,.bl true]]) ?_).trans ?_
 ·refine(jq (w:=.int (c%m)) (A1:=[.lst [.int c,.bl true]]) ?_).trans rfl
  exact(qb (x:=.int c) (y:=.int m) (A1:=[.lst [.int c,.bl true]]) (A2:=[.lst [.int c,.bl true]]) rfl rfl).trans (ZS h)
 ·refine(qc (ρ1:=[some (.ref 0),some (.int m),some (.int (c%m)),none]) (A1:=[.lst [.int (c/m),.bl true]]) ?_).trans rfl
  have e:zh yv (zh zB zp qj) zt [some (.ref 0),some (.int m),some (.int (c%m)),none] [.lst [.int c,.bl true]]=.ok (.int (c/m)) [.lst [.int c,.bl true]]:=
   (qb (x:=.int c) (y:=.int m) (A1:=[.lst [.int c,.bl true]]) (A2:=[.lst [.int c,.bl true]]) rfl rfl).trans (Ka h (by omega))
  unfold Qy;rw[e,zK]
  rfl
noncomputable def Zr (c:Int):Int:=(c * 48271+29)%2147483647
noncomputable def k4 (d:Int):Int:=(d * d+39373 * d+7)%2147483629
noncomputable def wI (e:Int):Int:=(e * e+16807 * e)%2147483587
def XD (c:Int):0<=Zr c/\Zr c<2147483647:=⟨emod_nonneg _ (by decide),bh _ (by decide)⟩
def Ax (c:Int):0<=k4 c/\k4 c<2147483629:=⟨emod_nonneg _ (by decide),bh _ (by decide)⟩
def Bd {c m:Int}(i:0<=c)(h:c<2147483647)(H:0<m)(j:m<1000000000000000):Ji [.ref 0,.int m] [.lst [.int c,.bl false]]=.ok (.int (wI (k4 (Zr c))/8%m)) [.lst [.int (Zr c),.bl false]]:=by
 have l:=XD c;refine jo ?_;unfold Gj;refine(qc (ρ1:=[some (.ref 0),some (.int m),none,none]) (A1:=[.lst [.int c,.bl false]]) ((wj (A1:=[.lst [.int c,.bl false]]) rfl).trans rfl)).trans ?_;have g:zh jU (zh qU (zh qh (zh zB zp qj) (zY (.int 48271))) (zY (.int 29))) (zY (.int 2147483647)) [some (.ref 0),some (.int m),none,none] [.lst [.int c,.bl false]]=.ok (.int (Zr c)) [.lst [.int c,.bl false]]:=by
  have em:zh qh (zh zB zp qj) (zY (.int 48271)) [some (.ref 0),some (.int m),none,none] [.lst [.int c,.bl false]]=.ok (.int (c * 48271)) [.lst [.int c,.bl false]]:=
   (qb (x:=.int c) (y:=.int 48271) (A1:=[.lst [.int c,.bl false]]) (A2:=[.lst [.int c,.bl false]]) rfl rfl).trans (ZQ (by omega) (by omega))
  refine(qb (x:=.int (c * 48271+29)) (y:=.int 2147483647) (A1:=[.lst [.int c,.bl false]]) (A2:=[.lst [.int c,.bl false]]) ((qb em rfl).trans rfl) rfl).trans ?_;exact ZS (by decide)
 refine(qc (ρ1:=[some (.ref 0),some (.int m),none,none]) (A1:=[.lst [.int (Zr c),.bl false]]) ?_).trans ?_
 ·unfold Qy
  rw[g,zK]
  rfl
 generalize Zr c=d at*;have b:zh jU (zh qU (zh qU (zh qh (zh zB zp qj) (zh zB zp qj)) (zh qh (zY (.int 39373)) (zh zB zp qj))) Oz) (zY (.int 2147483629)) [some (.ref 0),some (.int m),none,none] [.lst [.int d,.bl false]]=
   .ok (.int (k4 d)) [.lst [.int d,.bl false]]:=by
  have em:zh qh (zh zB zp qj) (zh zB zp qj) [some (.ref 0),some (.int m),none,none] [.lst [.int d,.bl false]]=.ok (.int (d * d)) [.lst [.int d,.bl false]]:=
   (qb (x:=.int d) (y:=.int d) (A1:=[.lst [.int d,.bl false]]) (A2:=[.lst [.int d,.bl false]]) rfl rfl).trans (ZQ (by omega) (by omega))
  have E:zh qh (zY (.int 39373)) (zh zB zp qj) [some (.ref 0),some (.int m),none,none] [.lst [.int d,.bl false]]=.ok (.int (39373 * d)) [.lst [.int d,.bl false]]:=
   (qb (x:=.int 39373) (y:=.int d) (A1:=[.lst [.int d,.bl false]]) (A2:=[.lst [.int d,.bl false]]) rfl rfl).trans (ZQ (by decide) (by decide))
  have s:zh qU (zh qh (zh zB zp qj) (zh zB zp qj)) (zh qh (zY (.int 39373)) (zh zB zp qj)) [some (.ref 0),some (.int m),none,none] [.lst [.int d,.bl false]]=.ok (.int (d * d+39373 * d)) [.lst [.int d,.bl false]]:=
   (qb em E).trans rfl
  refine(qb (x:=.int (d * d+39373 * d+7)) (y:=.int 2147483629) (A1:=[.lst [.int d,.bl false]]) (A2:=[.lst [.int d,.bl false]]) ((qb s rfl).trans rfl) rfl).trans ?_;exact ZS (by decide)
 refine(qc (jq b)).trans ?_;have B:=Ax d;generalize k4 d=e at*;have a:zh jU (zh qU (zh qh zS zS) (zh qh (zY (.int 16807)) zS)) (zY (.int 2147483587)) [some (.ref 0),some (.int m),none,some (.int e)] [.lst [.int d,.bl false]]=.ok (.int (wI e)) [.lst [.int d,.bl false]]:=by
  have em:zh qh zS zS [some (.ref 0),some (.int m),none,some (.int e)] [.lst [.int d,.bl false]]=.ok (.int (e * e)) [.lst [.int d,.bl false]]:=
   (qb (x:=.int e) (y:=.int e) (A1:=[.lst [.int d,.bl false]]) (A2:=[.lst [.int d,.bl false]]) rfl rfl).trans (ZQ (by omega) (by omega))
  have E:zh qh (zY (.int 16807)) zS [some (.ref 0),some (.int m),none,some (.int e)] [.lst [.int d,.bl false]]=.ok (.int (16807 * e)) [.lst [.int d,.bl false]]:=
   (qb (x:=.int 16807) (y:=.int e) (A1:=[.lst [.int d,.bl false]]) (A2:=[.lst [.int d,.bl false]]) rfl rfl).trans (ZQ (by decide) (by decide))
  refine(qb (x:=.int (e * e+16807 * e)) (y:=.int 2147483587) (A1:=[.lst [.int d,.bl false]]) (A2:=[.lst [.int d,.bl false]]) ((qb em E).trans rfl) rfl).trans ?_;exact ZS (by decide)
 refine(qc (jq a)).trans ?_;generalize wI e=f at*;refine qX (jI ?_);refine(qb (x:=.int (f/8)) (y:=.int m) (A1:=[.lst [.int d,.bl false]]) (A2:=[.lst [.int d,.bl false]]) ?_ rfl).trans (ZS H);exact(qb (x:=.int f) (y:=.int 8) (A1:=[.lst [.int d,.bl false]]) (A2:=[.lst [.int d,.bl false]]) rfl rfl).trans (Ka (by decide) (by decide))
def jW (n:Nat)(A:Hx):Prop:=∃c b,A[n]? =some (.lst [.int c,.bl b])/\0<=c/\(b=false->c<2147483647)
def Xn (h:jW n A){m:Int}(H:0<m)(g:m<1000000000000000):∃r o,wa [.ref n,.int m] A=.ok (.int r) (A.set n o)/\0<=r/\r<m/\jW n (A.set n o):=by
 obtain⟨c,b,f,d,i⟩:=h;have hn:n<A.length:=(bP.mp f).1;have fin:∀(r C:Int),Ji [.ref 0,.int m] [.lst [.int c,.bl b]]=.ok (.int r) [.lst [.int C,.bl b]]->wa [.ref n,.int m] A=.ok (.int r) (A.set n (.lst [.int C,.bl b])):=λr C e=>by
  unfold wa j3;dsimp only;rw[f];dsimp only;have a:(qG [W.int c,W.bl b]&&qG [W.int m])=true:=rfl;rw[aj a,e]
  rfl
 cases b with
 |true=>
  refine⟨c%m,_,fin _ _ (Bn H g),emod_nonneg _ (by omega),bh _ H,c/m,true,aB hn,Int.ediv_nonneg d (by omega),λz=>nomatch z⟩
 |false=>
  exact⟨_,_,fin _ _ (Bd d (i rfl) H g),emod_nonneg _ (by omega),bh _ H,Zr c,false,aB hn,(XD c).1,λ_=>(XD c).2⟩
end G
namespace Mi
open PySem L2
def Su {k:Nat}{xs y:List W}(h:A[n]? =some (.lst xs))(H:A[k]? =some (.lst y))(hl:xs.length+y.length<=qd):qU (.ref n) (.ref k) A=.ok (.ref A.length) (A++[.lst (xs++y)]):=by
 unfold qU;dsimp only;rw[h,H];dsimp only;rw[aj hl]
def Ext (A a:Hx):Prop:=∃l,a=A++l
def Ext.trans {B C:Hx}(a:Ext A B)(b:Ext B C):Ext A C:=let ⟨l,e⟩:=a;let ⟨k,f⟩:=b;⟨l++k,by rw[f,e,aP]⟩
def Ext.one {o:O}:Ext A (A++[o]):=⟨[o],rfl⟩
def Ext.at {a:Hx}{o:O}(x:Ext A a)(h:A[n]? =some o):a[n]? =some o:=by
 obtain⟨l,rfl⟩:=x
 have:=(bP.mp h).1
 rw[ah this];exact h
def Se {ifs:Ev}{N:Nat}{I:Nat->En->List W->Hx->Prop}
  (H:∀i ρ acc A,i<N->I i ρ acc A->∃w ρ1,j.at_ A i=some (some w)/\tw w ρ=some ρ1/\((∃A1 c a A2,ifs ρ1 A=.ok (.bl true) A1/\em ρ1 acc A1=.ok (c,a) A2/\I (i+1) c a A2)∨(∃A1,ifs ρ1 A=.ok (.bl false) A1/\I (i+1) ρ1 acc A1)))
  (e:∀ρ acc A,I N ρ acc A->j.at_ A N=some none):
  ∀(f i:Nat)(ρ:En)(acc:List W)(A:Hx),i+f=N->I i ρ acc A->∃d b n,qV j tw ifs em f i ρ acc A=.ok (d,b) n/\I N d b n:=by
 intro f
 induction f with
 |zero=>
  intro i ρ acc A h g
  have:i=N:=by omega
  subst this;refine⟨ρ,acc,A,?_,g⟩;unfold qV;rw[e _ _ _ g]
 |succ f m=>
  intro i ρ acc A h g;obtain⟨w,ρ1,q,p,o⟩:=H i ρ acc A (by omega) g
  rw[qV,q];dsimp only;rw[p];dsimp only;rcases o with ⟨A1,c,a,A2,l,r,E⟩|⟨A1,l,E⟩
  ·rw[l,zK]
   dsimp only;rw[r,zK];exact m (i+1) _ _ _ (by omega) E
  ·rw[l,zK]
   dsimp only;exact m (i+1) _ _ _ (by omega) E
def Gq {nl:Nat}{ifs:Ev}{N:Nat}{I:Nat->En->List W->Hx->Prop}(hm:mi ρ A=.ok j A1)(g:j.len=N)
  (h:∀i ρ acc A,i<N->I i ρ acc A->∃w ρ1,j.at_ A i=some (some w)/\tw w ρ=some ρ1/\((∃A1 d b A2,ifs ρ1 A=.ok (.bl true) A1/\em ρ1 acc A1=.ok (d,b) A2/\I (i+1) d b A2)∨(∃A1,ifs ρ1 A=.ok (.bl false) A1/\I (i+1) ρ1 acc A1)))
  (H:∀ρ acc A,I N ρ acc A->j.at_ A N=some none)(h0:I 0 (Zd nl cap ρ) [] A1):∃c a f,zT nl cap mi tw ifs em ρ A=.ok a f/\I N c a f:=by
 obtain⟨c,a,f,e,l⟩:=Se h H N 0 _ _ _ (by omega) h0
 refine⟨c,a,f,?_,l⟩;unfold zT;rw[hm,zK,g,e]
 rfl
def Jl {st:W->Ex}{N:Nat}{I:Nat->En->Hx->Prop}
  (H:∀i ρ A,i<N->I i ρ A->∃w ρ1 A1,j.at_ A i=some (some w)/\st w ρ A=.ok (.nx ρ1) A1/\I (i+1) ρ1 A1)(d:∀ρ A,I N ρ A->j.at_ A N=some none):
  ∀(f i:Nat)(ρ:En)(A:Hx),i+f=N->I i ρ A->∃a c,jF j st f i ρ A=.ok (.nx a) c/\I N a c:=by
 intro f
 induction f with
 |zero=>
  intro i ρ A h b
  have:i=N:=by omega
  subst this;exact⟨ρ,A,Gp (d _ _ b),b⟩
 |succ f e=>
  intro i ρ A h b;obtain⟨w,ρ1,A1,m,l,g⟩:=H i ρ A (by omega) b
  rw[YI m l];exact e (i+1) _ _ (by omega) g
def GD {acc:List W}{y:W}(h:me ρ A=.ok y A1)(hl:acc.length<qd):zQ me ρ acc A=.ok (ρ,acc++[y]) A1:=by
 unfold zQ;rw[h,zK,aj hl]
theorem take_succ {l:List α}(h:i<l.length):l.take (i+1)=l.take i++[l[i]]:=by
 rw[List.take_succ,ab h];rfl
def gq {o:O}(h:A[n]? =some o):n<A.length:=(bP.mp h).1
end Mi
namespace G
open PySem L2 Mi
def DP {w:W}(H:A[n]? =some (.lst ws))(h:ws[i]? =some w):((z7 (.ref n) A).map λws=>ws[i]?)=some (some w):=by
 rw[kN H,h]
def By (H:A[n]? =some (.lst ws))(h:ws.length<=i):((z7 (.ref n) A).map λws=>ws[i]?)=some none:=by
 rw[kN H,az h]
theorem YW:∀(l:bt)(m:Int),m<=jR l m/\∀x∈l,x<=jR l m
 |[],m=>⟨Int.le_refl _,λx h=>by cases h⟩|y::l,m=>by
  unfold jR
  split
  ·rename_i c
   obtain⟨b,a⟩:=YW l y;refine⟨by omega,λx H=>?_⟩
   rcases bQ.mp H with rfl|H
   ·exact b
   ·exact a x H
  ·rename_i c
   obtain⟨b,a⟩:=YW l m;refine⟨b,λx H=>?_⟩;rcases bQ.mp H with rfl|H
   ·omega
   ·exact a x H
theorem Tw:∀{l:List α}{k:Nat}{w:α},l[k]? =some w->l.Perm (w::l.eraseIdx k)
 |[],_,_,h=>by simp at h|x::l,0,w,h=>by
  simp at h;subst h;simp
 |x::l,k+1,w,h=>by
  rw[List.getElem?_cons_succ]at h;rw[List.eraseIdx_cons_succ];exact((Tw h).cons x).trans (List.Perm.swap w x _)
def Ij {k:Nat}{i:Int}{w:W}(h:A[n]? =some (.lst ws))(hw:ws[k]? =some w)(H:jy i=true)(e:seqIndex? i ws.length=some k):wd (.ref n) (.int i) A=.ok w (A.set n (.lst (ws.eraseIdx k))):=by
 unfold wd;dsimp only;rw[h];dsimp only;rw[aj H,e];dsimp only;rw[hw]
def DT {k:Nat}(hl:k<n):seqIndex? (k:Int) n=some k:=by
 have:=PySem.StrLaws.seqIndex_nonneg (i:=(k:Int)) (n:=n) (by omega) (by omega)
 rw[aH]at this;exact this
def Hl {k:Nat}{w:W}(h:A[n]? =some (.lst ws))(hw:ws[k]? =some w)(H:k<1000000):wd (.ref n) (.int (k:Int)) A=.ok w (A.set n (.lst (ws.eraseIdx k))):=
 Ij h hw (G.g7 H) (DT (bP.mp hw).1)
theorem T8 {β:Type}(f:α->β):∀(l:List α)(k:Nat),(l.map f).eraseIdx k=(l.eraseIdx k).map f
 |[],_=>rfl|_::_,0=>rfl|a::l,k+1=>by
  rw[aS,List.eraseIdx_cons_succ,List.eraseIdx_cons_succ,aS,T8 f l k]
def Sf {a b:Ev}{y:W}(H:a ρ A=.ok (.ref n) A)(c:A[n]? =some (.lst ws))(h:b ρ A=.ok y A1):jQ g a b ρ A=g (.ref n) y A1:=by
 unfold jQ;have hl:QQ (.ref n) A=true:=by unfold QQ;dsimp only;rw[c]
 rw[H,zK,aj hl,h,zK]
def L3 {y:W}(h:A[n]? =some (.lst ws))(hl:ws.length<1000):yi (.ref n) y A=.ok .non (A.set n (.lst (ws++[y]))):=by
 unfold yi;dsimp only;rw[h];dsimp only;rw[aj (by unfold qd;omega)]
def Y4 {f:Fn}{us:List W}{c C:Int}{b B:Bool}{w:W}(a:A[n]? =some (.lst [.int c,.bl b]))(H:qG us=true)(h:f (.ref 0::us) [.lst [.int c,.bl b]]=.ok w A1)(g:A1[0]? =some (.lst [.int C,.bl B]))(hw:w.nr=true):j3 f (.ref n::us) A=.ok w (A.set n (.lst [.int C,.bl B])):=by
 unfold j3;dsimp only;rw[a];dsimp only;have e:(qG [W.int c,W.bl b]&&qG us)=true:=by rw[H];rfl
 rw[aj e,h];dsimp only;rw[List.head?_eq_getElem?,g];dsimp only;have d:(qG [W.int C,W.bl B]&&w.nr)=true:=by rw[hw];rfl
 rw[aj d]
noncomputable abbrev iL (l:bA):List W:=l.map λ(a:Nat)=>W.int (a:Int)
def IW (h:m ρ A=.ok (.int (n:Int)) A1)(hn:n<=100):Y3 m ρ A=.ok (.ref A1.length) (A1++[.lst (iL (List.range n))]):=by
 unfold Y3;rw[h,zK];dsimp only;rw[g7 (by omega),aH,aC (by unfold qd;omega)]
 rfl
def YQ {o:List α}{f:α->W}{G:α->W}(h:m ρ A=.ok (.tup (o.map f)) A)(hl:o.length<=qd)(he:∀a∈o,me (some (f a)::cap.map λi=>(ρ[i]?).join) A=.ok (G a) A):
  zT 1 cap (qp m) (zI 0) qo (zQ me) ρ A=.ok (o.map G) A:=by
 by_cases h0:o=[]
 ·subst h0
  have e:=gY (cap:=cap) (me:=me) (ρ:=ρ) (A:=A) (N:=0) (item:=λ_=>.non) (g:=λ_=>.non) (ZI h) rfl (by unfold qd;omega) (λi H=>by omega) rfl (λi H=>by omega)
  exact e
 ·obtain⟨x,c⟩:∃x,x∈o:=List.exists_mem_of_ne_nil o h0
  have e:=gY (cap:=cap) (me:=me) (ρ:=ρ) (A:=A) (N:=o.length) (item:=λi=>f (o.getD i x)) (g:=λi=>G (o.getD i x)) (ZI h) (ai ..) hl
   (λi H=>by show some (o.map f)[i]? =_;rw[aw,ab H,aa,ab H];rfl)
   (by show some (o.map f)[o.length]? =_;rw[az (by rw[ai];exact ak _)])
   (λi H=>by
    have:o.getD i x=o[i]:=by rw[aa,ab H];rfl
    rw[this];exact he _ (aK H))
  rw[e]
  congr 1
  apply ext_getElem
  ·simp
  ·intro i d b
   have H:i<o.length:=by simpa using b
   simp[aa,ab H]
def gT {β:Type}(o:List α)(x:α)(f:α->β):o.map f=(List.range o.length).map λi=>f (o.getD i x):=by
 apply ext_getElem
 ·simp
 ·intro i H a
  have h:i<o.length:=by simpa using H
  simp[aa,ab h]
def Y8 (q:∀r∈t,r.length=t.length){v:Int}(h:v∈t.flatten):∃a b,a<t.length/\b<t.length/\at2 t a b=v:=by
 obtain⟨r,H,e⟩:=List.mem_flatten.mp h;obtain⟨a,d,g⟩:=a6 H;obtain⟨b,c,f⟩:=a6 e;refine⟨a,b,d,by rw[<- q r H];exact c,?_⟩
 unfold at2;have E:t.getD a []=r:=by rw[aa,ab d];exact g
 rw[E,aa,ab c];exact f
def EC (q:∀r∈t,r.length=t.length){a b:Nat}(e:a<t.length)(d:b<t.length):∃r∈t,at2 t a b∈r/\at2 t a b∈t.flatten:=by
 have H:t.getD a []∈t:=yo e;have c:at2 t a b∈t.getD a []:=by
  unfold at2;have h:b<(t.getD a []).length:=by rw[q _ H];exact d
  rw[aa (l:=t.getD a []),ab h];exact aK _
 exact⟨_,H,c,List.mem_flatten.mpr ⟨_,H,c⟩⟩
def SU {r:bt}{x:Int}(h:x∈r):x<=y9 r:=by
 cases r with
 |nil=>cases h|cons i is=>
  show x<=jR is i;rcases bQ.mp h with rfl|h
  ·exact(YW is x).1
  ·exact(YW is i).2 x h
section
def JJ (h:qI t){a b:Nat}(d:a<t.length)(c:b<t.length):at2 t a b<qy t:=by
 obtain⟨r,H,e,_⟩:=EC h.sq d c;have f:=SU e;have E:=SU (bR.mpr ⟨r,H,rfl⟩:y9 r∈t.map y9);unfold qy;omega
def Jz (h:qI t):qy t-1∈t.flatten:=by
 obtain⟨r,H,e⟩:=bR.mp (YL h.map_ne)
 have:qy t-1=y9 r:=by unfold qy;omega
 rw[this];exact List.mem_flatten.mpr ⟨r,H,YL (h.row_ne H)⟩
def Xf (h:qI t):qy t<=(t.length:Int):=by
 obtain⟨r,a,H⟩:=List.mem_flatten.mp (Jz h)
 have:=h.lo r a _ H
 omega
def RT (h:qI t){v:Nat}(H:(v:Int)<qy t):∃a b,a<t.length/\b<t.length/\at2 t a b=(v:Int):=by
 by_cases e:(v:Int)=qy t-1
 ·rw[e];exact Y8 h.sq (Jz h)
 ·exact Y8 h.sq (h.fu v ⟨_,Jz h,by omega⟩)
noncomputable def jG (p:bA):bt:=0::p.map λ(k:Nat)=>1+(k:Int)
def kz (t:br)(p o:bA):br:=o.map λa=>o.map λb=>(jG p).getD (at2 t a b).toNat 0
def SV {p:bA}{v:Nat}(H:1<=v)(h:v<=p.length):(jG p).getD v 0=1+((p[v-1]'(by omega):Nat):Int):=by
 obtain⟨v,rfl⟩:∃u,v=u+1:=⟨v-1,by omega⟩
 unfold jG;rw[aa,List.getElem?_cons_succ,aw,ab (by omega)]
 rfl
def Sb (h:qI t){p o:bA}(g:p.Perm (List.range (qy t-1).toNat))(ho:o.Perm (List.range t.length)):qI (kz t p o)/\(kz t p o).length=t.length:=by
 have l:o.length=t.length:=by rw[ho.length_eq,aE]
 have J:=Zc h;have K:=Xf h;have y:p.length=(qy t-1).toNat:=by rw[g.length_eq,aE]
 have n1:=h.n1;have H:∀i,o.getD i 0<t.length:=λi=>by
  by_cases hi:i<o.length
  ·rw[aa,ab hi]
   exact bO.mp (ho.mem_iff.mp (aK hi))
  ·rw[aa,az (by omega)]
   exact n1
 have n:o.Nodup:=(ho.nodup_iff).mpr List.nodup_range;have r:∀a,a<t.length->∃i,i<t.length/\o.getD i 0=a:=λa w=>by
  obtain⟨i,hi,e⟩:=a6 (ho.mem_iff.mpr (bO.mpr w));exact⟨i,by omega,by rw[aa,ab hi];exact e⟩
 have c:∀q (f:q<p.length),p[q]<p.length:=λq f=>by
  have:=bO.mp (g.mem_iff.mp (aK f))
  omega
 have M:Mu t.length (λi j=>(jG p).getD (at2 t (o.getD i 0) (o.getD j 0)).toNat 0) p.length (λ_ _=>True):=by
  refine⟨λi=>?_,λi j=>?_,λi j z x _=>?_,λi j _ _ hn=>absurd trivial hn,λk k1 I=>?_⟩
  ·show(jG p).getD (at2 t (o.getD i 0) (o.getD i 0)).toNat 0=0
   rw[(h.dg _ _ (H i) (H i)).mpr rfl]
   rfl
  ·show(jG p).getD (at2 t (o.getD i 0) (o.getD j 0)).toNat 0=(jG p).getD (at2 t (o.getD j 0) (o.getD i 0)).toNat 0
   rw[h.sy _ _ (H i) (H j)]
  ·show 1<=(jG p).getD (at2 t (o.getD i 0) (o.getD j 0)).toNat 0/\(jG p).getD (at2 t (o.getD i 0) (o.getD j 0)).toNat 0<=(p.length:Int)
   have m:o.getD i 0≠o.getD j 0:=by
    have u:i<o.length:=by omega
    have s:j<o.length:=by omega
    rw[aa,ab u,aa,ab s];intro e;have D:o[i]=o[j]:=e
    have:=(List.getElem_inj n).mp D
    omega
   have d:=h.dg _ _ (H i) (H j);have P:=JX h (H i) (H j);have N:=JJ h (H i) (H j);have L:at2 t (o.getD i 0) (o.getD j 0)≠0:=λe=>m (d.mp e);rw[SV (by omega) (by omega)]
   have:=c ((at2 t (o.getD i 0) (o.getD j 0)).toNat-1) (by omega)
   omega
  ·obtain⟨q,f,e⟩:=a6 (g.mem_iff.mpr (bO.mpr (by omega:k-1<(qy t-1).toNat)))
   obtain⟨a,b,w,A,C⟩:=RT h (v:=q+1) (by omega)
   obtain⟨i,hi,B⟩:=r a w;obtain⟨j,x,E⟩:=r b A;refine⟨i,j,hi,x,?_⟩;show(jG p).getD (at2 t (o.getD i 0) (o.getD j 0)).toNat 0=(k:Int);rw[B,E,C,aH,SV (by omega) (by omega)]
   have:p[q+1-1]'(by omega)=k-1:=e
   rw[this];omega
 have hT:kz t p o=yL t.length (λi j=>(jG p).getD (at2 t (o.getD i 0) (o.getD j 0)).toNat 0):=by
  unfold kz yL;rw[gT o 0,l]
  congr 1
  funext i
  rw[gT o 0 (λb=>(jG p).getD (at2 t (o.getD i 0) b).toNat 0),l]
 refine⟨?_,by unfold kz;rw[ai,l]⟩
 rw[hT];exact M.tab (λ_ _ _ _=>trivial) n1 h.n8 (.inr (by omega))
end
end G
namespace Mi
open PySem L2
def Dx {r b:Nat}{v:W}(h:A[r]? =some (.lst ws))(H:b<ws.length):kB (.ref r) (.int (b:Int)) v A=.ok () (A.set r (.lst (ws.set b v))):=by
 have e:k6 ws.length (b:Int)=some b:=by unfold k6;rw[aj (by omega),aj (by omega),aH]
 unfold kB;dsimp only;rw[h];dsimp only;rw[e]
def KO (t:br):Bool:=decide (1<=t.length)&&(decide (t.length<=8)&&((t.all λr=>r.length==t.length&&r.all λv=>decide (0<=v)&&decide (v<(t.length:Int)))&&
 (((List.range t.length).all λa=>(List.range t.length).all λb=>(decide (at2 t a b=0)==decide (a=b))&&decide (at2 t a b=at2 t b a))&&(List.range 8).all λk=>!(t.flatten.any λv=>decide ((k:Int)<v)) || t.flatten.contains (k:Int))))
def GZ (h:KO t=true):qI t:=by
 unfold KO at h;rw[ag,ag,ag,ag,af,af]at h;obtain⟨n1,n8,i,s,hf⟩:=h;have rw_:∀r∈t,r.length=t.length/\∀v∈r,0<=v/\v<(t.length:Int):=λr hm=>by
  have:=bU.mp i r hm
  rw[ag,aM]at this;refine⟨this.1,λv d=>?_⟩
  have:=bU.mp this.2 v d
  rw[ag,af,af]at this;exact this
 have at_:∀a b,a<t.length->b<t.length->(decide (at2 t a b=0)==decide (a=b))=true/\at2 t a b=at2 t b a:=λa b c H=>by
  have:=bU.mp (bU.mp s a (bO.mpr c)) b (bO.mpr H)
  rw[ag,af]at this;exact this
 refine⟨n1,n8,λr hm=>(rw_ r hm).1,λr hm=>(rw_ r hm).2,λa b c H=>?_,λa b c H=>(at_ a b c H).2,λk j=>?_⟩
 ·have:=aM.mp (at_ a b c H).1
  by_cases q:a=b
  ·rw[aC q]at this;exact⟨λ_=>q,λ_=>of_decide_eq_true this⟩
  ·rw[aG q]at this;exact⟨λz=>absurd z (of_decide_eq_false this),λz=>absurd z q⟩
 ·obtain⟨v,d,f⟩:=j
  obtain⟨r,hm,e⟩:=List.mem_flatten.mp d
  have:=(rw_ r hm).2 v e
  have g:=bU.mp hf k (bO.mpr (by omega))
  rw[bj]at g;rcases g with z|z
  ·exfalso
   have:(t.flatten.any λv=>decide ((k:Int)<v))=true:=List.any_eq_true.mpr ⟨v,d,aC f⟩
   rw[this]at z;cases z
  ·exact List.contains_iff_mem.mp z
end Mi
namespace G
open PySem L2 Mi
def kS (t:br):((zj t).nr&&true)=true:=by rw[Za];rfl
def LZ (i:Int)(A:Hx):Qi [.int i] A=.ok (.bl true) A:=by
 unfold Qi Gn;exact jo (w:=.bl true) (A1:=A) rfl
def Fb {r:bt}(hl:r.length<=8)(A:Hx):Qg [zC r,.int r.length] A=.ok (.bl true) A:=by
 unfold Qg Gf;refine jo ?_;unfold Ta;refine qX (jI ?_);refine(Qs (A1:=A) rfl).trans ?_;have e:mQ qe (zP zp) [some (zC r),some (.int r.length)] A=.ok (.int r.length) A:=by
  rw[yt (yV (w:=zC r) (A1:=A) (zx rfl) rfl)];unfold qe;rw[ai]
 refine(Qs (A1:=A) ((qb e (zx (i:=1) rfl)).trans ((K7 _ _ _).trans (by rw[aC rfl])))).trans ?_
 have E:=GK (cap:=[]) (A:=A) (ρ:=[some (zC r),some (.int r.length)]) (ws:=r.map W.int) (me:=zy Qi (zi zp zr)) (g:=λ_=>.bl true) (zx (i:=0) rfl) (by rw[ai];unfold qd;omega) (λw hw=>by
  obtain⟨i,_,rfl⟩:=bR.mp hw;exact(jd (ws:=[.int i]) (A1:=A) rfl).trans (LZ i A))
 exact(yt E).trans (Y1 (p:=λ_=>true) λ_ _=>rfl)
def EH {r:bt}(hl:r.length<=8)(H:∀v∈r,0<=v/\v<r.length)(A:Hx):QY [zC r,.int r.length,.int r.length] A=.ok (.bl true) A:=by
 unfold QY Wn;refine jo ?_;unfold VE;refine qX (jI ?_);refine(Qs (A1:=A) ((jd (ws:=[zC r,.int r.length]) (A1:=A) rfl).trans (Fb hl A))).trans ?_;have e:=GK (cap:=[2]) (A:=A) (ρ:=[some (zC r),some (.int r.length),some (.int r.length)]) (ws:=r.map W.int) (me:=yQ Zp Zq (zY (.int 0)) (zX 0) (zX 1)) (g:=λ_=>.bl true) (zx (i:=0) rfl) (by rw[ai];unfold qd;omega) (λw hw=>by
  obtain⟨v,h,rfl⟩:=bR.mp hw;obtain⟨b,a⟩:=H v h;unfold yQ;rw[qY,zK,zx (i:=0) (w:=.int v) rfl,zK];show R.bind (R.ok (W.bl (decide ((0:Int)<=v))) A) _=_;rw[aC b,zK];dsimp only;rw[zx (i:=1) (w:=.int r.length) rfl,zK];show R.ok (W.bl (decide (v<(r.length:Int)))) A=_;rw[aC a])
 exact(yt e).trans (Y1 (p:=λ_=>true) λ_ _=>rfl)
def Ct (h:qI t)(A:Hx):Gy [zj t] A=.ok (.bl true) A:=by
 refine ZO (A1:=[]) (kS t) rfl (jo ?_);unfold TY;obtain⟨d,e,_⟩:=T6 (A:=[]) (N:=t.length) (item:=λi=>.tup [.int i,zC (t.getD i [])]) (I:=λρ=>∃m g Y y,ρ=[some (zj t),m,g,Y,y])
  (j:=yz (zj t) (t.map zC).length) (st:=turn (qN 1 2) (zm (qK (yk zH) (qN 3 4) (zm (qW (gK (zh q9 (zh jY qt qj) (zh jY zt zS)) (zh q9 (zh zB (zh zB zp zS) zt) qt)) yn zu) zu)) zu))
  (λi n=>QD (JR n)) (by have:=Qz (A:=[]) (ws:=t.map zC);rw[ai]at this;rw[ai];exact this) (λa f ρ H=>by
   obtain⟨m,g,Y,y,rfl⟩:=H;have l:=h.sq _ (yo f);obtain⟨o,E,p,Z,r⟩:=T6 (A:=[]) (N:=t.length) (item:=λi=>.tup [.int i,.int ((t.getD a []).getD i 0)]) (I:=λρ=>∃Y y,ρ=[some (zj t),some (.int a),some (zC (t.getD a [])),Y,y])
    (j:=yz (zC (t.getD a [])) ((t.getD a []).map W.int).length) (st:=turn (qN 3 4) (zm (qW (gK (zh q9 (zh jY qt qj) (zh jY zt zS)) (zh q9 (zh zB (zh zB zp zS) zt) qt)) yn zu) zu))
    (λi n=>QD (int_at (by omega)))
    (by have:=Qz (A:=[]) (ws:=(t.getD a []).map W.int);rw[ai,l]at this;rw[ai,l];exact this)
    (λb c ρ H=>by
     obtain⟨Y,y,rfl⟩:=H;refine⟨[some (zj t),some (.int a),some (zC (t.getD a [])),some (.int b),some (.int ((t.getD a []).getD b 0))],?_,_,_,rfl⟩;refine(kL rfl).trans ?_;refine(qc ((wj (A1:=[]) ?_).trans rfl)).trans rfl;have v:zh q9 (zh jY qt qj) (zh jY zt zS) [some (zj t),some (.int a),some (zC (t.getD a [])),some (.int b),some (.int ((t.getD a []).getD b 0))] []=.ok (.bl false) []:=by
      refine(qb ((qb (zx (i:=4) rfl) (qY (w:=.int 0))).trans (K7 _ _ _)) ((qb (zx (i:=1) rfl) (zx (i:=3) rfl)).trans (K7 _ _ _))).trans ((cF _ _ _).trans ?_);have hd:(t.getD a []).getD b 0=0↔a=b:=h.dg a b f c
      have:decide ((t.getD a []).getD b 0=0)=decide ((a:Int)=(b:Int)):=by
       by_cases q:a=b
       ·rw[aC (hd.mpr q),aC (by omega)]
       ·rw[aG (λz=>q (hd.mp z)),aG (by omega)]
      rw[this];simp
     have E:zh q9 (zh zB (zh zB zp zS) zt) qt [some (zj t),some (.int a),some (zC (t.getD a [])),some (.int b),some (.int ((t.getD a []).getD b 0))] []=.ok (.bl false) []:=by
      have u:=h.sq _ (yo c);refine(qb ((qb ((qb (zx (i:=0) rfl) (zx (i:=3) rfl)).trans (ZP c)) (zx (i:=1) rfl)).trans (Qx (by omega))) (zx (i:=4) rfl)).trans ((X7 _ _ _).trans ?_)
      have s:(t.getD b []).getD a 0=(t.getD a []).getD b 0:=(h.sy a b f c).symm;rw[s,aC rfl]
      rfl
     exact(XG v).trans E) t.length 0 [some (zj t),some (.int a),some (zC (t.getD a [])),Y,y] (by omega) ⟨_,_,rfl⟩
   refine⟨[some (zj t),some (.int a),some (zC (t.getD a [])),p,Z],?_,_,_,_,_,rfl⟩;refine(kL rfl).trans ?_;rw[r]at E;have hlen:((t.getD a []).map W.int).length=t.length:=by rw[ai,l]
   refine(qc ((yP (Qk (zx (i:=2) rfl))).trans ?_)).trans rfl;show jF (yz (zC (t.getD a [])) ((t.getD a []).map W.int).length) _ ((t.getD a []).map W.int).length 0 _ _=_;rw[hlen]at E ⊢;exact E) t.length 0 [some (zj t),none,none,none,none] (by omega) ⟨_,_,_,_,rfl⟩
 refine(qc (ρ1:=d) (A1:=[]) ((yP (Qk (zx (i:=0) rfl))).trans ?_)).trans (qX rfl);show jF (yz (zj t) (t.map zC).length) _ (t.map zC).length 0 _ _=_;have hlen:(t.map zC).length=t.length:=ai ..;rw[hlen]at e ⊢;exact e
def DI (h:qI t)(A:Hx):Wj [zj t] A=.ok (.bl true) A:=by
 have l:=H9 h;have c:t.flatten≠[]:=by
  intro e;have q:=h.n1;have b:=h.sq _ (yo (t:=t) (a:=0) (by omega))
  have:t.getD 0 []=[]:=by
   have:=List.flatten_eq_nil_iff.mp e _ (yo (t:=t) (a:=0) (by omega))
   exact this
  rw[this]at b;simp at b;omega
 obtain⟨v0,l0,E⟩:=List.exists_cons_of_ne_nil c;refine ZO (A1:=[.lst (t.flatten.map W.int)]) (kS t) rfl (jo ?_);unfold Vq;refine(qc (jq (wM (Eg (zx rfl) (by unfold qd;omega))))).trans (qX (jI ?_))
 generalize m:[O.lst (t.flatten.map W.int)]=B;have s:z7 (.ref 0) B=some (t.flatten.map W.int):=by rw[<- m];rfl
 have em:mQ yH (zP zt) [some (zj t),some (.ref 0)] B=.ok (.int (jR l0 v0)) B:=by
  rw[yt (yV (w:=.ref 0) (A1:=B) (zx rfl) s)];unfold yH;rw[YE,E]
 have H:jR l0 v0∈t.flatten:=by
  rw[E];rcases GJ l0 v0 with e|e
  ·rw[e];exact aJ ..
  ·exact aI _ e
 have f:0<=jR l0 v0/\jR l0 v0<8:=by
  obtain⟨r,b,v⟩:=List.mem_flatten.mp H
  have:=h.lo r b _ v
  have:=h.n8
  omega
 generalize jR l0 v0=M at em H f;obtain⟨K,rfl⟩:=a0 f.1;have o:=gY (cap:=[1]) (me:=zh X3 zp zt) (ρ:=[some (zj t),some (.ref 0)]) (A:=B) (N:=K) (j:=kx 0 K) (item:=λi=>.int (0+i)) (g:=λ_=>.bl true)
  ((ZE em (by unfold jy;simp;omega)).trans (by rw[aH])) rfl (by unfold qd;omega) (λi d=>ZM d) (ZG (by omega))
  (λi d=>by
   refine(qb (zx (i:=0) (w:=.int (0+i)) rfl) (zx (i:=1) (w:=.ref 0) rfl)).trans ?_;show Zm false _ _ _=_;unfold Zm;rw[s];dsimp only;have hf:(jV (.int (0+(i:Int)))&&(t.flatten.map W.int).all jV)=true:=by
    have:(t.flatten.map W.int).all jV=true:=bU.mpr λw hw=>by obtain⟨x,_,rfl⟩:=bR.mp hw;rfl
    rw[this];rfl
   rw[aj hf];have n:QT (.int (0+(i:Int))) (t.flatten.map W.int)=true:=by
    unfold QT;refine List.any_eq_true.mpr ⟨.int i,bR.mpr ⟨(i:Int),h.fu i ⟨_,H,by omega⟩,rfl⟩,?_⟩
    show((i:Int)==0+(i:Int))=true;rw[Int.zero_add];exact beq_self_eq_true _
   rw[n]
   rfl)
 refine(yt o).trans ?_;exact Y1 (p:=λ_=>true) λ_ _=>rfl
def Ee (h:qI t)(A:Hx):Jm [zj t] A=.ok (.bl true) A:=by
 have n1:=h.n1;have n8:=h.n8;unfold Jm Gw;refine jo ?_;unfold Tu;have e:∀ρ:En,mQ qe (zP (zX 0)) (some (zj t)::ρ) A=.ok (.int t.length) A:=λρ=>by
  rw[yt (yV (w:=zj t) (A1:=A) (zx rfl) rfl)];unfold qe;rw[ai]
 refine(qc (ρ1:=[some (zj t),none]) (A1:=A) ((wj (A1:=A) ?_).trans rfl)).trans ?_
 ·refine(XG (A1:=A) rfl).trans ?_
  refine JB (k:=true) ?_;show yQ Zp Zp (zY (.int 1)) (mQ qe (zP (zX 0))) (zY (.int 8)) [some (zj t),none] A=_;unfold yQ;rw[qY,zK,e,zK];show R.bind (R.ok (W.bl (decide ((1:Int)<=t.length))) A) _=_;rw[aC (by omega),zK]
  dsimp only;rw[qY,zK];show R.ok (W.bl (decide ((t.length:Int)<=8))) A=_;rw[aC (by omega)]
 refine(qc (jq (e _))).trans ?_;have E:=GK (cap:=[1]) (A:=A) (ρ:=[some (zj t),some (.int t.length)]) (ws:=t.map zC) (me:=zy QY (zi (zX 0) (zi (zX 1) (zi (zX 1) zr)))) (g:=λ_=>.bl true) (zx (i:=0) rfl) (by rw[ai];unfold qd;omega) (λw hw=>by
  obtain⟨r,H,rfl⟩:=bR.mp hw;have hl:=h.sq r H;refine(jd (ws:=[zC r,.int t.length,.int t.length]) (A1:=A) rfl).trans ?_;rw[<- hl];exact EH (by omega) (λv a=>by have:=h.lo r H v a;omega) A)
 refine(qc (ρ1:=[some (zj t),some (.int t.length)]) (A1:=A) ((wj (A1:=A) (JB (k:=true) ((yt E).trans (Y1 (p:=λ_=>true) λ_ _=>rfl)))).trans rfl)).trans (qX (jI ?_));refine(Qs (A1:=A) ((jd (ws:=[zj t]) (A1:=A) rfl).trans (Ct h A))).trans ?_;exact(jd (ws:=[zj t]) (A1:=A) rfl).trans (DI h A)
end G
namespace Mi
open PySem L2
theorem Tr:∀(l m:bt),PyData.eqvAll (l.map PyData.int) (m.map PyData.int)=decide (l=m)
 |[],[]=>by simp[PyData.eqvAll]|[],_::_=>by simp[PyData.eqvAll]|_::_,[]=>by simp[PyData.eqvAll]|a::l,b::m=>by
  simp only[aS,PyData.eqvAll,Tr l m,PyData.eqv];rw[Bool.eq_iff_iff];simp
def IL {c:En}{N:Nat}{u v g:Nat->W}(t:∀i,i<N->j.at_ A i=some (some (.tup [u i,v i])))(H:j.at_ A N=some none)(he:∀i,i<N->me (some (u i)::some (v i)::c) A=.ok (g i) A):
  ∀(f i:Nat)(x y:Option W)(acc:List W),i+f=N->acc.length+f<=qd->∃ρ,qV j (qN 0 1) (zY (.bl true)) (zQ me) f i (x::y::c) acc A=.ok (ρ,acc++(List.range' i f).map g) A:=by
 intro f
 induction f with
 |zero=>
  intro i x y acc h hl
  have:i=N:=by omega
  subst this;refine⟨x::y::c,?_⟩;unfold qV;rw[H];simp
 |succ f I=>
  intro i x y acc h hl;obtain⟨ρ,e⟩:=I (i+1) (some (u i)) (some (v i)) (acc++[g i]) (by omega) (by rw[aA,aV];omega)
  refine⟨ρ,?_⟩;rw[qV,t i (by omega)]
  dsimp only;rw[show qN 0 1 (.tup [u i,v i]) (x::y::c)=some (some (u i)::some (v i)::c) from rfl]
  dsimp only[zY];rw[zK];dsimp only;have E:zQ me (some (u i)::some (v i)::c) acc A=.ok (some (u i)::some (v i)::c,acc++[g i]) A:=by
   unfold zQ;rw[he i (by omega),zK,aj (by omega)]
  rw[E,zK];rw[e,aP,range'_succ,aS]
  rfl
def Lz {N:Nat}{u v g:Nat->W}(hm:mi ρ A=.ok j A)(b:j.len=N)(d:N<=1000)(H:∀i,i<N->j.at_ A i=some (some (.tup [u i,v i])))(h:j.at_ A N=some none)
  (he:∀i,i<N->me (some (u i)::some (v i)::cap.map λi=>(ρ[i]?).join) A=.ok (g i) A):zT 2 cap mi (qN 0 1) qo (zQ me) ρ A=.ok ((List.range N).map g) A:=by
 obtain⟨a,e⟩:=IL (A:=A) (c:=cap.map λi=>(ρ[i]?).join) H h he N 0 none none [] (by omega) (by unfold qd;simp;omega)
 unfold zT;rw[hm,zK,b];show R.bind (R.nox (qV j _ _ _ N 0 (none::none::cap.map λi=>(ρ[i]?).join) [] A)) _=_;rw[e,<- range_eq_range',bb]
 rfl
def HA {M:Ev}{us vs:List W}(h:m ρ A=.ok (.tup us) A)(h':M ρ A=.ok (.tup vs) A):kC m M ρ A=.ok (gH (.tup us) (.tup vs) us.length) A:=by
 unfold kC;rw[h,zK,h',zK]
 rfl
end Mi
namespace G
open PySem L2 Mi
def GR {f:Fn}{us:List W}{k:Nat}(hn:qG us=true)(h:f us []=.ok (.ref k) A1)(H:A1[k]? =some (.lst ws))(hw:qG ws=true):iso f us A=.ok (.ref A.length) (A++[.lst ws]):=by
 unfold iso;rw[aj hn,h];dsimp only;rw[H];dsimp only;rw[aj hw]
section
def Lr (h:n<1000000):jy (n:Int)=true:=by
 unfold jy;rw[ag,af,af];omega
end
section
def Cy (a:A[0]? =some (.ro (ns.map W.int)))(k:Nat):∃x:Int,Yu [.ref 0,.int k] A=.ok (.int x) A:=by
 have H:z7 (.ref 0) A=some (ns.map W.int):=by unfold z7;dsimp only;rw[a]
 have hl:mQ qe (zP zp) [some (.ref 0),some (.int k)] A=.ok (.int ns.length) A:=by
  rw[yt (yV (w:=.ref 0) (A1:=A) (zx rfl) H)];unfold qe;rw[ai]
 have e:zh Zq zt (mQ qe (zP zp)) [some (.ref 0),some (.int k)] A=.ok (.bl (decide ((k:Int)<ns.length))) A:=(qb (zx (w:=.int k) rfl) hl).trans rfl
 by_cases h:k<ns.length
 ·refine⟨ns[k],jo ?_⟩
  unfold WL;rw[aC (by omega)]at e
  refine qX ((JZ e).trans (qX (jI ?_)));refine(qb (x:=.ref 0) (y:=.int k) (A1:=A) (A2:=A) (zx rfl) (zx rfl)).trans ?_;unfold zB;rw[H];dsimp only;rw[YV (v:=.int ns[k]) (by rw[aw,ab h];rfl)]
 ·refine⟨0,jo ?_⟩
  unfold WL;rw[aG (by omega)]at e
  exact(qc ((wj e).trans rfl)).trans rfl
def Dk (H:A[0]? =some (.ro (ns.map W.int)))(k:Nat):∃o,Qf [.ref 0,.int k] A=.ok (.ref A.length) (A++[o])/\jW A.length (A++[o]):=by
 obtain⟨x,e⟩:=Cy H k;have a:zR 2 (zy Yu (zi zp (zi zt zr))) [some (.ref 0),some (.int k),none] A=.ok (.nx [some (.ref 0),some (.int k),some (.int x)]) A:=by
  refine(jq (w:=.int x) (A1:=A) ?_).trans rfl;rw[jd (ws:=[.ref 0,.int k]) (A1:=A) rfl];exact e
 have E:zh Vj zH (zh QI XM (zY (.int 18))) [some (.ref 0),some (.int k),some (.int x)] A=.ok (.bl (decide ((1000000000000000000:Int)<=x))) A:=(qb (x:=.int x) (y:=.int 1000000000000000000) (A1:=A) (A2:=A) (zx rfl) rfl).trans rfl
 by_cases h:(1000000000000000000:Int)<=x
 ·refine⟨.lst [.int (x-1000000000000000000),.bl true],jo ?_,x-1000000000000000000,true,kq,by omega,λz=>nomatch z⟩
  unfold W2;rw[aC h]at E;refine(qc a).trans (qX ((JZ E).trans (qX (jI (wN ?_)))))
  rfl
 ·refine⟨.lst [.int (x%2147483647),.bl false],jo ?_,x%2147483647,false,kq,emod_nonneg _ (by decide),λ_=>bh _ (by decide)⟩
  unfold W2;rw[aG h]at E;refine(qc a).trans ((qc ((wj E).trans rfl)).trans (qX (jI (wN ?_))));refine qf (A1:=A) (A2:=A) ((qb (x:=.int x) (y:=.int 2147483647) (A1:=A) (A2:=A) (zx rfl) rfl).trans (ZS (by decide))) rfl
def DM (h:qI t)(A:Hx):Jm [zj t] A=.ok (.bl true) A:=Ee h A
def IJ (h:qI t)(A:Hx):Yp [zj t] A=.ok .non A:=by
 unfold Yp Wz;refine Rp (ρ:=[some (zj t)]) ?_;unfold VZ;refine(qc (ρ1:=[some (zj t)]) (A1:=A) ((wj (A1:=A) ?_).trans rfl)).trans rfl;exact JB (k:=true) ((jd (ws:=[zj t]) (A1:=A) rfl).trans (DM h A))
variable {a b:Nat}{w:W}
def BS {a b:Ev}{p q:Bool}(h:a ρ A=.ok (.bl p) A)(H:b ρ A=.ok (.bl q) A):jS a b ρ A=.ok (.bl (p&&q)) A:=by
 cases p with
 |true=>exact(Qs h).trans H|false=>exact R8 h
def DH (h:qI t)(a:ρ[i]? =some (some (zj t))):mQ yH (zT 1 [] (qp (zX i)) (zI 0) qo (zQ (mQ yH (zP zp)))) ρ A=.ok (.int (qy t-1)) A:=by
 have n8:=h.n8;have e:=YQ (cap:=[]) (A:=A) (ρ:=ρ) (o:=t) (f:=zC) (m:=zX i) (me:=mQ yH (zP zp)) (G:=λr=>.int (y9 r)) (zx a) (by unfold qd;omega) (λr H=>(yt (yV (w:=zC r) (ws:=r.map W.int) (A1:=A) (zx rfl) rfl)).trans (Rl (h.row_ne H)))
 have em:(t.map λr=>W.int (y9 r))=(t.map y9).map W.int:=by rw[ba];rfl
 rw[em]at e;refine((yt e).trans (Rl h.map_ne)).trans ?_
 have:qy t-1=y9 (t.map y9):=by unfold qy;omega
 rw[this]
def JA (h:qI t)(A:Hx):kj [zj t] A=.ok (.int (qy t)) A:=by
 refine ZO (A1:=[]) (kS t) rfl (jo ?_);unfold Uk;refine qX (jI ((qb (DH h rfl) qY).trans ?_));show R.ok (W.int (qy t-1+1)) []=_
 congr 2
 omega
variable {N:Nat}
def Dg {g:Nat->Int}{k:Int}(h:b<N):((List.range N).map λj=>W.int (g j)).set b (.int k)=(List.range N).map λj=>W.int (if j=b then k else g j):=by
 apply List.ext_getElem?
 intro i
 by_cases hi:i<N
 ·by_cases q:b=i
  ·subst q
   rw[aB (by simpa using hi),aw,aX hi]
   simp
  ·rw[ay q,aw,aw,aX hi]
   simp[Ne.symm q]
 ·rw[az (by simp;omega),az (by simp;omega)]
end
structure LC (K:Nat)(μ:Nat->Nat->Int)(C:Hx):Prop where
 top:C[2 * K]? =some (.lst ((List.range K).map λi=>W.ref (2 * i+1)))
 row:∀i,i<K->C[2 * i+1]? =some (.lst ((List.range K).map λj=>W.int (μ i j)))
section
variable {K a b j:Nat}{μ:Nat->Nat->Int}{C:Hx}
def LC.put (h:LC K μ C)(f:i<K)(e:j<K)(k:Int):∃b,kB (.ref (2 * i+1)) (.int (j:Int)) (.int k) C=.ok () b/\LC K (ZY μ i j k) b:=by
 have r:=h.row i f;have H:=gq r;refine⟨_,Dx r (by simp;omega),?_,λc d=>?_⟩
 ·rw[ay (by omega)];exact h.top
 ·by_cases q:c=i
  ·subst q
   rw[aB H,Dg e]
   congr 3
   funext a
   unfold ZY
   by_cases z:a=j
   ·rw[aj z,aj ⟨rfl,z⟩]
   ·rw[ao z,ao (by rintro⟨_,w⟩;exact z w)]
  ·rw[ay (by omega),h.row c d]
   congr 3
   funext a
   unfold ZY;rw[ao (by rintro⟨w,_⟩;exact q w)]
def LC.aug (h:LC K μ C){mo mi:Ev}(ho:mo ρ C=.ok (.ref (2 * i+1)) C)(b:mi ρ C=.ok (.int (j:Int)) C)(a:i<K)(H:j<K):∃c,J1 mo mi qC ρ C=.ok (.nx ρ) c/\LC K (ZY μ i j (μ i j+1)) c:=by
 obtain⟨c,e,l⟩:=h.put a H (μ i j+1);refine⟨c,?_,l⟩;unfold J1;rw[ho,zK,b,zK];dsimp only;rw[aj (by omega),h.row i a]
 dsimp only;rw[aH,aw,aX H];show R.bind (kB (.ref (2 * i+1)) (.int (j:Int)) (.int (μ i j+1)) C) _=_;rw[e,zK]
def LC.ix (h:LC K μ C){mi:Ev}(hm:m ρ C=.ok (.ref (2 * K)) C)(H:mi ρ C=.ok (.int (i:Int)) C)(a:i<K):zh zB m mi ρ C=.ok (.ref (2 * i+1)) C:=
 (qb hm H).trans (GV h.top (by rw[aw,aX a];rfl))
def rep1 (w:W):∀n:Nat,(List.replicate n [w]).flatten=(List.range n).map λ_=>w:=λn=>by
 rw[List.map_const',aE]
 induction n with
 |zero=>rfl|succ n i=>rw[a4,aZ,i];rfl
def FV (g:K<=8){x0 x1 x2 x4:Option W}{l:List (Option W)}:∃C,jh (zT 1 [3] (jc zS) (zI 0) qo (zQ (zh qh (jt (zi qj zr)) zt))) (x0::x1::x2::some (.int (K:Int))::x4::l) []=.ok (.ref (2 * K)) C/\LC K (λ_ _=>0) C:=by
 have hm:=ZE (m:=zX 3) (ρ:=x0::x1::x2::some (.int (K:Int))::x4::l) (A:=[]) (k:=(K:Int)) rfl (g7 (by omega))
 rw[aH]at hm;obtain⟨f,acc,B,e,_,H,h⟩:=Gq (nl:=1) (cap:=[3]) (tw:=zI 0) (ifs:=zY (.bl true)) (em:=zQ (zh qh (jt (zi qj zr)) zt)) (N:=K)
  (I:=λi ρ acc B=>(∃y,ρ=[y,some (.int (K:Int))])/\(B.length=2 * i/\∀c,c<i->B[2 * c+1]? =some (.lst ((List.range K).map λj=>W.int 0)))/\acc=(List.range i).map λc=>W.ref (2 * c+1)) hm rfl
  (λi ρ acc B b ⟨⟨y,a⟩,⟨hl,H⟩,h⟩=>by
   subst a h;refine⟨_,_,ZM b,rfl,.inl ⟨B,_,_,B++[.lst [.int 0]]++[.lst ((List.range K).map λj=>W.int 0)],rfl,GD (y:=.ref (2 * i+1)) ?_ (by rw[ai,aE];unfold qd;omega),⟨_,rfl⟩,⟨by simp;omega,λc d=>?_⟩,by rw[range_succ,aU];rfl⟩⟩
   ·refine(qb (wN (qf qY qZ)) (zx (i:=1) (w:=.int (K:Int)) rfl)).trans ?_
    unfold qh;dsimp only;rw[kq];dsimp only;rw[aj (by rw[g7 (by omega),aH];simp;unfold qd;omega),aH,aA,hl,rep1]
    rfl
   ·by_cases q:c=i
    ·subst q
     rw[ar (by simp;omega)]
     simp[hl]
    ·rw[ah (by simp;omega),ah (by omega)]
     exact H c (by omega))
  (λρ acc B _=>ZG (by omega)) ⟨⟨none,rfl⟩,⟨rfl,λc d=>absurd d (Nat.not_lt_zero _)⟩,rfl⟩
 subst h;refine⟨B++[.lst ((List.range K).map λc=>W.ref (2 * c+1))],?_,?_,λi b=>?_⟩
 ·rw[wM e,H.1]
 ·rw[<- H.1];exact kq
 ·exact yG (H.2 i b)
def Fw {k:Nat}(h:m ρ A=.ok (.ref k) A)(a:A[k]? =some (.lst ws))(hl:ws.length<=qd){g:W->W}(he:∀w∈ws,me (some w::cap.map λi=>(ρ[i]?).join) A=.ok (g w) A):
  zT 1 cap (qp m) (zI 0) qo (zQ me) ρ A=.ok (ws.map g) A:=by
 have e:=gY (cap:=cap) (me:=me) (ρ:=ρ) (A:=A) (N:=ws.length) (item:=λi=>ws.getD i .non) (g:=λi=>g (ws.getD i .non)) (Qn h a) rfl hl
  (λi H=>(kN a).trans (by rw[ab H,aa,ab H];rfl))
  ((kN a).trans (by rw[az (ak _)]))
  (λi H=>by
   have:ws.getD i .non=ws[i]:=by rw[aa,ab H];rfl
   rw[this];exact he _ (aK H))
 rw[e]
 congr 1
 apply ext_getElem
 ·simp
 ·intro i c b
  have H:i<ws.length:=by simpa using b
  simp[aa,ab H]
theorem LC.tup (h:LC K μ C)(d:K<=8){i:Nat}(b:ρ[i]? =some (some (.ref (2 * K)))):mQ je (zT 1 [] (qp (zX i)) (zI 0) qo (zQ (mQ je (zP zp)))) ρ C=.ok (zj (yL K μ)) C:=by
 have e:=Fw (cap:=[]) (ws:=(List.range K).map λi=>W.ref (2 * i+1)) (me:=mQ je (zP zp)) (zx b) h.top (by simp;unfold qd;omega) (g:=λw=>match w with|.ref n=>(match C[n]? with|some (.lst ws)=>.tup ws|_=>.non)|_=>.non) (λw hw=>by
  obtain⟨c,a,rfl⟩:=bR.mp hw;have H:=h.row c (bO.mp a);dsimp only;rw[H];exact JS (yV (w:=.ref (2 * c+1)) (A1:=C) (zx rfl) (by unfold z7;dsimp only;rw[H])))
 rw[JS e]
 congr 1
 unfold zj yL;rw[ba,ba]
 congr 1
 refine aW λc a=>?_;have H:=h.row c (bO.mp a);show(match C[2 * c+1]? with|some (.lst ws)=>W.tup ws|_=>.non)=zC ((List.range K).map (μ c))
 rw[H];unfold zC;rw[ba]
 rfl
def shr (t:br)(a b:Nat):Nat->Nat->Nat->Int
 |0=>λ_ _=>0|n+1=>ZY (shr t a b n) (at2 t a n).toNat (at2 t b n).toNat (shr t a b n (at2 t a n).toNat (at2 t b n).toNat+1)
def jN (t:br)(K a b:Nat):br:=yL K (shr t a b t.length)
def Xa (h:qI t)(d:qy t=(K:Int))(c:a<t.length)(H:b<t.length):((at2 t a b).toNat:Int)=at2 t a b/\(at2 t a b).toNat<K:=by
 have f:=JX h c H;have e:=JJ h c H;omega
def GB (h:qI t)(g:qy t=(K:Int))(d:a<t.length)(c:b<t.length)(A:Hx):k9 [zj t,.int (a:Int),.int (b:Int)] A=.ok (zj (jN t K a b)) A:=by
 have n8:=h.n8;have w:=Zc h;have f:((t.getD a []).map W.int).length=t.length:=by rw[ai,h.sq _ (yo d)]
 have s:((t.getD b []).map W.int).length=t.length:=by rw[ai,h.sq _ (yo c)]
 obtain⟨C,u,p⟩:=FV (K:=K) (by omega) (x0:=some (zj t)) (x1:=some (.int (a:Int))) (x2:=some (.int (b:Int))) (x4:=none) (l:=[none,none])
 obtain⟨i,B,E,L,Y,y,H⟩:=Jl (j:=gH (.tup ((t.getD a []).map W.int)) (.tup ((t.getD b []).map W.int)) ((t.getD a []).map W.int).length) (st:=turn (qN 5 6) (zm (J1 (zh zB qt qR) jZ qC) zu)) (N:=t.length)
  (I:=λn ρ B=>LC K (shr t a b n) B/\∃Y y,ρ=[some (zj t),some (.int (a:Int)),some (.int (b:Int)),some (.int (K:Int)),some (.ref (2 * K)),Y,y])
  (λn ρ B hn ⟨l,Y,y,H⟩=>by
   subst H;obtain⟨o,q⟩:=Xa h g d hn;obtain⟨m,Q⟩:=Xa h g c hn;obtain⟨v,e,r⟩:=l.aug (ρ:=[some (zj t),some (.int (a:Int)),some (.int (b:Int)),some (.int (K:Int)),some (.ref (2 * K)),some (.int (at2 t a n)),some (.int (at2 t b n))]) (mo:=zh zB qt qR) (mi:=zX 6) (l.ix (zx rfl) (zx (by rw[o];rfl)) q) (zx (by rw[m];rfl)) q Q
   refine⟨.tup [.int (at2 t a n),.int (at2 t b n)],_,v,?_,(kL rfl).trans ((qc e).trans yE),r,_,_,rfl⟩;show some (zip2 ((t.getD a []).map W.int)[n]? ((t.getD b []).map W.int)[n]?)=_;rw[int_at (by rw[h.sq _ (yo d)];exact hn),int_at (by rw[h.sq _ (yo c)];exact hn)]
   rfl)
  (λρ B _=>by
   show some (zip2 ((t.getD a []).map W.int)[t.length]? ((t.getD b []).map W.int)[t.length]?)=_;rw[az (by omega),az (by omega)]
   rfl) t.length 0 [some (zj t),some (.int (a:Int)),some (.int (b:Int)),some (.int (K:Int)),some (.ref (2 * K)),none,none] C (by omega) ⟨p,_,_,rfl⟩
 subst H;refine ZO (A1:=B) (kS t) (Za _) (jo ?_);unfold Ug;refine(qc (jq ((jd (qf (zx rfl) qZ)).trans ((JA h []).trans (by rw[g]))))).trans ?_
 refine(qc (jq u)).trans ?_;refine(qc (ρ1:=[some (zj t),some (.int (a:Int)),some (.int (b:Int)),some (.int (K:Int)),some (.ref (2 * K)),Y,y]) (A1:=B) ((yP (HA ((qb (zx rfl) (zx rfl)).trans (ZP d)) ((qb (zx rfl) (zx rfl)).trans (ZP c)))).trans ?_)).trans (qX (jI (L.tup (by omega) rfl)))
 have:(gH (.tup ((t.getD a []).map W.int)) (.tup ((t.getD b []).map W.int)) ((t.getD a []).map W.int).length).len=t.length:=f
 rw[this];exact E
end
def yS (t:br)(a b:Nat):List (Int×Int):=(List.range t.length).map λc=>(at2 t a c,at2 t b c)
def JH (t:br):Prop:=∀a b c e,a<t.length->b<t.length->c<t.length->e<t.length->at2 t a b=at2 t c e->(yS t a b).Perm (yS t c e)
def PY (t:br)(k:Int):Nat:=((List.range (t.length * t.length)).find? λm=>decide (at2 t (m/t.length) (m%t.length)=k)).getD 0
def GL (t:br):Bool:=(List.range t.length).all λa=>(List.range t.length).all λb=>let m:=PY t (at2 t a b);(yS t a b).isPerm (yS t (m/t.length) (m%t.length))
def L5 (h:GL t=true):JH t:=λa b c e l j i he g=>by
 unfold GL at h;rw[aR]at h;have f:=h a (bO.mpr l);rw[aR]at f;have m:=List.isPerm_iff.mp (f b (bO.mpr j));have d:=h c (bO.mpr i);rw[aR]at d;have H:=List.isPerm_iff.mp (d e (bO.mpr he));rw[<- g]at H;exact m.trans H.symm
section
variable {p o:bA}
def Sj (ho:o.Perm (List.range t.length)){a b:Nat}(c:a<t.length)(H:b<t.length):at2 (kz t p o) a b=(jG p).getD (at2 t (o.getD a 0) (o.getD b 0)).toNat 0:=by
 have h:o.length=t.length:=by rw[ho.length_eq,aE]
 unfold at2 kz;rw[aa (l:=List.map _ o),aw,ab (by omega)]
 show(List.map _ o).getD b 0=_;rw[aa,aw,ab (by omega)]
 show(jG p).getD (at2 t _ _).toNat 0=_;unfold at2;rw[aa (l:=o) (i:=a),ab (by omega),aa (l:=o) (i:=b),ab (by omega)]
 rfl
def Hd {u v:br}{f:Int->Int}(hl:u.length=v.length)(ho:o.Perm (List.range v.length))(j:∀a b,a<v.length->b<v.length->at2 u a b=f (at2 v (o.getD a 0) (o.getD b 0)))
  (hf:∀a b c e,a<v.length->b<v.length->c<v.length->e<v.length->f (at2 v a b)=f (at2 v c e)->at2 v a b=at2 v c e)(s:JH v):JH u:=by
 have l:o.length=v.length:=by rw[ho.length_eq,aE]
 have h:∀i,i<v.length->o.getD i 0<v.length:=λi n=>by
  rw[aa,ab (by omega)]
  exact bO.mp (ho.mem_iff.mp (aK _))
 have r:∀a b,a<v.length->b<v.length->(yS u a b).Perm ((yS v (o.getD a 0) (o.getD b 0)).map λq=>(f q.1,f q.2)):=λa b g d=>by
  unfold yS;rw[hl,ba];have m:(List.range v.length).map (λc=>(at2 u a c,at2 u b c))=(List.range v.length).map λc=>(f (at2 v (o.getD a 0) (o.getD c 0)),f (at2 v (o.getD b 0) (o.getD c 0))):=aW λc H=>by
   rw[j a c g (bO.mp H),j b c d (bO.mp H)]
  rw[m];have E:=gT o 0 λc=>(f (at2 v (o.getD a 0) c),f (at2 v (o.getD b 0) c));rw[l]at E;rw[<- E];exact ho.map _
 intro a b c e g d H he q;rw[hl]at g d H he;rw[j a b g d,j c e H he]at q
 have:=s _ _ _ _ (h a g) (h b d) (h c H) (h e he) (hf _ _ _ _ (h a g) (h b d) (h c H) (h e he) q)
 exact(r a b g d).trans ((this.map _).trans (r c e H he).symm)
variable {a b c e K:Nat}
theorem Jo (h:qI t)(d:a<t.length)(H:b<t.length):∀n,n<=t.length->∀i j:Nat,shr t a b n i j=((((List.range n).map λc=>(at2 t a c,at2 t b c)).count ((i:Int),(j:Int)):Nat):Int)
 |0,_,i,j=>rfl|n+1,hn,i,j=>by
  have I:=Jo h d H n (by omega)
  have k1:=(JX h d (show n<t.length by omega)).1
  have K:=(JX h H (show n<t.length by omega)).1
  rw[range_succ,aU,List.count_append,List.map_singleton,List.count_singleton];show ZY (shr t a b n) (at2 t a n).toNat (at2 t b n).toNat (shr t a b n (at2 t a n).toNat (at2 t b n).toNat+1) i j=_;unfold ZY
  by_cases q:i=(at2 t a n).toNat/\j=(at2 t b n).toNat
  ·rw[aj q,<- q.1,<- q.2,I,aj (by rw[aM];ext<;>simp<;>omega)]
   omega
  ·rw[ao q,I,ao (by
    rw[aM];intro z;injection z with e Z
    exact q ⟨by omega,by omega⟩)]
   omega
def Sk (h:qI t)(s:JH t)(f:a<t.length)(d:b<t.length)(H:c<t.length)(he:e<t.length)(q:at2 t a b=at2 t c e):jN t K a b=jN t K c e:=by
 unfold jN yL;refine aW λi _=>aW λj _=>?_;rw[Jo h f d _ (ak _),Jo h H he _ (ak _)]
 have:=(s a b c e f d H he q).count_eq ((i:Int),(j:Int))
 unfold yS at this;rw[this]
end
def Jk {st:W->Ex}{N:Nat}{I:Nat->En->Hx->Prop}{Q:W->Hx->Prop}
  (p:∀i ρ A,i<N->I i ρ A->∃w,j.at_ A i=some (some w)/\((∃ρ1 A1,st w ρ A=.ok (.nx ρ1) A1/\I (i+1) ρ1 A1)∨∃r A1,st w ρ A=.ok (.rt r) A1/\Q r A1))(d:∀ρ A,I N ρ A->j.at_ A N=some none):
  ∀(f i:Nat)(ρ:En)(A:Hx),i+f=N->I i ρ A->(∃a b,jF j st f i ρ A=.ok (.nx a) b/\I N a b)∨∃r b,jF j st f i ρ A=.ok (.rt r) b/\Q r b:=by
 intro f
 induction f with
 |zero=>
  intro i ρ A h c
  have:i=N:=by omega
  subst this;exact .inl ⟨ρ,A,Gp (d _ _ c),c⟩
 |succ f m=>
  intro i ρ A h c;obtain⟨w,l,H|H⟩:=p i ρ A (by omega) c
  ·obtain⟨ρ1,A1,H,g⟩:=H
   rcases m (i+1) ρ1 A1 (by omega) g with ⟨a,b,e,q⟩|⟨r,b,e,q⟩
   ·exact .inl ⟨a,b,(YI l H).trans e,q⟩
   ·exact .inr ⟨r,b,(YI l H).trans e,q⟩
  ·obtain⟨r,A1,H,g⟩:=H
   refine .inr ⟨r,A1,?_,g⟩;unfold jF;rw[l];dsimp only;rw[H]
   rfl
noncomputable def QO (r:bt):PyData:=.tuple (r.map .int)
def XO (t:br):PyData:=.tuple (t.map QO)
theorem YJ {f:W->Option PyData}{g:α->W}{h:α->PyData}(e:∀a,f (g a)=some (h a)):∀l:List α,yw f (l.map g)=some (l.map h)
 |[]=>rfl|a::l=>by
  rw[aS,yw,e a,YJ e l]
  rfl
def Eh (A:Hx)(n:Nat)(r:bt):qO A (n+1) (zC r)=some (QO r):=by
 show(yw (qO A n) (r.map W.int)).map PyData.tuple=_;rw[YJ (h:=PyData.int) (λi=>by cases n<;>rfl)]
 rfl
def Ro (A:Hx)(n:Nat)(t:br):qO A (n+2) (zj t)=some (XO t):=by
 show(yw (qO A (n+1)) (t.map zC)).map PyData.tuple=_;rw[YJ (h:=QO) (Eh A n)]
 rfl
section
variable {k:Nat}{w:W}{kvs:List (Key×W)}
theorem So {k:Key}{w:W}:∀{kvs:List (Key×W)},yf k kvs=some w->(k,w)∈kvs
 |[],h=>by cases h|(j,u)::r,h=>by
  have h:(if j=k then some u else yf k r)=some w:=h
  by_cases q:j=k
  ·rw[aj q]at h;cases h;subst q;exact aJ ..
  ·rw[ao q]at h;exact aI _ (So h)
def Rv {f:Fn}{us:List W}{k:Nat}(hn:qG us=true)(h:f us []=.ok (.ref k) A1)(H:A1[k]? =some (.dct kvs))(hw:qG (kvs.map (·.2))=true):iso f us A=.ok (.ref A.length) (A++[.dct kvs]):=by
 unfold iso;rw[aj hn,h];dsimp only;rw[H];dsimp only;rw[aj hw]
end
theorem Ti:∀s t:br,PyData.eqvAll (s.map QO) (t.map QO)=decide (s=t)
 |[],[]=>by simp[PyData.eqvAll]|[],_::_=>by simp[PyData.eqvAll]|_::_,[]=>by simp[PyData.eqvAll]|a::l,b::m=>by
  simp only[aS,PyData.eqvAll,Ti l m,QO,PyData.eqv,Tr];rw[Bool.eq_iff_iff];simp
def cG (s t:br)(A:Hx):q9 (zj s) (zj t) A=.ok (.bl (!decide (s=t))) A:=by
 show wZ true _ _ A=_;unfold wZ;rw[Ro A 6 s,Ro A 6 t];dsimp only;rw[aj rfl,XO,XO,PyData.eqv,Ti]
noncomputable def P1 (a b c e:Nat):W:=.tup [.int (a:Int),.int (b:Int),.int (c:Int),.int (e:Int)]
noncomputable def pre (n a b:Nat):List (Nat×Nat):=((List.range a).flatMap λx=>(List.range n).map λy=>(x,y))++(List.range b).map λy=>(a,y)
def yg (n:Nat):List (Nat×Nat):=pre n n 0
section
variable {a b c e:Nat}
def XI:pre n a (b+1)=pre n a b++[(a,b)]:=by
 unfold pre;rw[range_succ,aU,<- aP]
 rfl
def Ks:pre n a n=pre n (a+1) 0:=by
 unfold pre;rw[range_succ,bf];simp
def El {x y:Nat}:(x,y)∈pre n a b↔(x<a/\y<n)∨(x=a/\y<b):=by
 unfold pre;rw[List.mem_append,List.mem_flatMap]
 constructor
 ·rintro(⟨z,h1,d⟩|h)
  ·obtain⟨u,c,H⟩:=bR.mp d
   cases H;exact .inl ⟨bO.mp h1,bO.mp c⟩
  ·obtain⟨u,c,H⟩:=bR.mp h
   cases H;exact .inr ⟨rfl,bO.mp c⟩
 ·rintro(⟨h1,d⟩|⟨rfl,h⟩)
  ·exact .inl ⟨x,bO.mpr h1,bR.mpr ⟨y,bO.mpr d,rfl⟩⟩
  ·exact .inr (bR.mpr ⟨y,bO.mpr h,rfl⟩)
def ZK {x y:Nat}:(x,y)∈yg n↔x<n/\y<n:=by
 unfold yg;rw[El];omega
def D7 (h:a<=n):∃r,yg n=pre n a 0++r:=by
 obtain⟨d,rfl⟩:∃d,n=a+d:=⟨n-a,by omega⟩
 have:∀d m,∃r,pre m (a+d) 0=pre m a 0++r:=by
  intro d
  induction d with
  |zero=>intro m;exact⟨[],by simp⟩|succ d i=>
   intro m;obtain⟨r,H⟩:=i m;refine⟨r++(List.range m).map λy=>(a+d,y),?_⟩;rw[<- Nat.add_assoc,<- Ks,<- aP,<- H];unfold pre;simp
 exact this d _
def Cw (h:a<n)(H:b<=n):∃r,pre n (a+1) 0=pre n a b++r:=by
 rw[<- Ks];obtain⟨d,rfl⟩:∃d,n=b+d:=⟨n-b,by omega⟩
 refine⟨(List.range d).map λy=>(a,b+y),?_⟩;unfold pre;rw[List.range_add,aU,aP,ba];simp
def pre_split (h:c<n)(he:e<n):∃r,yg n=pre n c e++(c,e)::r:=by
 obtain⟨f,g⟩:=D7 (n:=n) (a:=c+1) h;obtain⟨d,H⟩:=Cw (n:=n) (a:=c) (b:=e+1) h he;exact⟨d++f,by rw[g,H,XI];simp⟩
def Dw:(pre n a b).length=a * n+b:=by
 unfold pre;rw[aA,ai,aE,List.length_flatMap]
 congr 1
 rw[aW (g:=λ_=>n) (λx _=>by rw[ai,aE])]
 rw[List.map_const',List.sum_replicate_nat,aE]
variable {w:W}{acc L:List (Nat×Nat)}{p q:Nat×Nat}
abbrev jn (t:br)(p:Nat×Nat):Int:=at2 t p.1 p.2
def gB (t:br)(acc:List (Nat×Nat))(p:Nat×Nat):List (Nat×Nat):=if acc.any (λq=>decide (jn t q=jn t p)) then acc else acc++[p]
def jM (t:br)(L:List (Nat×Nat)):List (Nat×Nat):=L.foldl (gB t) []
def JM:jM t (L++[p])=gB t (jM t L) p:=by
 unfold jM;rw[List.foldl_append]
 rfl
def snoc_ind {P:List α->Prop}(h0:P [])(h:∀l a,P l->P (l++[a])):∀l,P l:=λl=>by
 have:∀l:List α,P l.reverse:=λl=>by
  induction l with
  |nil=>exact h0|cons a l i=>rw[List.reverse_cons];exact h _ _ i
 have:=this l.reverse
 rwa[List.reverse_reverse]at this
def Fy:(jM t L).length<=L.length:=by
 refine snoc_ind (P:=λL=>(jM t L).length<=L.length) (ak _) (λl p i=>?_) L;rw[JM,aA,aV];unfold gB
 split
 ·omega
 ·rw[aA,aV];omega
def GH:∀p∈jM t L,p∈L:=by
 refine snoc_ind (P:=λL=>∀p∈jM t L,p∈L) (λ_ h=>h) (λl p i=>?_) L;intro q H;rw[JM]at H;unfold gB at H
 split at H
 ·exact aY _ (i q H)
 ·rcases List.mem_append.mp H with h|h
  ·exact aY _ (i q h)
  ·exact aL _ h
def FQ:∀p∈L,∃q∈jM t L,jn t q=jn t p:=by
 refine snoc_ind (P:=λL=>∀p∈L,∃q∈jM t L,jn t q=jn t p) (λ_ h=>by cases h) (λl p i=>?_) L
 intro q b;rw[JM];unfold gB;rcases List.mem_append.mp b with h|h
 ·obtain⟨r,a,H⟩:=i q h
  split
  ·exact⟨r,a,H⟩
  ·exact⟨r,aY _ a,H⟩
 ·rw[bS.mp h]
  split
  ·rename_i c
   obtain⟨r,a,H⟩:=List.any_eq_true.mp c;exact⟨r,a,of_decide_eq_true H⟩
  ·exact⟨p,aL _ (bS.mpr rfl),rfl⟩
def ES {γ:Type}{f:Nat×Nat->List γ}:(∀p∈L,∀q∈L,jn t p=jn t q->f p=[]->f q=[])->((jM t L).flatMap f).head? =(L.flatMap f).head?:=by
 refine snoc_ind (P:=λL=>(∀p∈L,∀q∈L,jn t p=jn t q->f p=[]->f q=[])->((jM t L).flatMap f).head? =(L.flatMap f).head?) (λ_=>rfl) (λl p i hf=>?_) L;have i:=i λx b y a=>hf x (aY _ b) y (aY _ a);rw[JM,bf,head?_append,<- i];unfold gB
 split
 ·rename_i c
  obtain⟨r,H,d⟩:=List.any_eq_true.mp c;cases h:((jM t l).flatMap f).head? with
  |some x=>rfl|none=>
   rw[List.head?_eq_none_iff,List.flatMap_eq_nil_iff]at h
   have:=hf r (aY _ (GH r H)) p (aL _ (bS.mpr rfl)) (of_decide_eq_true d) (h r H)
   simp[this]
 ·rw[bf,head?_append]
def jD (t:br)(p:Nat×Nat):Key×W:=(.inl (jn t p),.tup [.int (p.1:Int),.int (p.2:Int)])
theorem G0 {v:Int}:∀acc:List (Nat×Nat),(yf (.inl v) (acc.map (jD t))).isSome=acc.any λq=>decide (jn t q=v)
 |[]=>rfl|q::l=>by
  show(if (Sum.inl (jn t q):Key)=.inl v then some _ else yf (.inl v) (l.map (jD t))).isSome=(decide (jn t q=v) || l.any λq=>decide (jn t q=v))
  by_cases h:jn t q=v
  ·rw[aj (by rw[h]),aC h];rfl
  ·rw[ao (λe=>h (by injection e)),aG h,G0 l,Bool.false_or]
def HI {x3:Option W}(hl:acc.length<1000):
  ∃w,Qw gu zt qR (ji (zi zH (zi qt zr))) [some (zj t),some (.ref 0),some (.int (a:Int)),x3,some (.int (b:Int)),some (.int (at2 t a b))] [.dct (acc.map (jD t))]=.ok w [.dct ((gB t acc (a,b)).map (jD t))]:=by
 have E:Qw gu zt qR (ji (zi zH (zi qt zr))) [some (zj t),some (.ref 0),some (.int (a:Int)),x3,some (.int (b:Int)),some (.int (at2 t a b))] [.dct (acc.map (jD t))]=gu (.ref 0) (.int (at2 t a b)) (.tup [.int (a:Int),.int (b:Int)]) [.dct (acc.map (jD t))]:=rfl;rw[E];unfold gu;show ∃w,(if (acc.map (jD t)).length<qd then(match yf (.inl (at2 t a b)) (acc.map (jD t)) with|some w=>R.ok w [.dct (acc.map (jD t))]|none=>.ok (.tup [.int (a:Int),.int (b:Int)]) [O.dct (acc.map (jD t)++[((Sum.inl (at2 t a b):Key),W.tup [.int (a:Int),.int (b:Int)])])]) else .bad)=.ok w [.dct ((gB t acc (a,b)).map (jD t))]
 rw[aj (by rw[ai];unfold qd;omega)]
 have h:=G0 (t:=t) (v:=at2 t a b) acc;unfold gB;cases e:yf (.inl (at2 t a b)) (acc.map (jD t)) with
 |some w=>
  rw[e]at h;rw[aj (show(acc.any λq=>decide (jn t q=jn t (a,b)))=true from h.symm)]
  exact⟨w,rfl⟩
 |none=>
  rw[e]at h;rw[ao (show ¬(acc.any λq=>decide (jn t q=jn t (a,b)))=true from λz=>by have z:=h.trans z;cases z)]
  exact⟨_,by rw[aU];rfl⟩
def SR (r:qI t):WY [zj t] []=.ok (.ref 0) [.dct ((jM t (yg t.length)).map (jD t))]:=by
 have n8:=r.n8;have c:(t.map zC).length=t.length:=ai ..;have p:∀a b,a<t.length->b<t.length->(jM t (pre t.length a b)).length<1000:=λa b f s=>by
  have u:=Fy (t:=t) (L:=pre t.length a b);rw[Dw]at u
  have:a * t.length<=8 * 8:=mul_le_mul (by omega) n8
  omega
 obtain⟨g,B,e,H,o,n,Y,y,h⟩:=Jl (j:=yz (zj t) t.length) (st:=turn (qN 2 3) (zm (qK (yk zS) (qN 4 5) (zm (ju (Qw gu zt qR (ji (zi zH (zi qt zr))))) zu)) zu)) (N:=t.length)
  (I:=λa ρ B=>B=[.dct ((jM t (pre t.length a 0)).map (jD t))]/\∃o n Y y,ρ=[some (zj t),some (.ref 0),o,n,Y,y])
  (λa ρ B f ⟨H,o,n,Y,y,h⟩=>by
   subst H h;have q:=r.sq _ (yo f);have d:((t.getD a []).map W.int).length=t.length:=by rw[ai,q]
   obtain⟨g,B,e,H,l,i,h⟩:=Jl (j:=yz (.tup ((t.getD a []).map W.int)) ((t.getD a []).map W.int).length) (st:=turn (qN 4 5) (zm (ju (Qw gu zt qR (ji (zi zH (zi qt zr))))) zu)) (N:=t.length)
    (I:=λb ρ B=>B=[.dct ((jM t (pre t.length a b)).map (jD t))]/\∃Y y,ρ=[some (zj t),some (.ref 0),some (.int (a:Int)),some (zC (t.getD a [])),Y,y])
    (λb ρ B s ⟨H,Y,y,h⟩=>by
     subst H h;obtain⟨w,e⟩:=HI (a:=a) (b:=b) (x3:=some (zC (t.getD a []))) (p a b f s);rw[<- JM,<- XI]at e;exact⟨_,_,_,QD (int_at (by omega)),(kL rfl).trans ((qc (G3 e)).trans yE),rfl,_,_,rfl⟩)
    (λρ B _=>by have:=Qz (A:=B) (ws:=(t.getD a []).map W.int);rw[d]at this ⊢;exact this) t.length 0 [some (zj t),some (.ref 0),some (.int (a:Int)),some (zC (t.getD a [])),Y,y] _ (by omega) ⟨rfl,_,_,rfl⟩
   rw[Ks]at H;subst H h;refine⟨.tup [.int (a:Int),zC (t.getD a [])],[some (zj t),some (.ref 0),some (.int (a:Int)),some (zC (t.getD a [])),l,i],_,?_,(kL (ρ1:=[some (zj t),some (.ref 0),some (.int (a:Int)),some (zC (t.getD a [])),Y,y]) rfl).trans ((qc ((yP (Qk (zx rfl))).trans ?_)).trans yE),rfl,_,_,_,_,rfl⟩
   ·have:=QD (A:=[O.dct ((jM t (pre t.length a 0)).map (jD t))]) (JR f)
    rw[c]at this;exact this
   ·have:(yz (.tup ((t.getD a []).map W.int)) ((t.getD a []).map W.int).length).len=t.length:=d
    rw[this];exact e)
  (λρ B _=>by have:=Qz (A:=B) (ws:=t.map zC);rw[c]at this;exact this) t.length 0 [some (zj t),some (.ref 0),none,none,none,none] [.dct []] (by omega)
  ⟨rfl,_,_,_,_,rfl⟩
 subst H h;refine jo ?_;unfold Us;refine(qc (jq (w:=.ref 0) (A1:=[.dct []]) rfl)).trans ?_;have hm:yk zp [some (zj t),some (.ref 0),none,none,none,none] [.dct []]=.ok (yz (zj t) t.length) [.dct []]:=by
  have:=Qk (m:=zX 0) (ρ:=[some (zj t),some (.ref 0),none,none,none,none]) (A:=[.dct []]) (A1:=[.dct []]) (ws:=t.map zC) (zx rfl)
  rw[c]at this;exact this
 exact(qc ((yP hm).trans e)).trans (qX (jI (zx rfl)))
def Xs:qG ((acc.map (jD t)).map (·.2))=true:=by
 induction acc with
 |nil=>rfl|cons p l i=>exact i
end
noncomputable abbrev B4:=(Nat×Nat)×(Nat×Nat)
section
variable {B:Hx}{a b c e K:Nat}{p q r:Nat×Nat}
abbrev QU (t:br)(K:Nat)(p:Nat×Nat):br:=jN t K p.1 p.2
def gc (t:br)(K:Nat)(p q:Nat×Nat):Bool:=decide (jn t q=jn t p)&&!decide (QU t K q=QU t K p)
def kX (t:br)(K:Nat)(p:Nat×Nat):List B4:=((yg t.length).filter (gc t K p)).map λq=>(p,q)
def gO (t:br)(K:Nat):List B4:=(yg t.length).flatMap (kX t K)
def bW (x:B4):W:=P1 x.1.1 x.1.2 x.2.1 x.2.2
def cH:Option B4->W
 |none=>.non|some x=>bW x
def YX:kX t K p=[]↔∀q∈yg t.length,gc t K p q=false:=by
 unfold kX;rw[List.map_eq_nil_iff,List.filter_eq_nil_iff];exact⟨λh q H=>Bool.eq_false_iff.mpr (h q H),λh q H=>Bool.eq_false_iff.mp (h q H)⟩
def JU:gc t K p q=false↔(jn t q=jn t p->QU t K q=QU t K p):=by
 unfold gc;rw[Bool.and_eq_false_iff,decide_eq_false_iff_not,Bool.not_eq_false',af]
 constructor
 ·rintro(h|h) z
  ·exact absurd z h
  ·exact h
 ·intro h
  by_cases z:jn t q=jn t p
  ·exact .inr (h z)
  ·exact .inl z
def FK (b:p∈yg t.length)(a:q∈yg t.length)(h:jn t p=jn t q)(h0:kX t K p=[]):kX t K q=[]:=by
 rw[YX]at h0 ⊢;intro r H;rw[JU];intro z;rw[JU.mp (h0 r H) (z.trans h.symm),JU.mp (h0 q a) h.symm]
def Bs:((jM t (yg t.length)).flatMap (kX t K)).head? =(gO t K).head?:=ES λ_ p _ H h h0=>FK p H h h0
def Bf (a:c<t.length)(he:e<t.length)(h0:∀q∈pre t.length c e,gc t K p q=false)(b:gc t K p (c,e)=true):(kX t K p).head? =some (p,(c,e)):=by
 obtain⟨r,h⟩:=pre_split a he;unfold kX;rw[h,List.filter_append,List.filter_eq_nil_iff.mpr λq H=>Bool.eq_false_iff.mp (h0 q H),bb,List.filter_cons_of_pos b]
 rfl
abbrev Vg:Ex:=zm (qW (jS (zh jY wG zt) (zh q9 (zy k9 (zi zp (zi qR (zi yC zr)))) qt)) (zm (qi (ji (zi zH (zi zS (zi qR (zi yC zr)))))) zu) zu) zu
abbrev Yj:Ex:=zm (qK (yk jZ) (qN 7 8) Vg) zu
def FW (M:qI t)(hK:qy t=(K:Int))(A:Hx):Ys [zj t] A=.ok (cH (gO t K).head?) A:=by
 have n8:=M.n8;have kb:=Zc M;have D:(t.map zC).length=t.length:=ai ..;have ef:=SR M;generalize S:jM t (yg t.length)=ps at ef;have hin:∀p∈ps,p.1<t.length/\p.2<t.length:=λp T=>ZK.mp (GH (t:=t) p (by rw[S];exact T))
 have J:=Bs (t:=t) (K:=K);rw[S]at J;have go:=Jk (j:=QK (ps.map (jD t))) (st:=turn (Qu 1 2 3) (zm (zR 4 (zy k9 (zi zp (zi zH (zi zS zr))))) (zm (qK (yk zp) (qN 5 6) Yj) zu))) (N:=ps.length)
  (Q:=λr B=>B=[]/\∃x,(ps.flatMap (kX t K)).head? =some x/\r=bW x)
  (I:=λi ρ B=>B=[]/\(ps.take i).flatMap (kX t K)=[]/\∃y1 Z X L n l Y y,ρ=[some (zj t),y1,Z,X,L,n,l,Y,y])
  (λi ρ B hi ⟨f,o,y1,Z,X,L,n,l,Y,y,h⟩=>by
   subst f h;obtain⟨ha,hb⟩:=hin ps[i] (aK hi);generalize T:ps[i]=p at ha hb;obtain⟨a,b⟩:=p;dsimp only at ha hb;have hsp:ps=ps.take i++(a,b)::ps.drop (i+1):=by
    rw[<- T,<- a7 hi,a9]
   refine⟨.tup [.int (at2 t a b),.tup [.int (a:Int),.int (b:Int)]],?_,?_⟩
   ·show some ((ps.map (jD t))[i]?.map λp=>W.tup [kW p.1,p.2])=_
    rw[aw,ab hi,T]
    rfl
   have hm:yk zp [some (zj t),some (.int (at2 t a b)),some (.int (a:Int)),some (.int (b:Int)),some (zj (jN t K a b)),n,l,Y,y] []=.ok (yz (zj t) t.length) []:=by
    have:=Qk (m:=zX 0) (ρ:=[some (zj t),some (.int (at2 t a b)),some (.int (a:Int)),some (.int (b:Int)),some (zj (jN t K a b)),n,l,Y,y]) (A:=[]) (A1:=[]) (ws:=t.map zC) (zx rfl)
    rw[D]at this;exact this
   have e1:zR 4 (zy k9 (zi zp (zi zH (zi zS zr)))) [some (zj t),some (.int (at2 t a b)),some (.int (a:Int)),some (.int (b:Int)),L,n,l,Y,y] []=.ok (.nx [some (zj t),some (.int (at2 t a b)),some (.int (a:Int)),some (.int (b:Int)),some (zj (jN t K a b)),n,l,Y,y]) []:=(jq ((jd (qf (zx rfl) (qf (zx rfl) (qf (zx rfl) qZ)))).trans (GB M hK ha hb []))).trans rfl;have go:=Jk (j:=yz (zj t) t.length) (st:=turn (qN 5 6) Yj) (N:=t.length)
    (Q:=λr B=>B=[]/\∃x,(kX t K (a,b)).head? =some x/\r=bW x)
    (I:=λc ρ B=>B=[]/\(∀q∈pre t.length c 0,gc t K (a,b) q=false)/\∃n l Y y,ρ=[some (zj t),some (.int (at2 t a b)),some (.int (a:Int)),some (.int (b:Int)),some (zj (jN t K a b)),n,l,Y,y])
    (λc ρ B hc ⟨f,hq0,n,l,Y,y,h⟩=>by
     subst f h;have hrl:=M.sq _ (yo hc);have U:((t.getD c []).map W.int).length=t.length:=by rw[ai,hrl]
     have hl3:(yz (.tup ((t.getD c []).map W.int)) ((t.getD c []).map W.int).length).len=t.length:=U;refine⟨.tup [.int (c:Int),zC (t.getD c [])],?_,?_⟩
     ·have:=QD (A:=[]) (JR hc)
      rw[D]at this;exact this
     have go:=Jk (j:=yz (.tup ((t.getD c []).map W.int)) ((t.getD c []).map W.int).length) (st:=turn (qN 7 8) Vg) (N:=t.length)
      (Q:=λr B=>B=[]/\∃x,(kX t K (a,b)).head? =some x/\r=bW x)
      (I:=λe ρ B=>B=[]/\(∀q∈pre t.length c e,gc t K (a,b) q=false)/\∃Y y,ρ=[some (zj t),some (.int (at2 t a b)),some (.int (a:Int)),some (.int (b:Int)),some (zj (jN t K a b)),some (.int (c:Int)),some (zC (t.getD c [])),Y,y])
      (λe ρ B he ⟨f,s,Y,y,h⟩=>by
       subst f h;refine⟨_,QD (int_at (by omega)),?_⟩
       generalize H:([some (zj t),some (.int (at2 t a b)),some (.int (a:Int)),some (.int (b:Int)),some (zj (jN t K a b)),some (.int (c:Int)),some (zC (t.getD c [])),some (.int (e:Int)),some (.int (at2 t c e))]:En)=d;have ee:zh jY wG zt d []=.ok (.bl (decide (at2 t c e=at2 t a b))) []:=by subst H;exact(qb (zx rfl) (zx rfl)).trans (K7 _ _ [])
       have en:zh q9 (zy k9 (zi zp (zi qR (zi yC zr)))) qt d []=.ok (.bl (!decide (jN t K c e=jN t K a b))) []:=by subst H;exact(qb ((jd (qf (zx rfl) (qf (zx rfl) (qf (zx rfl) qZ)))).trans (GB M hK hc he [])) (zx rfl)).trans (cG _ _ _)
       have E:∀g:Ex,turn (qN 7 8) g (.tup [.int (e:Int),.int ((t.getD c []).getD e 0)]) [some (zj t),some (.int (at2 t a b)),some (.int (a:Int)),some (.int (b:Int)),some (zj (jN t K a b)),some (.int (c:Int)),some (zC (t.getD c [])),Y,y] []=g d []:=λg=>by subst H;exact kL rfl
       have u:jS (zh jY wG zt) (zh q9 (zy k9 (zi zp (zi qR (zi yC zr)))) qt) d []=.ok (.bl (gc t K (a,b) (c,e))) []:=BS ee en;cases v:gc t K (a,b) (c,e) with
       |false=>
        rw[v]at u;refine .inl ⟨d,[],(E _).trans ((qc ((wj u).trans yE)).trans yE),rfl,λq' P=>?_,_,_,H.symm⟩;rw[XI]at P;rcases List.mem_append.mp P with z|z
        ·exact s q' z
        ·rw[bS.mp z];exact v
       |true=>
        rw[v]at u;refine .inr ⟨P1 a b c e,[],(E _).trans (qX ((JZ u).trans (qX (jI ?_)))),rfl,((a,b),(c,e)),Bf hc he s v,rfl⟩;subst H;exact Y6 (qf (zx rfl) (qf (zx rfl) (qf (zx rfl) (qf (zx rfl) qZ)))))
      (λρ B _=>by have:=Qz (A:=B) (ws:=(t.getD c []).map W.int);rw[U]at this ⊢;exact this) t.length 0 [some (zj t),some (.int (at2 t a b)),some (.int (a:Int)),some (.int (b:Int)),some (zj (jN t K a b)),some (.int (c:Int)),some (zC (t.getD c [])),Y,y] [] (by omega) ⟨rfl,hq0,_,_,rfl⟩
     have C:=(yP (tw:=qN 7 8) (m1:=Vg) (Qk (m:=zX 6) (ρ:=[some (zj t),some (.int (at2 t a b)),some (.int (a:Int)),some (.int (b:Int)),some (zj (jN t K a b)),some (.int (c:Int)),some (zC (t.getD c [])),Y,y]) (A:=[]) (A1:=[]) (ws:=(t.getD c []).map W.int) (zx rfl)));rw[hl3]at C;have E:turn (qN 5 6) Yj (.tup [.int (c:Int),zC (t.getD c [])]) [some (zj t),some (.int (at2 t a b)),some (.int (a:Int)),some (.int (b:Int)),some (zj (jN t K a b)),n,l,Y,y] []=Yj [some (zj t),some (.int (at2 t a b)),some (.int (a:Int)),some (.int (b:Int)),some (zj (jN t K a b)),some (.int (c:Int)),some (zC (t.getD c [])),Y,y] []:=kL rfl;rcases go with ⟨d,B,e,f,s,y7',y8',h⟩|⟨r,B,e,hQ⟩
     ·subst f h
      rw[Ks]at s;exact .inl ⟨_,[],E.trans ((qc (C.trans e)).trans yE),rfl,s,_,_,_,_,rfl⟩
     ·exact .inr ⟨r,B,E.trans (qX (C.trans e)),hQ⟩)
    (λρ B _=>by have:=Qz (A:=B) (ws:=t.map zC);rw[D]at this;exact this) t.length 0 [some (zj t),some (.int (at2 t a b)),some (.int (a:Int)),some (.int (b:Int)),some (zj (jN t K a b)),n,l,Y,y] [] (by omega) ⟨rfl,(λq s=>(by rw[show pre t.length 0 0=[] from rfl]at s;cases s)),_,_,_,_,rfl⟩
   have E:∀g:Ex,turn (Qu 1 2 3) g (.tup [.int (at2 t a b),.tup [.int (a:Int),.int (b:Int)]]) [some (zj t),y1,Z,X,L,n,l,Y,y] []=g [some (zj t),some (.int (at2 t a b)),some (.int (a:Int)),some (.int (b:Int)),L,n,l,Y,y] []:=λg=>kL rfl;rcases go with ⟨d,B,e,f,s,y5',y6',y7',y8',h⟩|⟨r,B,e,f,x,C,hr⟩
   ·subst f h
    refine .inl ⟨_,[],(E _).trans ((qc e1).trans ((qc ((yP hm).trans e)).trans yE)),rfl,?_,_,_,_,_,_,_,_,_,rfl⟩;rw[List.take_succ,ab hi,T,bf,o,bb];show [(a,b)].flatMap _=_;rw[List.flatMap_singleton];exact YX.mpr s
   ·subst f
    refine .inr ⟨r,[],(E _).trans ((qc e1).trans (qX ((yP hm).trans e))),rfl,x,?_,hr⟩;rw[hsp,bf,o,bb,flatMap_cons,head?_append,C]
    rfl)
  (λρ B _=>by
   show some ((ps.map (jD t))[ps.length]?.map λp=>W.tup [kW p.1,p.2])=_;rw[az (by rw[ai];exact ak _)]
   rfl) ps.length 0 [some (zj t),none,none,none,none,none,none,none,none] [] (by omega) ⟨rfl,rfl,_,_,_,_,_,_,_,_,rfl⟩
 have hit:JG (zy Qd (zi zp zr)) [some (zj t),none,none,none,none,none,none,none,none] []=.ok (QK (ps.map (jD t))) []:=by
  unfold JG;dsimp only;have ec:zy Qd (zi zp zr) [some (zj t),none,none,none,none,none,none,none,none] []=.ok (.ref 0) [.dct (ps.map (jD t))]:=(jd (qf (zx rfl) qZ)).trans (Rv (kS t) ef rfl Xs);rw[ec,zK];exact aj Xs
 have hlen:(QK (ps.map (jD t))).len=ps.length:=ai ..;have w:=yP (tw:=Qu 1 2 3) (m1:=zm (zR 4 (zy k9 (zi zp (zi zH (zi zS zr))))) (zm (qK (yk zp) (qN 5 6) Yj) zu)) hit;rw[hlen]at w;rcases go with ⟨d,B,e,f,o,y1,Z,X,L,n,l,Y,y,h⟩|⟨r,B,e,f,x,C,rfl⟩
 ·subst f h
  rw[List.take_length]at o;rw[<- J,o];refine ZO (A1:=[]) (kS t) rfl (jo ?_);unfold WE;exact(qc (w.trans e)).trans (qX (jI qY))
 ·subst f
  rw[<- J,C];refine ZO (A1:=[]) (kS t) rfl (jo ?_);unfold WE;exact qX (w.trans e)
end
section
variable {a b e k K:Nat}{w x z:W}{S:Nat->List (bt)}
def Cb (H:qI t)(n:qy t=(K:Int))(m:k<K):∃a b:Nat,a<t.length/\b<t.length/\at2 t a b=(k:Int)/\yf (.inl (k:Int)) ((jM t (yg t.length)).map (jD t))=some (.tup [.int (a:Int),.int (b:Int)]):=by
 obtain⟨a,b,i,g,e⟩:=RT H (v:=k) (by omega)
 obtain⟨q,d,l⟩:=FQ (t:=t) (a,b) (ZK.mpr ⟨i,g⟩);have h:=G0 (t:=t) (v:=(k:Int)) (jM t (yg t.length));rw[show(jM t (yg t.length)).any (λq=>decide (jn t q=(k:Int)))=true from List.any_eq_true.mpr ⟨q,d,aC (l.trans e)⟩]at h
 obtain⟨w,hw⟩:=Option.isSome_iff_exists.mp h;obtain⟨p,f,c⟩:=bR.mp (So hw);obtain⟨Z,z⟩:=ZK.mp (GH p f);unfold jD at c;injection c with E j
 injection E with E
 exact⟨p.1,p.2,Z,z,E,by rw[hw,j]⟩
def Sa (c:qI t)(f:qy t=(K:Int))(p:∀a b,a<t.length->b<t.length->jN t K a b=S (at2 t a b).toNat)(A:Hx):gU [zj t] A=.ok (.ref A.length) (A++[.lst ((List.range K).map λk=>zj (S k))]):=by
 have n8:=c.n8;have B:=Zc c;have o:=SR c;have ch:∀k:Nat,∃q:Nat×Nat,k<K->q.1<t.length/\q.2<t.length/\at2 t q.1 q.2=(k:Int)/\yf (.inl (k:Int)) ((jM t (yg t.length)).map (jD t))=some (.tup [.int (q.1:Int),.int (q.2:Int)]):=λk=>by
  by_cases l:k<K
  ·obtain⟨a,b,e,d,j,r⟩:=Cb c f l
   exact⟨(a,b),λ_=>⟨e,d,j,r⟩⟩
  ·exact⟨(0,0),λz=>absurd z l⟩
 obtain⟨fp,H⟩:=Classical.axiomOfChoice ch;have nr:=Xs (t:=t) (acc:=jM t (yg t.length));generalize (jM t (yg t.length)).map (jD t)=kvs at o H nr;have y:zy Qd (zi zp zr) [some (zj t),none,none] []=.ok (.ref 0) [.dct kvs]:=(jd (qf (zx rfl) qZ)).trans (Rv (kS t) o rfl nr);have hm:=ZE (m:=zy kj (zi zp zr)) (ρ:=[some (zj t),some (.ref 0),none]) (A:=[.dct kvs]) (A1:=[.dct kvs]) (k:=(K:Int)) ((jd (qf (zx rfl) qZ)).trans ((JA c _).trans (by rw[f]))) (g7 (by omega))
 rw[aH]at hm;have x:=gY (cap:=[1]) (me:=zh Km zt zp) (ρ:=[some (zj t),some (.ref 0),none]) (A:=[.dct kvs]) (N:=K) (item:=λi=>.int (0+(i:Int))) (g:=λk=>.tup [.int ((fp k).1:Int),.int ((fp k).2:Int)]) hm rfl (by unfold qd;omega) (λi h=>ZM h) (ZG (by omega)) (λi h=>by
  refine(qb (zx (i:=1) (w:=.ref 0) rfl) (zx (i:=0) (w:=.int (0+(i:Int))) rfl)).trans ?_;rw[Int.zero_add];show(match yf (.inl (i:Int)) kvs with|some w=>R.ok w [.dct kvs]|none=>.bad)=_
  rw[(H i h).2.2.2])
 have E:=wM x;have s:=Lz (A:=[.dct kvs]++[.lst ((List.range K).map λk=>.tup [.int ((fp k).1:Int),.int ((fp k).2:Int)])]) (cap:=[0]) (ρ:=[some (zj t),some (.ref 0),some (.ref 1)]) (me:=zy k9 (zi zH (zi zp (zi zt zr)))) (mi:=qp zH) (N:=K) (u:=λk=>.int ((fp k).1:Int)) (v:=λk=>.int ((fp k).2:Int)) (g:=λk=>zj (S k)) (Qn (n:=1) (zx rfl) rfl) (by show((List.range K).map _).length=K;rw[ai,aE]) (by omega)
  (λi h=>DP (n:=1) rfl (by rw[aw,aX h];rfl))
  (By (n:=1) rfl (by rw[ai,aE];exact ak _))
  (λi h=>by
   obtain⟨e,d,j,_⟩:=H i h;refine(jd (ws:=[zj t,.int ((fp i).1:Int),.int ((fp i).2:Int)]) (qf (zx rfl) (qf (zx rfl) (qf (zx rfl) qZ)))).trans ((GB c f e d _).trans ?_);rw[p _ _ e d,j,aH])
 refine GR (k:=2) (A1:=[.dct kvs]++[.lst ((List.range K).map λk=>.tup [.int ((fp k).1:Int),.int ((fp k).2:Int)])]++[.lst ((List.range K).map λk=>zj (S k))]) (kS t) (jo ?_) rfl (g8 (λ_=>Za _) _);unfold Uz;exact(qc (jq y)).trans ((qc (jq E)).trans (qX (jI (wM s))))
def Di:gO t K=[]↔∀p∈yg t.length,∀q∈yg t.length,jn t q=jn t p->QU t K q=QU t K p:=by
 unfold gO;rw[List.flatMap_eq_nil_iff];exact⟨λh p a q H=>JU.mp (YX.mp (h p a) q H),λh p a=>YX.mpr λq H=>JU.mpr (h p a q H)⟩
def HZ (a:qI t)(s:JH t):gO t K=[]:=Di.mpr λp H q h e=>Sk a s (ZK.mp h).1 (ZK.mp h).2 (ZK.mp H).1 (ZK.mp H).2 e
def Fu (h:qI t)(H:qy t=(K:Int))(s:gO t K=[])(A:Hx):Ys [zj t] A=.ok .non A:=(FW h H A).trans (by rw[s];rfl)
def Cn (h:qI t)(H:qy t=(K:Int))(s:gO t K=[])(A:Hx):k7 [zj t] A=.ok .non A:=by
 unfold k7 Wq;refine Rp (ρ:=[some (zj t)]) ?_;unfold VR;exact(qc (G3 ((jd (qf (zx rfl) qZ)).trans (IJ h A)))).trans ((qc ((wj ((qb ((jd (qf (zx rfl) qZ)).trans (Fu h H s A)) qY).trans rfl)).trans yE)).trans yE)
theorem RH (v:Int):∀(r:bt)(n:Nat),Zn (.int v) (r.map W.int) n=n+r.count v
 |[],_=>rfl|x::r,n=>by
  show Zn (.int v) (r.map W.int) (if (x==v)=true then n+1 else n)=_;rw[RH v r,count_cons]
  by_cases h:x=v
  ·subst h
   simp;omega
  ·simp[h]
noncomputable def Z1 (t:br)(K:Nat):bt:=(List.range K).map λ(k:Nat)=>(((t.getD 0 []).count (k:Int):Nat):Int)
def SX (h:qI t)(b:qy t=(K:Int))(A:Hx):ki [zj t] A=.ok (.ref A.length) (A++[.lst ((Z1 t K).map W.int)]):=by
 have d:=Zc h;have n1:=h.n1;have hm:=ZE (m:=zy kj (zi zp zr)) (ρ:=[some (zj t)]) (A:=[]) (A1:=[]) (k:=(K:Int)) ((jd (qf (zx rfl) qZ)).trans ((JA h _).trans (by rw[b]))) (g7 (by omega))
 rw[aH]at hm;have e:=gY (cap:=[0]) (me:=Ke JL (zh zB zt qj) zp) (ρ:=[some (zj t)]) (A:=[]) (N:=K) (item:=λi=>.int (0+(i:Int))) (g:=λk=>.int (((t.getD 0 []).count (k:Int):Nat):Int)) hm rfl (by unfold qd;omega) (λi H=>ZM H) (ZG (by omega)) (λi H=>by
  have E:zh zB zt qj (some (W.int (0+(i:Int)))::[0].map λi=>([some (zj t)][i]?).join) []=.ok (.tup ((t.getD 0 []).map W.int)) []:=(qb (zx (w:=zj t) rfl) qY).trans (ZP (a:=0) n1);unfold Ke;rw[E,zK];dsimp only;rw[show zp (some (W.int (0+(i:Int)))::[0].map λi=>([some (zj t)][i]?).join) []=.ok (.int (0+(i:Int))) [] from zx rfl,zK,Int.zero_add]
  unfold JL;dsimp only;rw[aj,RH,zero_add];show(true&&((t.getD 0 []).map W.int).all jV)=true;rw[Bool.true_and,aR];intro w hw;obtain⟨v,_,rfl⟩:=bR.mp hw
  rfl)
 have c:((List.range K).map λ(k:Nat)=>W.int (((t.getD 0 []).count (k:Int):Nat):Int))=(Z1 t K).map W.int:=by unfold Z1;rw[ba];rfl
 rw[c]at e;exact GR (k:=0) (A1:=[.lst ((Z1 t K).map W.int)]) (kS t) (jo (by unfold Uq;exact qX (jI (wM e)))) rfl (g8 (λ_=>rfl) _)
end
def SD {r:Nat}{l:bA}(h:A[r]? =some (.lst (iL l))):qO A 8 (.ref r)=some (.list (l.map λ(a:Nat)=>PyData.int (a:Int))):=by
 show(match z7 (.ref r) A with|some ws=>(yw (qO A 7) ws).map PyData.list|none=>none)=_
 have:z7 (.ref r) A=some (iL l):=by unfold z7;dsimp only;rw[h]
 rw[this];dsimp only;rw[YJ (h:=λ(a:Nat)=>PyData.int (a:Int)) (λa=>rfl)]
 rfl
def ne_nil {r s:Nat}{l:bA}(h:A[r]? =some (.lst (iL l)))(H:A[s]? =some (.lst [])):q9 (.ref r) (.ref s) A=.ok (.bl (decide (l≠[]))) A:=by
 show wZ true _ _ A=_;unfold wZ;rw[SD h,SD (l:=[]) H];dsimp only;rw[aj rfl]
 congr 2
 rw[PyData.eqv];cases l with
 |nil=>simp[PyData.eqvAll]|cons a l=>rw[map_nil,SeqAt.eqvAll_other_length (by simp)];simp
noncomputable def wW (o:bA):W:=.tup (o.map λ(a:Nat)=>W.int (a:Int))
def E3 (o:bA):(wW o).nr=true:=by
 show qG (o.map λ(a:Nat)=>W.int (a:Int))=true;exact g8 (λ_=>rfl) _
abbrev XQ:Ev:=zh q9 (zX 2) (jt zr)
abbrev AS:Ex:=zm (ju (jQ yi (zX 3) (jQ wd (zX 2) (zy wa (zi (zX 0) (zi (mQ qe (zP (zX 2))) zr)))))) zu
def HJ {x:Option W}:∀(k f:Nat)(l fd:bA)(A:Hx),l.length=k->k<f->l.length<=100->fd.length+l.length<=100->jW 0 A->A[1]? =some (.lst (iL l))->A[2]? =some (.lst (iL fd))->
  ∃n d,wq XQ AS f [some (.ref 0),x,some (.ref 1),some (.ref 2)] A=.ok (.nx [some (.ref 0),x,some (.ref 1),some (.ref 2)]) n/\jW 0 n/\n[2]? =some (.lst (iL d))/\d.Perm (fd++l):=by
 intro k
 induction k with
 |zero=>
  intro f l fd A hl hf _ _ v p D;obtain⟨f,rfl⟩:∃J,f=J+1:=⟨f-1,by omega⟩
  have:l=[]:=List.length_eq_zero_iff.mp hl
  subst this;refine⟨A++[.lst []],fd,?_,?_,yG D,by simp⟩
  ·unfold wq
   have s:XQ [some (.ref 0),x,some (.ref 1),some (.ref 2)] A=.ok (.bl false) (A++[.lst []]):=(qb (zx (i:=2) rfl) (wN qZ)).trans (ne_nil (l:=[]) (yG p) kq);rw[s,zK]
  ·obtain⟨c,b,e,r⟩:=v
   exact⟨c,b,yG e,r⟩
 |succ k Q=>
  intro f l fd A hl hf K S v p D;obtain⟨f,rfl⟩:∃J,f=J+1:=⟨f-1,by omega⟩
  have s:XQ [some (.ref 0),x,some (.ref 1),some (.ref 2)] A=.ok (.bl true) (A++[.lst []]):=by
   refine(qb (zx (i:=2) rfl) (wN qZ)).trans ((ne_nil (yG p) kq).trans ?_);have z:l≠[]:=λe=>by rw[e]at hl;cases hl
   rw[aC z]
  have H:jW 0 (A++[.lst []]):=by obtain⟨c,b,e,r⟩:=v;exact⟨c,b,yG e,r⟩
  have g1:=yG (u:=.lst []) p;have g2:=yG (u:=.lst []) D;generalize A++[O.lst []]=B at s H g1 g2;obtain⟨r,o,T,N,rl,t⟩:=Xn H (m:=(l.length:Int)) (by omega) (by omega)
  obtain⟨q,rfl⟩:=a0 N;have y:q<l.length:=by omega
  have E:mQ qe (zP (zX 2)) [some (.ref 0),x,some (.ref 1),some (.ref 2)] B=.ok (.int (l.length:Int)) B:=by
   rw[yt (yV (w:=.ref 1) (A1:=B) (ws:=iL l) (zx rfl) (by unfold z7;dsimp only;rw[g1]))]
   unfold qe;rw[ai]
  have Y:zy wa (zi (zX 0) (zi (mQ qe (zP (zX 2))) zr)) [some (.ref 0),x,some (.ref 1),some (.ref 2)] B=.ok (.int (q:Int)) (B.set 0 o):=(jd (qf (zx (i:=0) rfl) (qf E qZ))).trans T;have j:(B.set 0 o)[1]? =some (.lst (iL l)):=by rw[ay (by omega)];exact g1
  have I:(B.set 0 o)[2]? =some (.lst (iL fd)):=by rw[ay (by omega)];exact g2
  have hw:(iL l)[q]? =some (.int ((l[q]:Nat):Int)):=by rw[aw,ab y];rfl
  have M:=(Sf (g:=wd) (a:=zX 2) (zx rfl) g1 Y).trans (Hl j hw (by omega))
  have he:(iL l).eraseIdx q=iL (l.eraseIdx q):=by
   exact T8 _ _ _
  rw[he]at M;have h:((B.set 0 o).set 1 (.lst (iL (l.eraseIdx q))))[2]? =some (.lst (iL fd)):=by rw[ay (by omega)];exact I
  have L:=(Sf (g:=yi) (a:=zX 3) (zx rfl) g2 M).trans (L3 h (by rw[ai];omega))
  have C:iL fd++[.int ((l[q]:Nat):Int)]=iL (fd++[l[q]]):=by unfold iL;rw[aU];rfl
  rw[C]at L;have hlen:(l.eraseIdx q).length=k:=by rw[List.length_eraseIdx_of_lt y];omega
  obtain⟨n,d,X,s4,Z,P⟩:=Q f (l.eraseIdx q) (fd++[l[q]]) (((B.set 0 o).set 1 (.lst (iL (l.eraseIdx q)))).set 2 (.lst (iL (fd++[l[q]])))) hlen (by omega) (by omega) (by rw[aA,aV];omega)
   (by obtain⟨c,b,e,r⟩:=t;exact⟨c,b,by rw[ay (by omega),ay (by omega)];exact e,r⟩)
   (by rw[ay (by omega),aB (gq j)]) (by rw[aB (gq h)])
  refine⟨n,d,?_,s4,Z,P.trans ?_⟩
  ·unfold wq
   rw[s,zK];dsimp only;have U:=(qc (m2:=zu) (G3 L)).trans yE;show R.bind (zm (ju (jQ yi (zX 3) (jQ wd (zX 2) (zy wa (zi (zX 0) (zi (mQ qe (zP (zX 2))) zr)))))) zu [some (.ref 0),x,some (.ref 1),some (.ref 2)] B) _=_;rw[U,zK];exact X
  ·rw[aP]
   exact List.Perm.append_left fd (Tw (ab y)).symm
def SY {m:Nat}(h:jW m A)(hn:n<=8):∃p o,ZA [.ref m,.int (n:Int)] A=.ok (wW p) (A.set m o)/\jW m (A.set m o)/\p.Perm (List.range n):=by
 obtain⟨c,b,d,j,l⟩:=h;have hm:=gq d;obtain⟨f,fd,e,⟨C,B,E,H,a⟩,q,g⟩:=HJ (x:=some (.int (n:Int))) n 1000 (List.range n) [] [.lst [.int c,.bl b],.lst (iL (List.range n)),.lst []] aE (by omega) (by rw[aE];omega) (by rw[aE];simp;omega) ⟨c,b,rfl,j,l⟩ rfl rfl
 refine⟨fd,.lst [.int C,.bl B],?_,⟨C,B,aB hm,H,a⟩,g⟩;unfold ZA;refine Y4 (A1:=f) d rfl ?_ E (E3 fd);unfold W0;refine jo ?_;unfold UW;refine(qc (ρ1:=[some (.ref 0),some (.int (n:Int)),some (.ref 1),none]) (A1:=[.lst [.int c,.bl b],.lst (iL (List.range n))]) ((jq (IW (zx (i:=1) rfl) (by omega))).trans rfl)).trans ?_
 refine(qc (ρ1:=[some (.ref 0),some (.int (n:Int)),some (.ref 1),some (.ref 2)]) (A1:=[.lst [.int c,.bl b],.lst (iL (List.range n)),.lst []]) ((jq (wN qZ)).trans rfl)).trans ?_;refine(qc e).trans (qX (jI (JS (yV (w:=.ref 2) (A1:=f) (ws:=iL fd) (zx rfl) (by unfold z7;dsimp only;rw[q])))))
section
def M4 (h:qI t)(A:Hx):Jf [zj t] A=.ok (.int (qy t)) A:=JA h A
def cI (h:qI t){ma m mt:Ev}{a b:Nat}(H:mt ρ A=.ok (zj t) A)(d:ma ρ A=.ok (.int a) A)(c:m ρ A=.ok (.int b) A)(l:a<t.length)(lb:b<t.length):zh zB (zh zB mt ma) m ρ A=.ok (.int (at2 t a b)) A:=
 (qb ((qb H d).trans (ZP l)) c).trans (Qx (by rw[h.sq _ (yo l)];exact lb))
def EU (h:qI t){p o:bA}(ho:∀a∈o,a<t.length)(hl:o.length<=8)(j:(p.length:Int)=qy t-1){r:Nat}(e:A[r]? =some (.lst ((jG p).map W.int))):Yz [zj t,wW o,.ref r] A=.ok (zj (kz t p o)) A:=by
 unfold Yz W8;refine jo ?_;unfold U5;refine qX (jI ?_);have E:=YQ (cap:=[0,1,2]) (ρ:=[some (zj t),some (wW o),some (.ref r)]) (A:=A) (m:=zX 1) (o:=o) (f:=λ(a:Nat)=>W.int (a:Int)) (me:=mQ je (zT 1 [0,1,3] (qp (zX 2)) (zI 0) (zY (.bl true)) (zQ (zh zB (zX 3) (zh zB (zh zB (zX 2) (zX 1)) (zX 0))))))
  (G:=λa=>zC (o.map λb=>(jG p).getD (at2 t a b).toNat 0)) (zx rfl) (by unfold qd;omega) (λa d=>by
   have g:=YQ (cap:=[0,1,3]) (ρ:=[some (.int (a:Int)),some (zj t),some (wW o),some (.ref r)]) (A:=A) (m:=zX 2) (o:=o) (f:=λ(a:Nat)=>W.int (a:Int)) (me:=zh zB (zX 3) (zh zB (zh zB (zX 2) (zX 1)) (zX 0)))
    (G:=λb=>.int ((jG p).getD (at2 t a b).toNat 0)) (zx rfl) (by unfold qd;omega) (λb c=>by
     have L:=ho a d;have l:=ho b c;have n:=(JX h L l).1;have B:=JJ h L l;have hlen:(at2 t a b).toNat<(jG p).length:=by unfold jG;rw[bq,ai];omega
     refine(qb (zx (i:=3) rfl) (cI h (zx (i:=2) rfl) (zx (i:=1) rfl) (zx (i:=0) rfl) L l)).trans ?_;have H:at2 t a b=((at2 t a b).toNat:Int):=by omega
     rw[H];refine GV e ?_;rw[aw,ab hlen,aH,aa,ab hlen]
     rfl)
   refine(JS g).trans ?_;unfold zC;rw[ba]
   rfl)
 refine(JS E).trans ?_;unfold kz zj;rw[ba]
 rfl
def FO (h:qI t){m:Nat}(U:jW m A):∃p o b,Yn [.ref m,zj t] A=.ok (zj (kz t p o)) (A.set m b)/\jW m (A.set m b)/\p.Perm (List.range (qy t-1).toNat)/\o.Perm (List.range t.length):=by
 obtain⟨c,b,M,Z,hb⟩:=U;have hm:=gq M;have kb:=Zc h;have n8:=h.n8;generalize H:([.lst [.int c,.bl b],.lst [.int 0]]:Hx)=B;have sB:jW 0 B:=by rw[<- H];exact⟨c,b,rfl,Z,hb⟩
 obtain⟨p,g,N,s1,j⟩:=SY sB (n:=(qy t-1).toNat) (by omega)
 have D:(B.set 0 g)[1]? =some (.lst [.int 0]):=by rw[<- H];rfl
 have y:(B.set 0 g).length=2:=by rw[<- H];rfl
 generalize B.set 0 g=d at*;have q:(((qy t-1).toNat:Nat):Int)=qy t-1:=by omega
 rw[q]at N;have ec:zT 1 [] (qp (zy ZA (zi (zX 0) (zi (zh yM (zX 2) (zY (.int 1))) zr)))) (zI 0) (zY (.bl true)) (zQ (zh qU (zY (.int 1)) (zX 0))) [some (.ref 0),some (zj t),some (.int (qy t)),none] B=.ok (p.map λ(k:Nat)=>W.int (1+(k:Int))) d:=by
  have em:zy ZA (zi (zX 0) (zi (zh yM (zX 2) (zY (.int 1))) zr)) [some (.ref 0),some (zj t),some (.int (qy t)),none] B=.ok (wW p) d:=(jd (ws:=[.ref 0,.int (qy t-1)]) (A1:=B) (qf (zx (i:=0) rfl) (qf ((qb (zx (i:=2) rfl) (qY (w:=.int 1))).trans rfl) qZ))).trans N;have I:=YQ (cap:=[]) (ρ:=[some (.ref 0),some (zj t),some (.int (qy t)),none]) (A:=d) (m:=zY (wW p)) (o:=p) (f:=λ(a:Nat)=>W.int (a:Int)) (me:=zh qU (zY (.int 1)) (zX 0)) (G:=λ(k:Nat)=>W.int (1+(k:Int))) rfl (by have:=j.length_eq;rw[aE]at this;unfold qd;omega) (λa K=>(qb (qY (w:=.int 1)) (zx (i:=0) rfl)).trans rfl)
  unfold zT at I ⊢;rw[ZI (m:=zY (wW p)) (A1:=d) rfl,zK]at I;rw[ZI em,zK];exact I
 have l:p.length=(qy t-1).toNat:=by rw[j.length_eq,aE]
 have E:zh qU (jt (zi (zY (.int 0)) zr)) (jh (zT 1 [] (qp (zy ZA (zi (zX 0) (zi (zh yM (zX 2) (zY (.int 1))) zr)))) (zI 0) (zY (.bl true)) (zQ (zh qU (zY (.int 1)) (zX 0))))) [some (.ref 0),some (zj t),some (.int (qy t)),none] [.lst [.int c,.bl b]]=
   .ok (.ref (d++[O.lst (p.map λ(k:Nat)=>W.int (1+(k:Int)))]).length) (d++[O.lst (p.map λ(k:Nat)=>W.int (1+(k:Int)))]++[O.lst ([.int 0]++p.map λ(k:Nat)=>W.int (1+(k:Int)))]):=by
  refine(qb (x:=.ref 1) (A1:=B) ((wN (ws:=[.int 0]) (A1:=[.lst [.int c,.bl b]]) rfl).trans (by rw[<- H];rfl)) (wM ec)).trans ?_
  refine Su (yG D) ?_ (by rw[ai,l];show 1+_<=qd;unfold qd;omega)
  rw[kq]
 have z:([.int 0]++p.map λ(k:Nat)=>W.int (1+(k:Int)))=(jG p).map W.int:=by unfold jG;rw[aS,ba];rfl
 rw[z]at E;have T:jW 0 (d++[O.lst (p.map λ(k:Nat)=>W.int (1+(k:Int)))]++[O.lst ((jG p).map W.int)]):=by obtain⟨c,b,e,r⟩:=s1;exact⟨c,b,yG (yG e),r⟩
 have L:(d++[O.lst (p.map λ(k:Nat)=>W.int (1+(k:Int)))]++[O.lst ((jG p).map W.int)])[(d++[O.lst (p.map λ(k:Nat)=>W.int (1+(k:Int)))]).length]? =some (.lst ((jG p).map W.int)):=kq;have X:(d++[O.lst (p.map λ(k:Nat)=>W.int (1+(k:Int)))]).length=3:=by rw[aA,y];rfl
 rw[X]at L E;generalize d++[O.lst (p.map λ(k:Nat)=>W.int (1+(k:Int)))]++[O.lst ((jG p).map W.int)]=C at*;obtain⟨o,J,e3,s2,ho⟩:=SY T (n:=t.length) n8;have Y:o.length=t.length:=by rw[ho.length_eq,aE]
 have v:(C.set 0 J)[3]? =some (.lst ((jG p).map W.int)):=by rw[ay (by omega)];exact L
 generalize C.set 0 J=S at*;have e4:=EU h (p:=p) (o:=o) (λa K=>bO.mp (ho.mem_iff.mp K)) (by omega) (by omega) v
 obtain⟨P,Q,e',s,u⟩:=s2;refine⟨p,o,.lst [.int P,.bl Q],?_,⟨P,Q,aB hm,s,u⟩,j,ho⟩;unfold Yn;refine Y4 (A1:=S) M (by show((zj t).nr&&true)=true;rw[Za];rfl) ?_ e' (Za _)
 unfold Wl;refine jo ?_;unfold Vv;refine(qc (ρ1:=[some (.ref 0),some (zj t),some (.int (qy t)),none]) (A1:=[.lst [.int c,.bl b]]) ((jq ((jd (ws:=[zj t]) (A1:=[.lst [.int c,.bl b]]) rfl).trans (M4 h _))).trans rfl)).trans ?_;refine(qc (ρ1:=[some (.ref 0),some (zj t),some (.int (qy t)),some (.ref 3)]) (A1:=C) ((jq E).trans rfl)).trans (qX (jI ?_));refine(jd (ws:=[zj t,wW o,.ref 3]) (A1:=S) (qf (zx (i:=1) rfl) (qf ((jd (ws:=[.ref 0,.int (t.length:Int)]) (A1:=C) (qf (zx (i:=0) rfl) (qf (CW rfl) qZ))).trans e3) (qf (zx (i:=3) rfl) qZ)))).trans e4
end
theorem TJ:∀l:bt,ko (l.map W.int)=some (l.map λi=>i != 0)
 |[]=>rfl|x::l=>by
  show(match QM (.int x),ko (l.map W.int) with|some k,some ks=>some (k::ks)|_,_=>none)=_
  rw[TJ l]
  rfl
def EY (l:bt):kR (l.map W.int) A=.ok (.int l.sum) A:=by
 unfold kR;rw[YE]
 have:∀(l:bt)(k:Int),yy l k=k+l.sum:=λl=>by
  induction l with
  |nil=>intro k;show k=k+0;omega|cons x l i=>intro k;show yy l (k+x)=_;rw[i,List.sum_cons];omega
 dsimp only;rw[this,Int.zero_add]
section
variable {K m j:Nat}{w:bt}{S:List (br)}
structure Wf (K:Nat)(S:List (br)):Prop where
 l:S.length=K
 r:∀t∈S,t.length=K
 c:∀t∈S,∀q∈t,q.length=K
 b:∀t∈S,∀i j,0<=at2 t i j/\at2 t i j<100
abbrev pS (S:List (br))(k i j:Nat):Int:=at2 (S.getD k []) i j
def wu (S:List (br))(w:bt)(i j:Nat):Bool:=((S.drop w.length).any λt=>at2 t i j != 0) || decide (w.getD i 0 * w.getD j 0=((List.range w.length).map λk=>pS S k i j * w.getD k 0).sum)
def gC (S:List (br))(w:bt):Bool:=(List.range w.length).all λi=>(List.range w.length).all λj=>wu S w i j
def LP {c:En}{j:ja}{N d:Nat}{u v g:Nat->W}(t:∀i,i<N->j.at_ A i=some (some (.tup [u i,v i])))(H:j.at_ A N=some none)(he:∀i,i<N->me (some (u i)::some (v i)::c) A=.ok (g i) A):
  ∀(f i:Nat)(x y:Option W)(acc:List W),i+f=N->acc.length+f<=qd->∃ρ,qV j (qN 0 1) (zY (.bl true)) (zQ me) (f+d) i (x::y::c) acc A=.ok (ρ,acc++(List.range' i f).map g) A:=by
 intro f
 induction f with
 |zero=>
  intro i x y acc h hl
  have:i=N:=by omega
  subst this;refine⟨x::y::c,?_⟩;rw[zero_add];cases d<;>(unfold qV;rw[H];simp)
 |succ f I=>
  intro i x y acc h hl;obtain⟨ρ,e⟩:=I (i+1) (some (u i)) (some (v i)) (acc++[g i]) (by omega) (by rw[aA,aV];omega)
  refine⟨ρ,?_⟩;rw[show f+1+d=(f+d)+1 by omega,qV,t i (by omega)]
  dsimp only;rw[show qN 0 1 (.tup [u i,v i]) (x::y::c)=some (some (u i)::some (v i)::c) from rfl]
  dsimp only[zY];rw[zK];dsimp only;have E:zQ me (some (u i)::some (v i)::c) acc A=.ok (some (u i)::some (v i)::c,acc++[g i]) A:=by
   unfold zQ;rw[he i (by omega),zK,aj (by omega)]
  rw[E,zK];rw[e,aP,range'_succ,aS]
  rfl
def Lc {j:ja}{N:Nat}{u v g:Nat->W}(hm:mi ρ A=.ok j A)(b:N<=j.len)(f:N<=1000)(H:∀i,i<N->j.at_ A i=some (some (.tup [u i,v i])))(h:j.at_ A N=some none)
  (he:∀i,i<N->me (some (u i)::some (v i)::cap.map λi=>(ρ[i]?).join) A=.ok (g i) A):zT 2 cap mi (qN 0 1) qo (zQ me) ρ A=.ok ((List.range N).map g) A:=by
 obtain⟨a,e⟩:=LP (A:=A) (c:=cap.map λi=>(ρ[i]?).join) (d:=j.len-N) H h he N 0 none none [] (by omega) (by unfold qd;simp;omega)
 unfold zT;rw[hm,zK,show j.len=N+(j.len-N) by omega]
 show R.bind (R.nox (qV j _ _ _ (N+(j.len-N)) 0 (none::none::cap.map λi=>(ρ[i]?).join) [] A)) _=_;rw[e,<- range_eq_range',bb]
 rfl
def Ed {nl:Nat}{m:Ev}{ifs:Ev}{w:W}(h:m ρ A=.ok w A1):zT nl cap (qp m) tw ifs em ρ A=zT nl cap (qp (zY w)) tw ifs em ρ A1:=by
 unfold zT qp;rw[h]
 rfl
def Hj {m:Ev}{o:List α}{f:α->W}{G:α->W}(h:m ρ A=.ok (.ref n) A)(b:A[n]? =some (.lst (o.map f)))(hl:o.length<=qd)(he:∀a∈o,me (some (f a)::cap.map λi=>(ρ[i]?).join) A=.ok (G a) A):
  zT 1 cap (qp m) (zI 0) qo (zQ me) ρ A=.ok (o.map G) A:=by
 have e:=gY (cap:=cap) (me:=me) (ρ:=ρ) (A:=A) (N:=o.length) (item:=λi=>((o.map f)[i]?).getD .non) (g:=λi=>((o.map G)[i]?).getD .non) (Qn h b) (by rw[ai]) hl
  (λi H=>(kN b).trans (by rw[aw,ab H];rfl))
  ((kN b).trans (by rw[az (by rw[ai];exact ak _)]))
  (λi H=>by
   rw[aw,aw,ab H];exact he _ (aK H))
 rw[e]
 congr 1
 apply ext_getElem
 ·simp
 ·intro i d c
  have H:i<o.length:=by simpa using c
  simp[ab H]
def R9 {m p:Ev}{A0:Hx}{k:Nat}(h:m ρ A0=.ok (.ref n) A)(c:A[n]? =some (.lst ws))(a:p ρ A=.ok (.int (k:Int)) A)(b:k<=ws.length):Zg m (gI p) Z5 ρ A0=.ok (.ref A.length) (A++[.lst (ws.drop k)]):=by
 have H:gI p ρ A=.ok (some (k:Int)) A:=by
  unfold gI;rw[a,zK]
 unfold Zg;rw[h,zK,H,zK];show(match A[n]? with|some (O.lst ws)=>R.ok (W.ref A.length) (A++[O.lst (w5 ws (some (k:Int)) none)])|_=>.bad)=_
 rw[c];dsimp only;unfold w5;rw[HT.EI,HT.HS,Nat.min_eq_left b,bo (by rw[length_drop];exact ak _)]
def RP {us vs:List W}(h:A[n]? =some (.lst us))(i:Nat)(N:Nat):(gH (.ref n) (.tup vs) N).at_ A i=some (zip2 us[i]? vs[i]?):=by
 show(match z7 (.ref n) A,z7 (.tup vs) A with|some us,some vs=>some (zip2 us[i]? vs[i]?)|_,_=>none)=_
 have:z7 (.ref n) A=some us:=by unfold z7;dsimp only;rw[h]
 rw[this]
 rfl
def Bj {m M:Ev}{us vs:List W}(h:m ρ A=.ok (.ref n) A)(H:A[n]? =some (.lst us))(h':M ρ A=.ok (.tup vs) A):kC m M ρ A=.ok (gH (.ref n) (.tup vs) us.length) A:=by
 unfold kC;rw[h,zK,h',zK]
 have:z7 (.ref n) A=some us:=by unfold z7;dsimp only;rw[H]
 rw[this]
 rfl
abbrev fB:Ex:=zm (zR 5 (jh (zT 1 [3,4] (qp (Zg zp (gI zH) Z5)) (zI 0) qo (zQ (zh zB (zh zB zp zt) zH))))) (zm (zR 6 (jh (zT 2 [3,4] (kC zp zt) (qN 0 1) qo (zQ (zh qh (zh zB (zh zB zp zH) zS) zt))))) (zm (qW (jS (jX (mQ QG (zP qR))) (zh q9 (zh qh (zh zB zt zS) (zh zB zt qt)) (mQ kR (zP jZ)))) yn zu) zu))
def Aw {x5 x6:Option W}(H:Wf K S)(h:A[0]? =some (.lst (S.map zj)))(hm:w.length<=K)(hK:K<=8)(hw:∀v∈w,-100<v/\v<100)(L:i<w.length)(X:j<w.length):
  ∃T Y B,B[0]? =some (.lst (S.map zj))/\fB [some (.ref 0),some (zC w),some (.int (w.length:Int)),some (.int (i:Int)),some (.int (j:Int)),x5,x6] A=.ok (if wu S w i j then .nx [some (.ref 0),some (zC w),some (.int (w.length:Int)),some (.int (i:Int)),some (.int (j:Int)),T,Y] else .rt (.bl false)) B:=by
 have p:(S.map zj).length=K:=by rw[ai,H.l]
 have e8:w.length<=8:=by omega
 generalize m:([some (.ref 0),some (zC w),some (.int (w.length:Int)),some (.int (i:Int)),some (.int (j:Int)),x5,x6]:En)=ρ;have Q:Zg zp (gI zH) Z5 ρ A=.ok (.ref A.length) (A++[.lst ((S.map zj).drop w.length)]):=by
  subst m;exact R9 (zx rfl) h (zx rfl) (by rw[p];exact hm)
 rw[<- List.map_drop]at Q;have e5:zT 1 [3,4] (qp (Zg zp (gI zH) Z5)) (zI 0) qo (zQ (zh zB (zh zB zp zt) zH)) ρ A=.ok ((S.drop w.length).map λt=>W.int (at2 t i j)) (A++[.lst ((S.drop w.length).map zj)]):=by
  rw[Ed Q];refine Hj (f:=zj) qY kq (by have:=H.l;rw[length_drop];unfold qd;omega) (λt o=>?_)
  have n:=mem_of_mem_drop o;have hl:=H.r t n;subst m;exact(qb ((qb (zx rfl) (zx rfl)).trans (ZP (a:=i) (by omega))) (zx rfl)).trans (Qx (b:=j) (by rw[H.c t n _ (yo (by omega))];omega))
 have I:=wM e5;have s:(A++[O.lst ((S.drop w.length).map zj)]++[O.lst ((S.drop w.length).map λt=>W.int (at2 t i j))])[0]? =some (.lst (S.map zj)):=yG (yG h);have D:(A++[O.lst ((S.drop w.length).map zj)]++[O.lst ((S.drop w.length).map λt=>W.int (at2 t i j))])[(A++[O.lst ((S.drop w.length).map zj)]).length]? =some (.lst ((S.drop w.length).map λt=>W.int (at2 t i j))):=kq;generalize A++[O.lst ((S.drop w.length).map zj)]++[O.lst ((S.drop w.length).map λt=>W.int (at2 t i j))]=B at*;generalize (A++[O.lst ((S.drop w.length).map zj)]).length=q at*;generalize e:([some (.ref 0),some (zC w),some (.int (w.length:Int)),some (.int (i:Int)),some (.int (j:Int)),some (.ref q),x6]:En)=σ;have ez:kC zp zt σ B=.ok (gH (.ref 0) (zC w) (S.map zj).length) B:=by
  subst e;exact Bj (zx rfl) s (zx rfl)
 have e6:=Lc (cap:=[3,4]) (me:=zh qh (zh zB (zh zB zp zH) zS) zt) (N:=w.length) (u:=λk=>zj (S.getD k [])) (v:=λk=>.int (w.getD k 0)) (g:=λk=>.int (pS S k i j * w.getD k 0)) ez (by show w.length<=(S.map zj).length;rw[p];exact hm) (by omega)
  (λk J=>(RP s k _).trans (by
   rw[aw,ab (show k<S.length by rw[H.l];omega),int_at J,aa (l:=S),ab (show k<S.length by rw[H.l];omega)]
   rfl))
  ((
   RP s _ _).trans (by
   rw[az (l:=w.map W.int) (by rw[ai];exact ak _)]
   cases (S.map zj)[w.length]?<;>rfl))
  (λk J=>by
   have o:S.getD k []∈S:=by
    rw[aa,ab (show k<S.length by rw[H.l];omega)]
    exact aK _
   have hl:=H.r _ o;have hb:=H.b _ o i j;subst e;exact(qb ((qb ((qb (zx rfl) (zx rfl)).trans (ZP (a:=i) (by omega))) (zx rfl)).trans (Qx (b:=j) (by rw[H.c _ o _ (yo (by omega))];omega))) (zx rfl)).trans (ZQ (by show -(2 ^ 64)<at2 _ i j;omega) (by show at2 _ i j<2 ^ 64;omega)))
 have E:=wM e6;have Z:(B++[O.lst ((List.range w.length).map λk=>W.int (pS S k i j * w.getD k 0))])[0]? =some (.lst (S.map zj)):=yG s;have y:(B++[O.lst ((List.range w.length).map λk=>W.int (pS S k i j * w.getD k 0))])[q]? =some (.lst ((S.drop w.length).map λt=>W.int (at2 t i j))):=yG D;have x:(B++[O.lst ((List.range w.length).map λk=>W.int (pS S k i j * w.getD k 0))])[B.length]? =some (.lst ((List.range w.length).map λk=>W.int (pS S k i j * w.getD k 0))):=kq;generalize B++[O.lst ((List.range w.length).map λk=>W.int (pS S k i j * w.getD k 0))]=C at*;refine⟨some (.ref q),some (.ref B.length),C,Z,?_⟩;have wi:=hw (w.getD i 0) (by rw[aa,ab L];exact aK _)
 generalize d:([some (.ref 0),some (zC w),some (.int (w.length:Int)),some (.int (i:Int)),some (.int (j:Int)),some (.ref q),some (.ref B.length)]:En)=τ;have f1:jX (mQ QG (zP qR)) τ C=.ok (.bl (!((S.drop w.length).any λt=>at2 t i j != 0))) C:=by
  subst d;refine JB ((yt (yV (w:=.ref q) (ws:=((S.drop w.length).map λt=>at2 t i j).map W.int) (A1:=C) (zx rfl) (by unfold z7;dsimp only;rw[y,ba];rfl))).trans ?_)
  show wX (λks=>ks.any id) _ C=_;unfold wX;rw[TJ,ba];dsimp only;rw[List.any_map]
  rfl
 have f2:zh q9 (zh qh (zh zB zt zS) (zh zB zt qt)) (mQ kR (zP jZ)) τ C=.ok (.bl (!decide (w.getD i 0 * w.getD j 0=((List.range w.length).map λk=>pS S k i j * w.getD k 0).sum))) C:=by
  subst d;refine(qb ((qb ((qb (zx rfl) (zx rfl)).trans (Qx L)) ((qb (zx rfl) (zx rfl)).trans (Qx X))).trans (ZQ (by omega) (by omega))) ((yt (yV (w:=.ref B.length) (ws:=((List.range w.length).map λk=>pS S k i j * w.getD k 0).map W.int) (A1:=C) (zx rfl) (by unfold z7;dsimp only;rw[x,ba];rfl))).trans (EY _))).trans (X7 _ _ _)
 have hf:jS (jX (mQ QG (zP qR))) (zh q9 (zh qh (zh zB zt zS) (zh zB zt qt)) (mQ kR (zP jZ))) τ C=.ok (.bl (!wu S w i j)) C:=by
  unfold wu;cases M:(S.drop w.length).any λt=>at2 t i j != 0 with
  |true=>rw[M]at f1;exact R8 f1|false=>rw[M]at f1;rw[Bool.false_or];exact(Qs f1).trans f2
 have head:∀{z},zm (qW (jS (jX (mQ QG (zP qR))) (zh q9 (zh qh (zh zB zt zS) (zh zB zt qt)) (mQ kR (zP jZ)))) yn zu) zu τ C=z->fB ρ A=z:=λU=>by
  subst m;subst e;subst d;exact(qc (jq I)).trans ((qc (jq E)).trans U)
 refine head ?_;cases P:wu S w i j with
 |true=>rw[P]at hf;exact(qc ((wj hf).trans yE)).trans yE|false=>rw[P]at hf;exact qX ((JZ hf).trans (qX (jI qY)))
def all_succ {p:Nat->Bool}{k:Nat}:(List.range (k+1)).all p=((List.range k).all p&&p k):=by
 rw[range_succ,List.all_append];simp
def all_false {p:Nat->Bool}{k N:Nat}(H:k<N)(h:p k=false):(List.range N).all p=false:=by
 cases e:(List.range N).all p with
 |false=>rfl|true=>exact absurd (bU.mp e k (bO.mpr H)) (by rw[h];decide)
abbrev fI:Ex:=zm (qK (jc zH) (zI 4) fB) zu
def Ai {x4 x5 x6:Option W}(n:Wf K S)(h:A[0]? =some (.lst (S.map zj)))(hm:w.length<=K)(o:K<=8)(hw:∀v∈w,-100<v/\v<100)(l:i<w.length):
  (∃a Y y B,B[0]? =some (.lst (S.map zj))/\(List.range w.length).all (wu S w i)=true/\fI [some (.ref 0),some (zC w),some (.int (w.length:Int)),some (.int (i:Int)),x4,x5,x6] A=.ok (.nx [some (.ref 0),some (zC w),some (.int (w.length:Int)),some (.int (i:Int)),a,Y,y]) B)∨
  ∃B,B[0]? =some (.lst (S.map zj))/\(List.range w.length).all (wu S w i)=false/\fI [some (.ref 0),some (zC w),some (.int (w.length:Int)),some (.int (i:Int)),x4,x5,x6] A=.ok (.rt (.bl false)) B:=by
 have d:=ZE (m:=zH) (ρ:=[some (.ref 0),some (zC w),some (.int (w.length:Int)),some (.int (i:Int)),x4,x5,x6]) (A:=A) (A1:=A) (k:=(w.length:Int)) (zx rfl) (g7 (by omega))
 rw[aH]at d;rcases Jk (j:=kx 0 w.length) (st:=turn (zI 4) fB) (N:=w.length) (I:=λk ρ B=>B[0]? =some (.lst (S.map zj))/\(List.range k).all (wu S w i)=true/\∃a Y y,ρ=[some (.ref 0),some (zC w),some (.int (w.length:Int)),some (.int (i:Int)),a,Y,y]) (Q:=λr B=>r=.bl false/\B[0]? =some (.lst (S.map zj))/\(List.range w.length).all (wu S w i)=false)
  (λk ρ B b ⟨h0,H,a,Y,y,e⟩=>by
   subst e;refine⟨_,ZM b,?_⟩;obtain⟨Z,z,C,f,p⟩:=Aw (x5:=Y) (x6:=y) (j:=k) n h0 hm o hw l b;have E:=(kL (tw:=zI 4) (w:=.int (0+(k:Int))) (ρ:=[some (.ref 0),some (zC w),some (.int (w.length:Int)),some (.int (i:Int)),a,Y,y]) (ρ1:=[some (.ref 0),some (zC w),some (.int (w.length:Int)),some (.int (i:Int)),some (.int (k:Int)),Y,y]) (A:=B) (m1:=fB) (by rw[Int.zero_add];rfl)).trans p
   cases hf:wu S w i k with
   |true=>
    rw[hf]at E;exact .inl ⟨_,C,E,f,by rw[all_succ,H,hf];rfl,_,_,_,rfl⟩
   |false=>
    rw[hf]at E;exact .inr ⟨_,C,E,rfl,f,all_false b hf⟩)
  (λρ B _=>ZG (by omega)) w.length 0 [some (.ref 0),some (zC w),some (.int (w.length:Int)),some (.int (i:Int)),x4,x5,x6] A (by omega) ⟨h,rfl,_,_,_,rfl⟩ with ⟨g,B,e,c,H,a,Y,y,rfl⟩|⟨r,B,e,rfl,c,H⟩
 ·exact .inl ⟨a,Y,y,B,c,H,(qc ((yP d).trans e)).trans yE⟩
 ·exact .inr ⟨B,c,H,qX ((yP d).trans e)⟩
def CI (o:Wf K S)(hm:w.length<=K)(p:K<=8)(hw:∀v∈w,-100<v/\v<100):∃B,Kg [.ref 0,zC w] [.lst (S.map zj)]=.ok (.bl (gC S w)) B/\B[0]? =some (.lst (S.map zj)):=by
 have l:mQ qe (zP zt) [some (.ref 0),some (zC w),none,none,none,none,none] [.lst (S.map zj)]=.ok (.int (w.length:Int)) [.lst (S.map zj)]:=by
  rw[yt (yV (w:=zC w) (ws:=w.map W.int) (A1:=[.lst (S.map zj)]) (zx rfl) rfl)];unfold qe;rw[ai]
 have E:=ZE (m:=zH) (ρ:=[some (.ref 0),some (zC w),some (.int (w.length:Int)),none,none,none,none]) (A:=[.lst (S.map zj)]) (A1:=[.lst (S.map zj)]) (k:=(w.length:Int)) (zx rfl) (g7 (by omega))
 rw[aH]at E;unfold Kg;rcases Jk (j:=kx 0 w.length) (st:=turn (zI 3) fI) (N:=w.length) (I:=λk ρ B=>B[0]? =some (.lst (S.map zj))/\(List.range k).all (λi=>(List.range w.length).all λj=>wu S w i j)=true/\∃b a Y y,ρ=[some (.ref 0),some (zC w),some (.int (w.length:Int)),b,a,Y,y]) (Q:=λr B=>r=.bl false/\B[0]? =some (.lst (S.map zj))/\gC S w=false)
  (λk ρ B c ⟨h0,H,b,a,Y,y,e⟩=>by
   subst e;refine⟨_,ZM c,?_⟩;have t:=kL (tw:=zI 3) (w:=.int (0+(k:Int))) (ρ:=[some (.ref 0),some (zC w),some (.int (w.length:Int)),b,a,Y,y]) (ρ1:=[some (.ref 0),some (zC w),some (.int (w.length:Int)),some (.int (k:Int)),a,Y,y]) (A:=B) (m1:=fI) (by rw[Int.zero_add];rfl)
   rcases Ai (x4:=a) (x5:=Y) (x6:=y) (i:=k) o h0 hm p hw c with ⟨q,Z,z,C,d,h,g⟩|⟨C,d,h,g⟩
   ·exact .inl ⟨_,C,t.trans g,d,by rw[all_succ,H];exact h,_,_,_,_,rfl⟩
   ·exact .inr ⟨_,C,t.trans g,rfl,d,all_false c h⟩)
  (λρ B _=>ZG (by omega)) w.length 0 [some (.ref 0),some (zC w),some (.int (w.length:Int)),none,none,none,none] [.lst (S.map zj)] (by omega) ⟨rfl,rfl,_,_,_,_,rfl⟩ with ⟨n,B,e,f,H,b,a,Y,y,rfl⟩|⟨r,B,e,rfl,f,H⟩
 ·refine⟨B,jo ?_,f⟩
  rw[show gC S w=true from H]
  unfold G6;exact(qc (jq l)).trans ((qc ((yP E).trans e)).trans (qX (jI qY)))
 ·refine⟨B,jo ?_,f⟩
  rw[H];unfold G6;exact(qc (jq l)).trans (qX ((yP E).trans e))
def Hk {f:Fn}{us:List W}{v:W}(H:A[n]? =some (.lst ws))(hn:qG ws=true)(u:qG us=true)(h:f (.ref 0::us) [.lst ws]=.ok v A1)(b:A1[0]? =some (.lst ws))(a:v.nr=true):j3 f (.ref n::us) A=.ok v A:=by
 unfold j3;dsimp only;rw[H];dsimp only;rw[hn,u,h];dsimp only[Bool.and_true,if_true];rw[List.head?_eq_getElem?,b];dsimp only;rw[hn,a]
 have:A.set n (.lst ws)=A:=by
  apply List.ext_getElem?
  intro i
  by_cases h:n=i
  ·subst h
   rw[aB (gq H),H]
  ·rw[ay h]
 rw[this]
 rfl
def CJ (H:Wf K S)(hm:w.length<=K)(a:K<=8)(hw:∀v∈w,-100<v/\v<100)(h:A[n]? =some (.lst (S.map zj))):Zb [.ref n,zC w] A=.ok (.bl (gC S w)) A:=by
 obtain⟨B,e,b⟩:=CI H hm a hw;exact Hk h (g8 (λ_=>Za _) _) (by show((zC w).nr&&true)=true;rw[GX];rfl) e b rfl
end
noncomputable def dn (s:Int):bt:=(List.range (2 * s.toNat+1)).map λ(i:Nat)=>s-(i:Int)
def ext (s:Int)(w:bt):br:=(dn s).map λv=>w++[v]
def step (S:List (br))(L:br)(s:Int):br:=(L.flatMap (ext s)).filter (gC S)
def kG (S:List (br))(z:bt):Nat->List (bt)
 |0=>[[1]]|k+1=>step S (kG S z k) (z.getD (k+1) 0)
def Kb (s:Int):(dn s).length=2 * s.toNat+1:=by unfold dn;rw[ai,aE]
def R6 {s v:Int}(h0:0<=s):v∈dn s↔-s<=v/\v<=s:=by
 unfold dn;rw[mem_map]
 constructor
 ·rintro⟨i,H,rfl⟩
  have:=bO.mp H
  omega
 ·intro h
  exact⟨(s-v).toNat,bO.mpr (by omega),by omega⟩
def three {s:Nat}:2 * s+1<=3 ^ s:=by
 induction s with
 |zero=>decide|succ s i=>rw[Nat.pow_succ];omega
section
variable {K k:Nat}{w z:bt}{S:List (br)}{L:br}{s:Int}
def S8 {x:bt}:x∈ext s w↔∃v∈dn s,x=w++[v]:=by
 unfold ext;rw[mem_map];exact⟨λ⟨v,h,e⟩=>⟨v,h,e.symm⟩,λ⟨v,h,e⟩=>⟨v,h,e.symm⟩⟩
def Fh:(step S L s).length<=L.length * 3 ^ s.toNat:=by
 unfold step;refine a3 (List.length_filter_le _ _) ?_
 induction L with
 |nil=>rw[List.flatMap_nil];exact zero_le _|cons w L i=>
  rw[flatMap_cons,aA,bq,Nat.succ_mul]
  have:(ext s w).length<=3 ^ s.toNat:=by
   unfold ext;rw[ai,Kb];exact three
  omega
def Rz (M:br):(M.flatMap (ext s)).length=M.length * (2 * s.toNat+1):=by
 induction M with
 |nil=>rw[List.flatMap_nil];show 0=0 * _;rw[Nat.zero_mul]|cons w M i=>
  rw[flatMap_cons,aA,i,bq,Nat.add_mul M.length 1,Nat.one_mul,add_comm];unfold ext;rw[ai,Kb]
structure Zs (K:Nat)(z:bt):Prop where
 l:z.length=K
 p:∀v∈z,1<=v
 s:z.sum<=8
 h:z.getD 0 0=1
theorem JO:∀(z:bt),(∀v∈z,1<=v)->∀v∈z,0<=z.sum/\v<=z.sum
 |[],_,v,h=>by cases h|x::z,p,v,H=>by
  have c:=p x (aJ ..);have b:0<=z.sum:=by
   cases z with
   |nil=>exact Int.le_refl _|cons y Z=>exact(JO (y::Z) (λu a=>p u (aI _ a)) y (aJ ..)).1
  rw[List.sum_cons];rcases bQ.mp H with rfl|H
  ·omega
  ·have:=(JO z (λu a=>p u (aI _ a)) v H).2
   omega
def Zs.le (h:Zs K z)(H:k<K):1<=z.getD k 0/\z.getD k 0<=8:=by
 have hm:z.getD k 0∈z:=by
  rw[aa,ab (by rw[h.l];exact H)]
  exact aK _
 have:=JO z h.p _ hm
 have:=h.p _ hm
 have:=h.s
 omega
theorem TK (a:Zs K z):∀k,k<K->∀w∈kG S z k,w.length=k+1/\(∀v∈w,-9<v/\v<9)/\w.getD 0 0=1/\∀i,i<=k->-(z.getD i 0)<=w.getD i 0/\w.getD i 0<=z.getD i 0
 |0,c,w,h=>by
  have:w=[1]:=bS.mp h
  subst this;refine⟨rfl,λv b=>by rw[bS.mp b];omega,rfl,λi f=>?_⟩
  have:i=0:=by omega
  subst this;rw[a.h];show -1<=(1:Int)/\(1:Int)<=1;omega
 |k+1,c,w,h=>by
  obtain⟨x,d,hw⟩:=List.mem_flatMap.mp (List.mem_filter.mp h).1;obtain⟨v,b,rfl⟩:=S8.mp hw;obtain⟨n,m,j,g⟩:=TK a k (by omega) x d
  have Z:=a.le c;have D:=(R6 (by omega)).mp b
  refine⟨by rw[aA,n];rfl,λu H=>?_,?_,λi f=>?_⟩
  ·rcases List.mem_append.mp H with H|H
   ·exact m u H
   ·rw[bS.mp H];omega
  ·rw[aa,ah (by omega),<- aa]
   exact j
  ·by_cases e:i=k+1
   ·subst e
    rw[aa (l:=x++[v]),ar (by omega),show k+1-x.length=0 by omega]
    exact D
   ·rw[aa (l:=x++[v]),ah (by omega),<- aa]
    exact g i (by omega)
theorem RB (h:Zs K z):∀k,k<K->(kG S z k).length<=3 ^ (((z.drop 1).take k).sum).toNat
 |0,_=>by show 1<=3 ^ 0;decide|k+1,H=>by
  have i:=RB h k (by omega)
  have Z:=h.le H;have e:(z.drop 1).take (k+1)=(z.drop 1).take k++[z.getD (k+1) 0]:=by
   rw[List.take_succ,List.getElem?_drop,add_comm 1 k,ab (by rw[h.l];exact H),aa,ab (by rw[h.l];exact H)]
   rfl
  have n:0<=((z.drop 1).take k).sum:=by
   cases q:(z.drop 1).take k with
   |nil=>exact Int.le_refl _|cons y l=>
    refine(JO (y::l) (λu a=>h.p u ?_) y (aJ ..)).1;rw[<- q]at a;exact mem_of_mem_drop (List.mem_of_mem_take a)
  have sl:=Fh (S:=S) (L:=kG S z k) (s:=z.getD (k+1) 0);rw[e,sum_append,List.sum_singleton,Int.toNat_add n (by omega),Nat.pow_add]
  exact a3 sl (Nat.mul_le_mul_right _ i)
def Ds (h:Zs K z)(b:k<K):(kG S z k).length<=2187:=by
 refine a3 (RB h k b) ?_
 have:(((z.drop 1).take k).sum).toNat<=7:=by
  have a:∀l:bt,(∀v∈l,1<=v)->0<=l.sum:=λl hl=>by
   cases l with
   |nil=>exact Int.le_refl _|cons y l=>exact(JO (y::l) hl y (aJ ..)).1
  have e:z.sum=(z.take 1).sum+((z.drop 1).take k).sum+((z.drop 1).drop k).sum:=by
   rw[<- sum_append,<- sum_append,aP,a9,a9]
  have a1:1<=(z.take 1).sum:=by
   cases z with
   |nil=>have:=h.l;simp at this;omega|cons x z=>
    have:=h.p x (aJ ..)
    simp;omega
  have a2:=a ((z.drop 1).drop k) λv H=>h.p v (mem_of_mem_drop (mem_of_mem_drop H))
  have:=h.s
  omega
 exact Nat.pow_le_pow_right (by decide) this
variable {m j:Nat}
def FZ {us vs:List W}(h:us.length+vs.length<=1000):qU (.tup us) (.tup vs) A=.ok (.tup (us++vs)) A:=by
 unfold qU;dsimp only;rw[aj (by unfold qd;omega)]
abbrev X8:Em:=kO (JV zH (zh yM (jH ZZ zH) qC)) (zI 1) qo (zQ (zh qU zp (ji (zi zt zr))))
def D3 {x1:Option W}{acc:List W}(h0:0<=s)(m:s<=8)(hw:w.length<=8)(l:acc.length<=90000):∃Y,X8 [some (zC w),x1,some (.int s)] acc A=.ok ([some (zC w),Y,some (.int s)],acc++(ext s w).map zC) A:=by
 have r:JV zH (zh yM (jH ZZ zH) qC) [some (zC w),x1,some (.int s)] A=.ok (QL s (2 * s.toNat+1)) A:=by
  have E:zh yM (jH ZZ zH) qC [some (zC w),x1,some (.int s)] A=.ok (.int (-s-1)) A:=(qb (x:=.int (-s)) (A1:=A) ((RR (g:=ZZ) (zx (i:=2) rfl)).trans rfl) qY).trans rfl;unfold JV;rw[show zH [some (zC w),x1,some (.int s)] A=.ok (.int s) A from zx rfl,zK,E,zK]
  show(if (jy s&&jy (-s-1))=true then R.ok (QL s (s-(-s-1)).toNat) A else .bad)=_;rw[aj,show(s-(-s-1)).toNat=2 * s.toNat+1 by omega]
  have:s=0∨s=1∨s=2∨s=3∨s=4∨s=5∨s=6∨s=7∨s=8:=by omega
  rcases this with rfl|rfl|rfl|rfl|rfl|rfl|rfl|rfl|rfl<;>decide
 obtain⟨f,d,n,e,E,c,Y,b⟩:=Se (j:=QL s (2 * s.toNat+1)) (tw:=zI 1) (ifs:=qo) (em:=zQ (zh qU zp (ji (zi zt zr)))) (N:=2 * s.toNat+1) (I:=λk ρ a B=>B=A/\a=acc++((dn s).take k).map (λv=>zC (w++[v]))/\∃Y,ρ=[some (zC w),Y,some (.int s)])
  (λk ρ a B h ⟨E,c,Y,b⟩=>by
   subst E c b;have hl:k<(dn s).length:=by rw[Kb];exact h
   have H:(dn s)[k]=s-(k:Int):=by simp[dn]
   refine⟨.int (s-(k:Int)),_,?_,rfl,.inl ⟨_,_,_,_,qY,GD (y:=zC (w++[s-(k:Int)])) ((qb (zx rfl) (Y6 (qf (zx rfl) qZ))).trans ((FZ ?_).trans ?_)) ?_,rfl,?_,_,rfl⟩⟩
   ·show(if k<2 * s.toNat+1 then some (some (W.int (s-(k:Int)))) else some none)=_
    rw[aj h]
   ·rw[ai];show w.length+1<=1000;omega
   ·unfold zC;rw[aU];rfl
   ·rw[aA,ai,bp];unfold qd;omega
   ·rw[take_succ hl,aU,H,aP];rfl)
  (λρ a B _=>by
   show(if 2 * s.toNat+1<2 * s.toNat+1 then some (some (W.int (s-((2 * s.toNat+1:Nat):Int)))) else some none)=_;rw[ao (by omega)]) (2 * s.toNat+1) 0 [some (zC w),x1,some (.int s)] acc A (by omega) ⟨rfl,by rw[take_zero,map_nil,append_nil],_,rfl⟩
 subst E c b;refine⟨Y,?_⟩;show(kO _ _ _ _ _ _ _)=_;unfold kO;rw[r,zK];refine e.trans ?_;rw[bo (by rw[Kb];exact ak _)]
 unfold ext;rw[ba]
 rfl
abbrev OH:jv:=zT 2 [3] (qp zH) (zI 0) qo X8
def BD {x y:Option W}{r:Nat}{a:W}(h0:0<=s)(l:s<=8)(j:∀w∈L,w.length<=8)(hl:L.length * 17<=90000)(H:A[r]? =some (.lst (L.map zC))):OH [some a,x,some (.ref r),some (.int s),y] A=.ok ((L.flatMap (ext s)).map zC) A:=by
 have i:∀k,((L.take k).flatMap (ext s)).length<=L.length * 17:=λk=>by
  rw[Rz];have o:(L.take k).length<=L.length:=by rw[bp];omega
  have m:2 * s.toNat+1<=17:=by omega
  exact mul_le_mul o m
 obtain⟨g,f,t,e,E,b,_⟩:=Gq (nl:=2) (cap:=[3]) (mi:=qp zH) (ρ:=[some a,x,some (.ref r),some (.int s),y]) (tw:=zI 0) (ifs:=qo) (em:=X8) (N:=L.length) (I:=λk ρ c B=>B=A/\c=((L.take k).flatMap (ext s)).map zC/\∃d Y,ρ=[d,Y,some (.int s)]) (Qn (n:=r) (zx rfl) H) (by show(L.map zC).length=L.length;rw[ai])
  (λk ρ c B h ⟨E,b,d,Y,q⟩=>by
   subst E b q;have hm:=i k;obtain⟨z,p⟩:=D3 (A:=B) (w:=L[k]) (x1:=Y) (acc:=((L.take k).flatMap (ext s)).map zC) h0 l (j _ (aK h)) (by rw[ai];omega)
   refine⟨zC L[k],_,(kN H).trans (by rw[aw,ab h];rfl),rfl,.inl ⟨_,_,_,_,qY,p,rfl,?_,_,_,rfl⟩⟩
   rw[take_succ h,bf,aU,List.flatMap_singleton])
  (λρ c B ⟨E,_⟩=>by
   subst E;exact(kN H).trans (by rw[az (by rw[ai];exact ak _)]))
  ⟨rfl,by rw[take_zero];rfl,_,_,rfl⟩
 subst E b;rw[bo (ak _)]at e;exact e
abbrev Oq:jv:=zT 1 [1] (qp qt) (zI 0) (zy Zb (zi zt (zi zp zr))) (zQ zp)
def BY {x2 x3:Option W}{r:Nat}{a:W}(m:Wf K S)(p:K<=8)(o:∀w∈L,w.length<=K/\∀v∈w,-100<v/\v<100)(hl:L.length<=90000)(h0:A[0]? =some (.lst (S.map zj)))(H:A[r]? =some (.lst (L.map zC))):Oq [some a,some (.ref 0),x2,x3,some (.ref r)] A=.ok ((L.filter (gC S)).map zC) A:=by
 obtain⟨i,g,s,e,E,d,_⟩:=Gq (nl:=1) (cap:=[1]) (mi:=qp qt) (ρ:=[some a,some (.ref 0),x2,x3,some (.ref r)]) (tw:=zI 0) (ifs:=zy Zb (zi zt (zi zp zr))) (em:=zQ zp) (N:=L.length) (I:=λk ρ c B=>B=A/\c=((L.take k).filter (gC S)).map zC/\∃y,ρ=[y,some (.ref 0)]) (Qn (n:=r) (zx rfl) H) (by show(L.map zC).length=L.length;rw[ai])
  (λk ρ c B h ⟨E,d,y,q⟩=>by
   subst E d q;obtain⟨l,j⟩:=o _ (aK h);have b:=(jd (f:=Zb) (ρ:=[some (zC L[k]),some (.ref 0)]) (A:=B) (qf (ma:=zt) (zx rfl) (qf (ma:=zp) (zx rfl) qZ))).trans (CJ m l p j h0);refine⟨zC L[k],[some (zC L[k]),some (.ref 0)],(kN H).trans (by rw[aw,ab h];rfl),rfl,?_⟩
   cases hf:gC S L[k] with
   |true=>
    rw[hf]at b;refine .inl ⟨_,_,_,_,b,GD (zx rfl) ?_,rfl,?_,_,rfl⟩
    ·rw[ai]
     have:=List.length_filter_le (gC S) (L.take k)
     rw[bp]at this;unfold qd;omega
    ·rw[take_succ h,List.filter_append,aU,List.filter_cons_of_pos hf,List.filter_nil];rfl
   |false=>
    rw[hf]at b;refine .inr ⟨_,b,rfl,?_,_,rfl⟩;rw[take_succ h,List.filter_append,List.filter_cons_of_neg (by rw[hf];decide),List.filter_nil,append_nil])
  (λρ c B ⟨E,_⟩=>by
   subst E;exact(kN H).trans (by rw[az (by rw[ai];exact ak _)]))
  ⟨rfl,by rw[take_zero];rfl,_,rfl⟩
 subst E d;rw[bo (ak _)]at e;exact e
structure Dt (t:br)(K:Nat)(S:List (br))(z:bt):Prop where
 tab:qI t
 kd:qy t=(K:Int)
 sd:gO t K=[]
 ks:∀A,gU [zj t] A=.ok (.ref A.length) (A++[.lst (S.map zj)])
 zf:∀A,ki [zj t] A=.ok (.ref A.length) (A++[.lst (z.map W.int)])
 wf:Wf K S
 zs:Zs K z
 k1:1<=K
 k8:K<=8
abbrev sB:Ex:=zm (zR 4 (jh OH)) (zm (zR 2 (jh Oq)) zu)
def AE {r:Nat}{x4:Option W}(h:Dt t K S z)(e:k+1<K)(h0:A[0]? =some (.lst (S.map zj)))(f:A[r]? =some (.lst ((kG S z k).map zC))):∃Y b C,sB [some (zj t),some (.ref 0),some (.ref r),some (.int (z.getD (k+1) 0)),x4] A=.ok (.nx [some (zj t),some (.ref 0),some (.ref b),some (.int (z.getD (k+1) 0)),Y]) C/\Ext A C/\C[b]? =some (.lst ((kG S z (k+1)).map zC)):=by
 have sh:=TK (S:=S) h.zs k (by omega)
 have i:=Ds (S:=S) h.zs (k:=k) (by omega)
 have Z:=h.zs.le e;have k8:=h.k8;have j:=wM (BD (s:=z.getD (k+1) 0) (x:=some (.ref 0)) (y:=x4) (a:=zj t) (by omega) (by omega) (λw hw=>by have:=(sh w hw).1;omega) (by omega) f)
 have L:∀w∈(kG S z k).flatMap (ext (z.getD (k+1) 0)),w.length<=K/\∀v∈w,-100<v/\v<100:=λw hw=>by
  obtain⟨x,c,hw⟩:=List.mem_flatMap.mp hw;obtain⟨v,d,rfl⟩:=S8.mp hw;obtain⟨s1,s2,_⟩:=sh x c;have D:=(R6 (by omega)).mp d
  refine⟨by rw[aA,s1];show k+1+1<=K;omega,λu H=>?_⟩
  rcases List.mem_append.mp H with H|H
  ·have:=s2 u H;omega
  ·rw[bS.mp H];omega
 have l:((kG S z k).flatMap (ext (z.getD (k+1) 0))).length<=90000:=by
  rw[Rz];have g:2 * (z.getD (k+1) 0).toNat+1<=17:=by omega
  exact a3 (mul_le_mul i g) (by decide)
 have E:=wM (BY (x2:=some (.ref r)) (x3:=some (.int (z.getD (k+1) 0))) (a:=zj t) (A:=A++[.lst (((kG S z k).flatMap (ext (z.getD (k+1) 0))).map zC)]) (r:=A.length) h.wf h.k8 L l (yG h0) kq);exact⟨_,_,_,(qc (jq j)).trans ((qc (jq E)).trans yE),Ext.one.trans Ext.one,kq⟩
def HU (h:Dt t K S z)(A:Hx):yT [zj t] A=.ok (.ref A.length) (A++[.lst ((kG S z (K-1)).map zC)]):=by
 have Z:=h.zs.l;have k1:=h.k1;have k8:=h.k8;have u:=h.ks [];have s:=h.zf [.lst (S.map zj),.lst [.tup [.int 1]]];have E:=R9 (m:=zy ki (zi zp zr)) (p:=qC) (ρ:=[some (zj t),some (.ref 0),some (.ref 1),none,none]) (A0:=[.lst (S.map zj),.lst [.tup [.int 1]]]) (n:=2) (k:=1) ((jd (qf (zx rfl) qZ)).trans s) rfl qY (by rw[ai,Z];exact k1)
 rw[<- List.map_drop]at E;have hd:(z.drop 1).length=K-1:=by rw[length_drop,Z]
 have c:∀(B:Hx)(i:Nat),B[3]? =some (.lst ((z.drop 1).map W.int))->i<K-1->((z7 (.ref 3) B).map λws=>ws[i]?)=some (some (.int (z.getD (i+1) 0))):=λB i q d=>by
  rw[kN q,aw,List.getElem?_drop,add_comm 1 i,ab (by rw[Z];omega),aa,ab (by rw[Z];omega)]
  rfl
 obtain⟨f,B,e,h0,H,r,Y,y,rfl,b⟩:=Jl (j:=⟨λA i=>(z7 (.ref 3) A).map λws=>ws[i]?,K-1⟩) (st:=turn (zI 3) sB) (N:=K-1) (I:=λk ρ B=>B[0]? =some (.lst (S.map zj))/\B[3]? =some (.lst ((z.drop 1).map W.int))/\∃r Y y,ρ=[some (zj t),some (.ref 0),some (.ref r),Y,y]/\B[r]? =some (.lst ((kG S z k).map zC)))
  (λi ρ B d ⟨h0,H,r,Y,y,a,b⟩=>by
   subst a;obtain⟨v,g,C,e,x,o⟩:=AE (x4:=y) h (k:=i) (by omega) h0 b
   exact⟨_,_,C,c B i H d,(kL rfl).trans e,x.at h0,x.at H,g,_,_,rfl,o⟩)
  (λρ B ⟨_,H,_⟩=>by
   show((z7 (.ref 3) B).map λws=>ws[K-1]?)=_;rw[kN H,az (by rw[ai,hd];exact ak _)]) (K-1) 0 [some (zj t),some (.ref 0),some (.ref 1),none,none] [.lst (S.map zj),.lst [.tup [.int 1]],.lst (z.map W.int),.lst ((z.drop 1).map W.int)] (by omega) ⟨rfl,rfl,1,_,_,rfl,rfl⟩
 refine GR (k:=r) (A1:=B) (kS t) (jo ?_) b (g8 (λ_=>GX _) _);unfold VG;have hl:(K-1)=((z.drop 1).map W.int).length:=by rw[ai,hd]
 rw[hl]at e;exact(qc (jq ((jd (qf (zx rfl) qZ)).trans u))).trans ((qc (jq (wN (qf (Y6 (qf qY qZ)) qZ)))).trans ((qc ((yP (Qn E rfl)).trans e)).trans (qX (jI (zx rfl)))))
end
section
variable {β:Type}{P:En->Prop}{j k:Nat}{t:W}
abbrev Hs (j:Nat)(t:W)(ρ:En):Prop:=ρ[j]? =some (some t)
def Ce (P:En->Prop)(m M:En->Hx->R α):Prop:=∀ρ A,P ρ->m ρ A=M ρ A
noncomputable def Ou (P:En->Prop):Fl->Prop
 |.nx ρ=>P ρ|.bk ρ=>P ρ|.ct ρ=>P ρ|.rt _=>True
def Yb (P:En->Prop)(r:R Fl):Prop:=∀f A,r=.ok f A->Ou P f
def Cs (P:En->Prop)(s S:Ex):Prop:=∀ρ A,P ρ->s ρ A=S ρ A/\Yb P (s ρ A)
def Tk (P:En->Prop)(tw:Tg):Prop:=∀w ρ a,P ρ->tw w ρ=some a->P a
def bd {r a:R α}{k K:α->Hx->R β}(h:r=a)(g:∀x A,k x A=K x A):r.bind k=a.bind K:=by
 have:k=K:=funext λx=>funext λA=>g x A
 rw[h,this]
def Ju {r:R α}{k:α->Hx->R Fl}(h:∀x A,r=.ok x A->Yb P (k x A)):Yb P (r.bind k):=by
 cases r with
 |ok x A=>exact h x A rfl|exc x A=>exactλf A1 e=>by cases e|bad=>exactλf A1 e=>by cases e
def ku {l:Fl}(h:Ou P l):Yb P (.ok l A):=λf B e=>by cases e;exact h
def kM:Yb P .bad:=λf B e=>by cases e
def zN {m:En->Hx->R α}:Ce P m m:=λ_ _ _=>rfl
def Zj {m M:En->Hx->R α}{k:α->Hx->R β}(h:Ce P m M):Ce P (λρ A=>(m ρ A).bind k) (λρ A=>(M ρ A).bind k):=λρ A p=>bd (h ρ A p) λ_ _=>rfl
def Kh {a c b B:Ev}(H:Ce P a c)(h:Ce P b B):Ce P (zh g a b) (zh g c B):=λρ A p=>bd (H ρ A p) λ_ A1=>bd (h ρ A1 p) λ_ _=>rfl
def CS {a c b B:Ev}(H:Ce P a c)(h:Ce P b B):Ce P (jS a b) (jS c B):=λρ A p=>bd (H ρ A p) λx A1=>by
 split
 ·exact h ρ A1 p
 ·rfl
 ·rfl
def ZH {a c:Ev}{r b:Ea}(H:Ce P a c)(h:Ce P r b):Ce P (zi a r) (zi c b):=λρ A p=>bd (H ρ A p) λ_ A1=>bd (h ρ A1 p) λ_ _=>rfl
def D8 {a c b B:Ev}(H:Ce P a c)(h:Ce P b B):Ce P (kC a b) (kC c B):=λρ A p=>bd (H ρ A p) λ_ A1=>bd (h ρ A1 p) λ_ _=>rfl
def Rn {f:Fn}{a b:Ea}(h:Ce P a b):Ce P (zy f a) (zy f b):=λρ A p=>bd (h ρ A p) λ_ _=>rfl
def jf {f g:Fn}{r a:Ea}(hf:∀us A,f (t::us) A=g (t::us) A)(h:Ce (Hs j t) r a):Ce (Hs j t) (zy f (zi (zX j) r)) (zy g (zi (zX j) a)):=λρ A p=>by
 unfold zy zi;rw[zx p,zK,zK,h ρ A p];cases a ρ A with
 |ok us B=>exact hf us B|exc x B=>rfl|bad=>rfl
def yr {M:Ev}(h:Ce P m M):Cs P (qi m) (qi M):=λρ A p=>⟨bd (h ρ A p) λ_ _=>rfl,Ju λ_ _ _=>ku trivial⟩
def Zh {M:Ev}(h:Ce P m M):Cs P (ju m) (ju M):=λρ A p=>⟨bd (h ρ A p) λ_ _=>rfl,Ju λ_ _ _=>ku p⟩
def qH:Cs P zu zu:=λρ A p=>⟨rfl,ku p⟩
def Xp:Cs P Zi Zi:=λρ A p=>⟨rfl,kM⟩
def JI {w:Option W}(h:i≠j)(p:Hs j t ρ):Hs j t (ρ.set i w):=by
 show(ρ.set i w)[j]? =_;rw[ay h];exact p
def jJ {M:Ev}(H:i≠j)(h:Ce (Hs j t) m M):Cs (Hs j t) (zR i m) (zR i M):=λρ A p=>⟨bd (h ρ A p) λ_ _=>rfl,Ju λ_ _ _=>ku (JI H p)⟩
def CL (h:i≠j):Cs (Hs j t) (QH i m) (QH i m):=λρ A p=>⟨rfl,by
 unfold QH
 split
 ·refine Ju λy A1 _=>?_
  split
  ·exact ku (P:=Hs j t) (JI h p)
  ·exact kM
 ·exact kM⟩
def zV {a d b c:Ex}(g:Cs P a d)(H:Cs P b c):Cs P (zm a b) (zm d c):=λρ A p=>by
 obtain⟨e,o⟩:=g ρ A p;unfold zm;rw[<- e];cases h:a ρ A with
 |ok f A1=>
  have q:=o f A1 h;cases f with
  |nx ρ1=>exact H ρ1 A1 q|rt w=>exact⟨rfl,ku trivial⟩|bk ρ1=>exact⟨rfl,ku q⟩|ct ρ1=>exact⟨rfl,ku q⟩
 |exc x B=>exact⟨rfl,λf A1 e=>by cases e⟩|bad=>exact⟨rfl,kM⟩
def wg {c C:Ev}{a f b d:Ex}(h:Ce P c C)(g:Cs P a f)(H:Cs P b d):Cs P (qW c a b) (qW C f d):=λρ A p=>by
 unfold qW;rw[<- h ρ A p];cases c ρ A with
 |ok x A1=>
  rw[zK,zK]
  split
  ·exact g ρ A1 p
  ·exact H ρ A1 p
  ·exact⟨rfl,kM⟩
 |exc x B=>exact⟨rfl,λl A1 e=>by cases e⟩|bad=>exact⟨rfl,kM⟩
theorem Xy {J:ja}{s S:W->Ex}(h:∀w,Cs P (s w) (S w)):∀f i,Cs P (jF J s f i) (jF J S f i)
 |0,i=>λρ A p=>⟨rfl,by
  unfold jF
  split
  ·exact ku p
  ·exact kM⟩
 |f+1,i=>λρ A p=>by
  unfold jF
  split
  ·exact⟨rfl,ku p⟩
  ·rename_i w _
   obtain⟨e,o⟩:=h w ρ A p;rw[<- e];cases H:s w ρ A with
   |ok l A1=>
    have q:=o l A1 H;cases l with
    |nx ρ1=>exact Xy h f (i+1) ρ1 A1 q|rt w=>exact⟨rfl,ku trivial⟩|bk ρ1=>exact⟨rfl,ku q⟩|ct ρ1=>exact Xy h f (i+1) ρ1 A1 q
   |exc x B=>exact⟨rfl,λl A1 e=>by cases e⟩|bad=>exact⟨rfl,kM⟩
  ·exact⟨rfl,kM⟩
def wR {m:Ei}{b a:Ex}(hm:Ce P mi m)(h:Tk P tw)(H:Cs P b a):Cs P (qK mi tw b) (qK m tw a):=λρ A p=>by
 unfold qK;rw[<- hm ρ A p];cases mi ρ A with
 |ok J A1=>
  refine Xy (λw ρ A p=>?_) _ _ ρ A1 p;unfold Mi.turn
  split
  ·exact H _ A (h _ _ _ p (by assumption))
  ·exact⟨rfl,kM⟩
 |exc x B=>exact⟨rfl,λf A1 e=>by cases e⟩|bad=>exact⟨rfl,kM⟩
def gz (h:i≠j):Tk (Hs j t) (zI i):=λw ρ a p e=>by cases e;exact JI h p
def GW (H:i≠j)(h:k≠j):Tk (Hs j t) (qN i k):=λw ρ a p e=>by
 unfold qN at e
 split at e
 ·cases e;exact JI h (JI H p)
 ·cases e
def DY {M:Ev}(H:Tk P tw)(h:Ce P m M):Cs P (J5 m tw) (J5 M tw):=λρ A p=>by
 unfold J5;rw[<- h ρ A p];refine⟨rfl,Ju λw A1 _=>?_⟩
 split
 ·exact ku (H _ _ _ p (by assumption))
 ·exact kM
theorem Xz {J:ja}{ifs m:Ev}(H:Tk P tw)(h:Ce P me m):∀f i ρ acc A,P ρ->qV J tw ifs (zQ me) f i ρ acc A=qV J tw ifs (zQ m) f i ρ acc A
 |0,i,ρ,acc,A,p=>rfl|f+1,i,ρ,acc,A,p=>by
  unfold qV
  split
  ·rfl
  ·split
   ·rename_i ρ1 e
    have q:=H _ _ _ p e;refine bd rfl λc A1=>?_
    split
    ·unfold zQ
     rw[h ρ1 A1 q];cases m ρ1 A1 with
     |ok y A2=>
      show R.bind (if _ then _ else _) _=R.bind (if _ then _ else _) _
      split
      ·exact Xz H h f (i+1) ρ1 _ A2 q
      ·rfl
     |exc x B=>rfl|bad=>rfl
    ·exact Xz H h f (i+1) ρ1 acc A1 q
    ·rfl
   ·rfl
  ·rfl
def Dp {nl:Nat}{ifs m:Ev}(a:∀ρ,Hs j t ρ->Hs k t (Zd nl cap ρ))(H:Tk (Hs k t) tw)(h:Ce (Hs k t) me m):Ce (Hs j t) (zT nl cap mi tw ifs (zQ me)) (zT nl cap mi tw ifs (zQ m)):=λρ A p=>
 bd rfl λJ A1=>by rw[Xz H h _ _ _ _ _ (a ρ p)]
def kP {m M:Ex}{us:List W}(h:Cs (Hs j t) m M)(p:Hs j t (us.map some++List.replicate (n-us.length) none)):zU n m us A=zU n M us A:=by
 unfold zU;rw[(h _ A p).1]
noncomputable def QE:W ⊕ List W->Hx->R W
 |.inl w,A=>.ok w A|.inr ws,A=>.ok (.ref A.length) (A++[.lst ws])
def ov (g:List W->Option (W ⊕ List W))(f:Fn):Fn:=λus A=>match g us.tail with
 |some r=>QE r A|none=>f us A
def Az {g:List W->Option (W ⊕ List W)}{f:Fn}(h:∀us r A,g us=some r->f (t::us) A=QE r A)(us:List W)(A:Hx):f (t::us) A=ov g f (t::us) A:=by
 unfold ov;show _=match g us with|some r=>QE r A|none=>f (t::us) A
 cases e:g us with
 |some r=>exact h us r A e|none=>rfl
end
noncomputable def bT:Nat->List (bt)
 |0=>[[0,1,1,1,1],[1,0,1,1,1],[1,1,0,1,1],[1,1,1,0,1],[1,1,1,1,0]]|1=>[[0,1,2,3,2,1],[1,0,1,2,3,2],[2,1,0,1,2,3],[3,2,1,0,1,2],[2,3,2,1,0,1],[1,2,3,2,1,0]]|2=>[[0,1,2,1],[1,0,1,2],[2,1,0,1],[1,2,1,0]]|3=>[[0,1,1,2,2,2],[1,0,1,2,2,2],[1,1,0,2,2,2],[2,2,2,0,1,1],[2,2,2,1,0,1],[2,2,2,1,1,0]]|4=>[[0,1,1,2,1,2,2,3],[1,0,2,1,2,1,3,2],[1,2,0,1,2,3,1,2],[2,1,1,0,3,2,2,1],[1,2,2,3,0,1,1,2],[2,1,3,2,1,0,2,1],[2,3,1,2,1,2,0,1],[3,2,2,1,2,1,1,0]]|5=>[[0,1,2,3],[1,0,3,2],[2,3,0,1],[3,2,1,0]]|6=>[[0,1,1,1,1,2],[1,0,1,1,2,1],[1,1,0,2,1,1],[1,1,2,0,1,1],[1,2,1,1,0,1],[2,1,1,1,1,0]]|7=>[[0,1,1,2,3,3],[1,0,1,3,2,3],[1,1,0,3,3,2],[2,3,3,0,1,1],[3,2,3,1,0,1],[3,3,2,1,1,0]]|_=>[[0,1,2,1,3,3,3,3],[1,0,1,2,3,3,3,3],[2,1,0,1,3,3,3,3],[1,2,1,0,3,3,3,3],[3,3,3,3,0,1,2,1],[3,3,3,3,1,0,1,2],[3,3,3,3,2,1,0,1],[3,3,3,3,1,2,1,0]]
structure qD where
 n:Nat
 k:Nat
 z:bt
 s:List (br)
 w:br
 o:Option (bA)
 f:bt
 u:List (List (Int×Int))
 t:List (Int×Int)
noncomputable def Cz:List qD:=[⟨5,2,[1,4],[[[1,0],[0,4]],[[0,1],[1,3]]],[[1,4],[1,-1]],some [0,1],[1,4],[[(1,1),(1,1)],[(4,1),(-1,1)]],[(1,1),(0,1),(0,1),(1,1),(0,1),(1,1),(4,1),(3,1)]⟩,
 ⟨6,4,[1,2,2,1],[[[1,0,0,0],[0,2,0,0],[0,0,2,0],[0,0,0,1]],[[0,1,0,0],[1,0,1,0],[0,1,0,1],[0,0,1,0]],[[0,0,1,0],[0,1,0,1],[1,0,1,0],[0,1,0,0]],[[0,0,0,1],[0,0,2,0],[0,2,0,0],[1,0,0,0]]],[[1,2,2,1],[1,1,-1,-1],[1,-1,-1,1],[1,-2,2,-1]],some [0,1,2,3],[1,2,2,1],[[(1,1),(1,1),(1,1),(1,1)],[(2,1),(1,1),(-1,1),(-2,1)],[(2,1),(-1,1),(-1,1),(2,1)],[(1,1),(-1,1),(1,1),(-1,1)]],[(1,1),(0,1),(0,1),(0,1),(0,1),(1,1),(0,1),(0,1),(0,1),(0,1),(1,1),(0,1),(0,1),(0,1),(0,1),(1,1),(0,1),(1,1),(0,1),(0,1),(2,1),(0,1),(1,1),(0,1),(0,1),(1,1),(0,1),(2,1),(0,1),(0,1),(1,1),(0,1),(0,1),(0,1),(1,1),(0,1),(0,1),(1,1),(0,1),(2,1),(2,1),(0,1),(1,1),(0,1),(0,1),(1,1),(0,1),(0,1),(0,1),(0,1),(0,1),(1,1),(0,1),(0,1),(1,1),(0,1),(0,1),(1,1),(0,1),(0,1),(1,1),(0,1),(0,1),(0,1)]⟩,
 ⟨6,4,[1,2,1,2],[[[1,0,0,0],[0,2,0,0],[0,0,1,0],[0,0,0,2]],[[0,1,0,0],[1,0,0,1],[0,0,0,1],[0,1,1,0]],[[0,0,1,0],[0,0,0,2],[1,0,0,0],[0,2,0,0]],[[0,0,0,1],[0,1,1,0],[0,1,0,0],[1,0,0,1]]],[[1,2,1,2],[1,1,-1,-1],[1,-1,1,-1],[1,-2,-1,2]],some [0,1,3,2],[1,2,2,1],[[(1,1),(1,1),(1,1),(1,1)],[(2,1),(1,1),(-2,1),(-1,1)],[(2,1),(-1,1),(2,1),(-1,1)],[(1,1),(-1,1),(-1,1),(1,1)]],[(1,1),(0,1),(0,1),(0,1),(0,1),(1,1),(0,1),(0,1),(0,1),(0,1),(1,1),(0,1),(0,1),(0,1),(0,1),(1,1),(0,1),(1,1),(0,1),(0,1),(2,1),(0,1),(1,1),(0,1),(0,1),(1,1),(0,1),(2,1),(0,1),(0,1),(1,1),(0,1),(0,1),(0,1),(1,1),(0,1),(0,1),(1,1),(0,1),(2,1),(2,1),(0,1),(1,1),(0,1),(0,1),(1,1),(0,1),(0,1),(0,1),(0,1),(0,1),(1,1),(0,1),(0,1),(1,1),(0,1),(0,1),(1,1),(0,1),(0,1),(1,1),(0,1),(0,1),(0,1)]⟩,
 ⟨6,4,[1,2,2,1],[[[1,0,0,0],[0,2,0,0],[0,0,2,0],[0,0,0,1]],[[0,1,0,0],[1,1,0,0],[0,0,1,1],[0,0,1,0]],[[0,0,1,0],[0,0,1,1],[1,1,0,0],[0,1,0,0]],[[0,0,0,1],[0,0,2,0],[0,2,0,0],[1,0,0,0]]],[[1,2,2,1],[1,2,-2,-1],[1,-1,1,-1],[1,-1,-1,1]],some [0,3,2,1],[1,1,2,2],[[(1,1),(1,1),(1,1),(1,1)],[(1,1),(1,1),(-1,1),(-1,1)],[(2,1),(-1,1),(1,1),(-2,1)],[(2,1),(-1,1),(-1,1),(2,1)]],[(1,1),(0,1),(0,1),(0,1),(0,1),(1,1),(0,1),(0,1),(0,1),(0,1),(1,1),(0,1),(0,1),(0,1),(0,1),(1,1),(0,1),(1,1),(0,1),(0,1),(1,1),(0,1),(0,1),(0,1),(0,1),(0,1),(0,1),(1,1),(0,1),(0,1),(1,1),(0,1),(0,1),(0,1),(1,1),(0,1),(0,1),(0,1),(0,1),(1,1),(2,1),(0,1),(0,1),(1,1),(0,1),(2,1),(1,1),(0,1),(0,1),(0,1),(0,1),(1,1),(0,1),(0,1),(1,1),(0,1),(0,1),(2,1),(1,1),(0,1),(2,1),(0,1),(0,1),(1,1)]⟩,
 ⟨6,4,[1,1,2,2],[[[1,0,0,0],[0,1,0,0],[0,0,2,0],[0,0,0,2]],[[0,1,0,0],[1,0,0,0],[0,0,0,2],[0,0,2,0]],[[0,0,1,0],[0,0,0,1],[1,0,0,1],[0,1,1,0]],[[0,0,0,1],[0,0,1,0],[0,1,1,0],[1,0,0,1]]],[[1,1,2,2],[1,1,-1,-1],[1,-1,1,-1],[1,-1,-2,2]],some [0,3,2,1],[1,2,2,1],[[(1,1),(1,1),(1,1),(1,1)],[(2,1),(2,1),(-1,1),(-1,1)],[(2,1),(-2,1),(1,1),(-1,1)],[(1,1),(-1,1),(-1,1),(1,1)]],[(1,1),(0,1),(0,1),(0,1),(0,1),(1,1),(0,1),(0,1),(0,1),(0,1),(1,1),(0,1),(0,1),(0,1),(0,1),(1,1),(0,1),(1,1),(0,1),(0,1),(2,1),(1,1),(0,1),(0,1),(0,1),(0,1),(1,1),(2,1),(0,1),(0,1),(1,1),(0,1),(0,1),(0,1),(1,1),(0,1),(0,1),(0,1),(1,1),(2,1),(2,1),(1,1),(0,1),(0,1),(0,1),(1,1),(0,1),(0,1),(0,1),(0,1),(0,1),(1,1),(0,1),(0,1),(1,1),(0,1),(0,1),(1,1),(0,1),(0,1),(1,1),(0,1),(0,1),(0,1)]⟩,
 ⟨6,4,[1,2,1,2],[[[1,0,0,0],[0,2,0,0],[0,0,1,0],[0,0,0,2]],[[0,1,0,0],[1,1,0,0],[0,0,0,1],[0,0,1,1]],[[0,0,1,0],[0,0,0,2],[1,0,0,0],[0,2,0,0]],[[0,0,0,1],[0,0,1,1],[0,1,0,0],[1,1,0,0]]],[[1,2,1,2],[1,2,-1,-2],[1,-1,1,-1],[1,-1,-1,1]],some [0,2,1,3],[1,1,2,2],[[(1,1),(1,1),(1,1),(1,1)],[(1,1),(1,1),(-1,1),(-1,1)],[(2,1),(-1,1),(2,1),(-1,1)],[(2,1),(-1,1),(-2,1),(1,1)]],[(1,1),(0,1),(0,1),(0,1),(0,1),(1,1),(0,1),(0,1),(0,1),(0,1),(1,1),(0,1),(0,1),(0,1),(0,1),(1,1),(0,1),(1,1),(0,1),(0,1),(1,1),(0,1),(0,1),(0,1),(0,1),(0,1),(0,1),(1,1),(0,1),(0,1),(1,1),(0,1),(0,1),(0,1),(1,1),(0,1),(0,1),(0,1),(0,1),(1,1),(2,1),(0,1),(1,1),(0,1),(0,1),(2,1),(0,1),(1,1),(0,1),(0,1),(0,1),(1,1),(0,1),(0,1),(1,1),(0,1),(0,1),(2,1),(0,1),(1,1),(2,1),(0,1),(1,1),(0,1)]⟩,
 ⟨6,4,[1,1,2,2],[[[1,0,0,0],[0,1,0,0],[0,0,2,0],[0,0,0,2]],[[0,1,0,0],[1,0,0,0],[0,0,0,2],[0,0,2,0]],[[0,0,1,0],[0,0,0,1],[1,0,1,0],[0,1,0,1]],[[0,0,0,1],[0,0,1,0],[0,1,0,1],[1,0,1,0]]],[[1,1,2,2],[1,1,-1,-1],[1,-1,2,-2],[1,-1,-1,1]],some [0,2,1,3],[1,2,1,2],[[(1,1),(1,1),(1,1),(1,1)],[(2,1),(2,1),(-1,1),(-1,1)],[(1,1),(-1,1),(1,1),(-1,1)],[(2,1),(-2,1),(-1,1),(1,1)]],[(1,1),(0,1),(0,1),(0,1),(0,1),(1,1),(0,1),(0,1),(0,1),(0,1),(1,1),(0,1),(0,1),(0,1),(0,1),(1,1),(0,1),(1,1),(0,1),(0,1),(2,1),(1,1),(0,1),(0,1),(0,1),(0,1),(0,1),(1,1),(0,1),(0,1),(2,1),(1,1),(0,1),(0,1),(1,1),(0,1),(0,1),(0,1),(0,1),(1,1),(1,1),(0,1),(0,1),(0,1),(0,1),(1,1),(0,1),(0,1),(0,1),(0,1),(0,1),(1,1),(0,1),(0,1),(2,1),(1,1),(0,1),(1,1),(0,1),(0,1),(2,1),(1,1),(0,1),(0,1)]⟩,
 ⟨4,3,[1,2,1],[[[1,0,0],[0,2,0],[0,0,1]],[[0,1,0],[1,0,1],[0,1,0]],[[0,0,1],[0,2,0],[1,0,0]]],[[1,2,1],[1,0,-1],[1,-2,1]],some [0,1,2],[1,2,1],[[(1,1),(1,1),(1,1)],[(2,1),(0,1),(-2,1)],[(1,1),(-1,1),(1,1)]],[(1,1),(0,1),(0,1),(0,1),(1,1),(0,1),(0,1),(0,1),(1,1),(0,1),(1,1),(0,1),(2,1),(0,1),(2,1),(0,1),(1,1),(0,1),(0,1),(0,1),(1,1),(0,1),(1,1),(0,1),(1,1),(0,1),(0,1)]⟩,
 ⟨4,3,[1,1,2],[[[1,0,0],[0,1,0],[0,0,2]],[[0,1,0],[1,0,0],[0,0,2]],[[0,0,1],[0,0,1],[1,1,0]]],[[1,1,2],[1,1,-2],[1,-1,0]],some [0,1,2],[1,1,2],[[(1,1),(1,1),(1,1)],[(1,1),(1,1),(-1,1)],[(2,1),(-2,1),(0,1)]],[(1,1),(0,1),(0,1),(0,1),(1,1),(0,1),(0,1),(0,1),(1,1),(0,1),(1,1),(0,1),(1,1),(0,1),(0,1),(0,1),(0,1),(1,1),(0,1),(0,1),(1,1),(0,1),(0,1),(1,1),(2,1),(2,1),(0,1)]⟩,
 ⟨6,3,[1,2,3],[[[1,0,0],[0,2,0],[0,0,3]],[[0,1,0],[1,1,0],[0,0,3]],[[0,0,1],[0,0,2],[1,2,0]]],[[1,2,3],[1,2,-3],[1,-1,0]],none,[1,1,4],[[(1,1),(1,1),(1,1)],[(1,1),(1,1),(-1,1)],[(4,1),(-2,1),(0,1)]],[(1,1),(0,1),(0,1),(0,1),(1,1),(0,1),(0,1),(0,1),(1,1),(0,1),(1,1),(0,1),(1,1),(0,1),(0,1),(0,1),(0,1),(1,1),(0,1),(0,1),(1,1),(0,1),(0,1),(1,1),(4,1),(4,1),(2,1)]⟩,
 ⟨6,3,[1,3,2],[[[1,0,0],[0,3,0],[0,0,2]],[[0,1,0],[1,0,2],[0,2,0]],[[0,0,1],[0,3,0],[1,0,1]]],[[1,3,2],[1,0,-1],[1,-3,2]],none,[1,4,1],[[(1,1),(1,1),(1,1)],[(4,1),(0,1),(-2,1)],[(1,1),(-1,1),(1,1)]],[(1,1),(0,1),(0,1),(0,1),(1,1),(0,1),(0,1),(0,1),(1,1),(0,1),(1,1),(0,1),(4,1),(2,1),(4,1),(0,1),(1,1),(0,1),(0,1),(0,1),(1,1),(0,1),(1,1),(0,1),(1,1),(0,1),(0,1)]⟩,
 ⟨8,4,[1,3,3,1],[[[1,0,0,0],[0,3,0,0],[0,0,3,0],[0,0,0,1]],[[0,1,0,0],[1,0,2,0],[0,2,0,1],[0,0,1,0]],[[0,0,1,0],[0,2,0,1],[1,0,2,0],[0,1,0,0]],[[0,0,0,1],[0,0,3,0],[0,3,0,0],[1,0,0,0]]],[[1,3,3,1],[1,1,-1,-1],[1,-1,-1,1],[1,-3,3,-1]],some [0,1,2,3],[1,3,3,1],[[(1,1),(1,1),(1,1),(1,1)],[(3,1),(1,1),(-1,1),(-3,1)],[(3,1),(-1,1),(-1,1),(3,1)],[(1,1),(-1,1),(1,1),(-1,1)]],[(1,1),(0,1),(0,1),(0,1),(0,1),(1,1),(0,1),(0,1),(0,1),(0,1),(1,1),(0,1),(0,1),(0,1),(0,1),(1,1),(0,1),(1,1),(0,1),(0,1),(3,1),(0,1),(2,1),(0,1),(0,1),(2,1),(0,1),(3,1),(0,1),(0,1),(1,1),(0,1),(0,1),(0,1),(1,1),(0,1),(0,1),(2,1),(0,1),(3,1),(3,1),(0,1),(2,1),(0,1),(0,1),(1,1),(0,1),(0,1),(0,1),(0,1),(0,1),(1,1),(0,1),(0,1),(1,1),(0,1),(0,1),(1,1),(0,1),(0,1),(1,1),(0,1),(0,1),(0,1)]⟩,
 ⟨8,4,[1,3,1,3],[[[1,0,0,0],[0,3,0,0],[0,0,1,0],[0,0,0,3]],[[0,1,0,0],[1,0,0,2],[0,0,0,1],[0,2,1,0]],[[0,0,1,0],[0,0,0,3],[1,0,0,0],[0,3,0,0]],[[0,0,0,1],[0,2,1,0],[0,1,0,0],[1,0,0,2]]],[[1,3,1,3],[1,1,-1,-1],[1,-1,1,-1],[1,-3,-1,3]],some [0,1,3,2],[1,3,3,1],[[(1,1),(1,1),(1,1),(1,1)],[(3,1),(1,1),(-3,1),(-1,1)],[(3,1),(-1,1),(3,1),(-1,1)],[(1,1),(-1,1),(-1,1),(1,1)]],[(1,1),(0,1),(0,1),(0,1),(0,1),(1,1),(0,1),(0,1),(0,1),(0,1),(1,1),(0,1),(0,1),(0,1),(0,1),(1,1),(0,1),(1,1),(0,1),(0,1),(3,1),(0,1),(2,1),(0,1),(0,1),(2,1),(0,1),(3,1),(0,1),(0,1),(1,1),(0,1),(0,1),(0,1),(1,1),(0,1),(0,1),(2,1),(0,1),(3,1),(3,1),(0,1),(2,1),(0,1),(0,1),(1,1),(0,1),(0,1),(0,1),(0,1),(0,1),(1,1),(0,1),(0,1),(1,1),(0,1),(0,1),(1,1),(0,1),(0,1),(1,1),(0,1),(0,1),(0,1)]⟩,
 ⟨8,4,[1,3,3,1],[[[1,0,0,0],[0,3,0,0],[0,0,3,0],[0,0,0,1]],[[0,1,0,0],[1,2,0,0],[0,0,2,1],[0,0,1,0]],[[0,0,1,0],[0,0,2,1],[1,2,0,0],[0,1,0,0]],[[0,0,0,1],[0,0,3,0],[0,3,0,0],[1,0,0,0]]],[[1,3,3,1],[1,3,-3,-1],[1,-1,1,-1],[1,-1,-1,1]],some [0,3,2,1],[1,1,3,3],[[(1,1),(1,1),(1,1),(1,1)],[(1,1),(1,1),(-1,1),(-1,1)],[(3,1),(-1,1),(1,1),(-3,1)],[(3,1),(-1,1),(-1,1),(3,1)]],[(1,1),(0,1),(0,1),(0,1),(0,1),(1,1),(0,1),(0,1),(0,1),(0,1),(1,1),(0,1),(0,1),(0,1),(0,1),(1,1),(0,1),(1,1),(0,1),(0,1),(1,1),(0,1),(0,1),(0,1),(0,1),(0,1),(0,1),(1,1),(0,1),(0,1),(1,1),(0,1),(0,1),(0,1),(1,1),(0,1),(0,1),(0,1),(0,1),(1,1),(3,1),(0,1),(0,1),(2,1),(0,1),(3,1),(2,1),(0,1),(0,1),(0,1),(0,1),(1,1),(0,1),(0,1),(1,1),(0,1),(0,1),(3,1),(2,1),(0,1),(3,1),(0,1),(0,1),(2,1)]⟩,
 ⟨8,4,[1,1,3,3],[[[1,0,0,0],[0,1,0,0],[0,0,3,0],[0,0,0,3]],[[0,1,0,0],[1,0,0,0],[0,0,0,3],[0,0,3,0]],[[0,0,1,0],[0,0,0,1],[1,0,0,2],[0,1,2,0]],[[0,0,0,1],[0,0,1,0],[0,1,2,0],[1,0,0,2]]],[[1,1,3,3],[1,1,-1,-1],[1,-1,1,-1],[1,-1,-3,3]],some [0,3,2,1],[1,3,3,1],[[(1,1),(1,1),(1,1),(1,1)],[(3,1),(3,1),(-1,1),(-1,1)],[(3,1),(-3,1),(1,1),(-1,1)],[(1,1),(-1,1),(-1,1),(1,1)]],[(1,1),(0,1),(0,1),(0,1),(0,1),(1,1),(0,1),(0,1),(0,1),(0,1),(1,1),(0,1),(0,1),(0,1),(0,1),(1,1),(0,1),(1,1),(0,1),(0,1),(3,1),(2,1),(0,1),(0,1),(0,1),(0,1),(2,1),(3,1),(0,1),(0,1),(1,1),(0,1),(0,1),(0,1),(1,1),(0,1),(0,1),(0,1),(2,1),(3,1),(3,1),(2,1),(0,1),(0,1),(0,1),(1,1),(0,1),(0,1),(0,1),(0,1),(0,1),(1,1),(0,1),(0,1),(1,1),(0,1),(0,1),(1,1),(0,1),(0,1),(1,1),(0,1),(0,1),(0,1)]⟩,
 ⟨8,4,[1,3,1,3],[[[1,0,0,0],[0,3,0,0],[0,0,1,0],[0,0,0,3]],[[0,1,0,0],[1,2,0,0],[0,0,0,1],[0,0,1,2]],[[0,0,1,0],[0,0,0,3],[1,0,0,0],[0,3,0,0]],[[0,0,0,1],[0,0,1,2],[0,1,0,0],[1,2,0,0]]],[[1,3,1,3],[1,3,-1,-3],[1,-1,1,-1],[1,-1,-1,1]],some [0,2,1,3],[1,1,3,3],[[(1,1),(1,1),(1,1),(1,1)],[(1,1),(1,1),(-1,1),(-1,1)],[(3,1),(-1,1),(3,1),(-1,1)],[(3,1),(-1,1),(-3,1),(1,1)]],[(1,1),(0,1),(0,1),(0,1),(0,1),(1,1),(0,1),(0,1),(0,1),(0,1),(1,1),(0,1),(0,1),(0,1),(0,1),(1,1),(0,1),(1,1),(0,1),(0,1),(1,1),(0,1),(0,1),(0,1),(0,1),(0,1),(0,1),(1,1),(0,1),(0,1),(1,1),(0,1),(0,1),(0,1),(1,1),(0,1),(0,1),(0,1),(0,1),(1,1),(3,1),(0,1),(2,1),(0,1),(0,1),(3,1),(0,1),(2,1),(0,1),(0,1),(0,1),(1,1),(0,1),(0,1),(1,1),(0,1),(0,1),(3,1),(0,1),(2,1),(3,1),(0,1),(2,1),(0,1)]⟩,
 ⟨8,4,[1,1,3,3],[[[1,0,0,0],[0,1,0,0],[0,0,3,0],[0,0,0,3]],[[0,1,0,0],[1,0,0,0],[0,0,0,3],[0,0,3,0]],[[0,0,1,0],[0,0,0,1],[1,0,2,0],[0,1,0,2]],[[0,0,0,1],[0,0,1,0],[0,1,0,2],[1,0,2,0]]],[[1,1,3,3],[1,1,-1,-1],[1,-1,3,-3],[1,-1,-1,1]],some [0,2,1,3],[1,3,1,3],[[(1,1),(1,1),(1,1),(1,1)],[(3,1),(3,1),(-1,1),(-1,1)],[(1,1),(-1,1),(1,1),(-1,1)],[(3,1),(-3,1),(-1,1),(1,1)]],[(1,1),(0,1),(0,1),(0,1),(0,1),(1,1),(0,1),(0,1),(0,1),(0,1),(1,1),(0,1),(0,1),(0,1),(0,1),(1,1),(0,1),(1,1),(0,1),(0,1),(3,1),(2,1),(0,1),(0,1),(0,1),(0,1),(0,1),(1,1),(0,1),(0,1),(3,1),(2,1),(0,1),(0,1),(1,1),(0,1),(0,1),(0,1),(0,1),(1,1),(1,1),(0,1),(0,1),(0,1),(0,1),(1,1),(0,1),(0,1),(0,1),(0,1),(0,1),(1,1),(0,1),(0,1),(3,1),(2,1),(0,1),(1,1),(0,1),(0,1),(3,1),(2,1),(0,1),(0,1)]⟩,
 ⟨4,4,[1,1,1,1],[[[1,0,0,0],[0,1,0,0],[0,0,1,0],[0,0,0,1]],[[0,1,0,0],[1,0,0,0],[0,0,0,1],[0,0,1,0]],[[0,0,1,0],[0,0,0,1],[1,0,0,0],[0,1,0,0]],[[0,0,0,1],[0,0,1,0],[0,1,0,0],[1,0,0,0]]],[[1,1,1,1],[1,1,-1,-1],[1,-1,1,-1],[1,-1,-1,1]],some [0,1,2,3],[1,1,1,1],[[(1,1),(1,1),(1,1),(1,1)],[(1,1),(1,1),(-1,1),(-1,1)],[(1,1),(-1,1),(1,1),(-1,1)],[(1,1),(-1,1),(-1,1),(1,1)]],[(1,1),(0,1),(0,1),(0,1),(0,1),(1,1),(0,1),(0,1),(0,1),(0,1),(1,1),(0,1),(0,1),(0,1),(0,1),(1,1),(0,1),(1,1),(0,1),(0,1),(1,1),(0,1),(0,1),(0,1),(0,1),(0,1),(0,1),(1,1),(0,1),(0,1),(1,1),(0,1),(0,1),(0,1),(1,1),(0,1),(0,1),(0,1),(0,1),(1,1),(1,1),(0,1),(0,1),(0,1),(0,1),(1,1),(0,1),(0,1),(0,1),(0,1),(0,1),(1,1),(0,1),(0,1),(1,1),(0,1),(0,1),(1,1),(0,1),(0,1),(1,1),(0,1),(0,1),(0,1)]⟩,
 ⟨6,3,[1,4,1],[[[1,0,0],[0,4,0],[0,0,1]],[[0,1,0],[1,2,1],[0,1,0]],[[0,0,1],[0,4,0],[1,0,0]]],[[1,4,1],[1,0,-1],[1,-2,1]],none,[1,3,2],[[(1,1),(1,1),(1,1)],[(3,1),(0,1),(-3,1)],[(2,1),(-1,1),(2,1)]],[(1,1),(0,1),(0,1),(0,1),(1,1),(0,1),(0,1),(0,1),(1,1),(0,1),(1,1),(0,1),(3,1),(0,1),(3,1),(0,1),(2,1),(0,1),(0,1),(0,1),(1,1),(0,1),(2,1),(0,1),(2,1),(0,1),(1,1)]⟩,
 ⟨6,3,[1,1,4],[[[1,0,0],[0,1,0],[0,0,4]],[[0,1,0],[1,0,0],[0,0,4]],[[0,0,1],[0,0,1],[1,1,2]]],[[1,1,4],[1,1,-2],[1,-1,0]],none,[1,2,3],[[(1,1),(1,1),(1,1)],[(2,1),(2,1),(-1,1)],[(3,1),(-3,1),(0,1)]],[(1,1),(0,1),(0,1),(0,1),(1,1),(0,1),(0,1),(0,1),(1,1),(0,1),(1,1),(0,1),(2,1),(1,1),(0,1),(0,1),(0,1),(2,1),(0,1),(0,1),(1,1),(0,1),(0,1),(2,1),(3,1),(3,1),(0,1)]⟩,
 ⟨8,4,[1,2,1,4],[[[1,0,0,0],[0,2,0,0],[0,0,1,0],[0,0,0,4]],[[0,1,0,0],[1,0,1,0],[0,1,0,0],[0,0,0,4]],[[0,0,1,0],[0,2,0,0],[1,0,0,0],[0,0,0,4]],[[0,0,0,1],[0,0,0,2],[0,0,0,1],[1,2,1,0]]],[[1,2,1,4],[1,2,1,-4],[1,0,-1,0],[1,-2,1,0]],some [0,3,1,2],[1,1,4,2],[[(1,1),(1,1),(1,1),(1,1)],[(1,1),(1,1),(1,1),(-1,1)],[(4,1),(0,1),(-4,1),(0,1)],[(2,1),(-2,1),(2,1),(0,1)]],[(1,1),(0,1),(0,1),(0,1),(0,1),(1,1),(0,1),(0,1),(0,1),(0,1),(1,1),(0,1),(0,1),(0,1),(0,1),(1,1),(0,1),(1,1),(0,1),(0,1),(1,1),(0,1),(0,1),(0,1),(0,1),(0,1),(1,1),(0,1),(0,1),(0,1),(0,1),(1,1),(0,1),(0,1),(1,1),(0,1),(0,1),(0,1),(1,1),(0,1),(4,1),(4,1),(0,1),(4,1),(0,1),(0,1),(2,1),(0,1),(0,1),(0,1),(0,1),(1,1),(0,1),(0,1),(0,1),(1,1),(0,1),(0,1),(2,1),(0,1),(2,1),(2,1),(0,1),(0,1)]⟩,
 ⟨8,4,[1,2,4,1],[[[1,0,0,0],[0,2,0,0],[0,0,4,0],[0,0,0,1]],[[0,1,0,0],[1,0,0,1],[0,0,4,0],[0,1,0,0]],[[0,0,1,0],[0,0,2,0],[1,2,0,1],[0,0,1,0]],[[0,0,0,1],[0,2,0,0],[0,0,4,0],[1,0,0,0]]],[[1,2,4,1],[1,2,-4,1],[1,0,0,-1],[1,-2,0,1]],some [0,3,2,1],[1,1,4,2],[[(1,1),(1,1),(1,1),(1,1)],[(1,1),(1,1),(-1,1),(1,1)],[(4,1),(0,1),(0,1),(-4,1)],[(2,1),(-2,1),(0,1),(2,1)]],[(1,1),(0,1),(0,1),(0,1),(0,1),(1,1),(0,1),(0,1),(0,1),(0,1),(1,1),(0,1),(0,1),(0,1),(0,1),(1,1),(0,1),(1,1),(0,1),(0,1),(1,1),(0,1),(0,1),(0,1),(0,1),(0,1),(1,1),(0,1),(0,1),(0,1),(0,1),(1,1),(0,1),(0,1),(1,1),(0,1),(0,1),(0,1),(1,1),(0,1),(4,1),(4,1),(0,1),(4,1),(0,1),(0,1),(2,1),(0,1),(0,1),(0,1),(0,1),(1,1),(0,1),(0,1),(0,1),(1,1),(0,1),(0,1),(2,1),(0,1),(2,1),(2,1),(0,1),(0,1)]⟩,
 ⟨8,4,[1,1,2,4],[[[1,0,0,0],[0,1,0,0],[0,0,2,0],[0,0,0,4]],[[0,1,0,0],[1,0,0,0],[0,0,2,0],[0,0,0,4]],[[0,0,1,0],[0,0,1,0],[1,1,0,0],[0,0,0,4]],[[0,0,0,1],[0,0,0,1],[0,0,0,2],[1,1,2,0]]],[[1,1,2,4],[1,1,2,-4],[1,1,-2,0],[1,-1,0,0]],some [0,1,2,3],[1,1,2,4],[[(1,1),(1,1),(1,1),(1,1)],[(1,1),(1,1),(1,1),(-1,1)],[(2,1),(2,1),(-2,1),(0,1)],[(4,1),(-4,1),(0,1),(0,1)]],[(1,1),(0,1),(0,1),(0,1),(0,1),(1,1),(0,1),(0,1),(0,1),(0,1),(1,1),(0,1),(0,1),(0,1),(0,1),(1,1),(0,1),(1,1),(0,1),(0,1),(1,1),(0,1),(0,1),(0,1),(0,1),(0,1),(1,1),(0,1),(0,1),(0,1),(0,1),(1,1),(0,1),(0,1),(1,1),(0,1),(0,1),(0,1),(1,1),(0,1),(2,1),(2,1),(0,1),(0,1),(0,1),(0,1),(0,1),(2,1),(0,1),(0,1),(0,1),(1,1),(0,1),(0,1),(0,1),(1,1),(0,1),(0,1),(0,1),(2,1),(4,1),(4,1),(4,1),(0,1)]⟩,
 ⟨8,4,[1,4,2,1],[[[1,0,0,0],[0,4,0,0],[0,0,2,0],[0,0,0,1]],[[0,1,0,0],[1,0,2,1],[0,2,0,0],[0,1,0,0]],[[0,0,1,0],[0,4,0,0],[1,0,0,1],[0,0,1,0]],[[0,0,0,1],[0,4,0,0],[0,0,2,0],[1,0,0,0]]],[[1,4,2,1],[1,0,0,-1],[1,0,-2,1],[1,-4,2,1]],some [0,1,2,3],[1,4,2,1],[[(1,1),(1,1),(1,1),(1,1)],[(4,1),(0,1),(0,1),(-4,1)],[(2,1),(0,1),(-2,1),(2,1)],[(1,1),(-1,1),(1,1),(1,1)]],[(1,1),(0,1),(0,1),(0,1),(0,1),(1,1),(0,1),(0,1),(0,1),(0,1),(1,1),(0,1),(0,1),(0,1),(0,1),(1,1),(0,1),(1,1),(0,1),(0,1),(4,1),(0,1),(4,1),(4,1),(0,1),(2,1),(0,1),(0,1),(0,1),(1,1),(0,1),(0,1),(0,1),(0,1),(1,1),(0,1),(0,1),(2,1),(0,1),(0,1),(2,1),(0,1),(0,1),(2,1),(0,1),(0,1),(1,1),(0,1),(0,1),(0,1),(0,1),(1,1),(0,1),(1,1),(0,1),(0,1),(0,1),(0,1),(1,1),(0,1),(1,1),(0,1),(0,1),(0,1)]⟩,
 ⟨8,4,[1,1,4,2],[[[1,0,0,0],[0,1,0,0],[0,0,4,0],[0,0,0,2]],[[0,1,0,0],[1,0,0,0],[0,0,4,0],[0,0,0,2]],[[0,0,1,0],[0,0,1,0],[1,1,0,2],[0,0,2,0]],[[0,0,0,1],[0,0,0,1],[0,0,4,0],[1,1,0,0]]],[[1,1,4,2],[1,1,0,-2],[1,1,-4,2],[1,-1,0,0]],some [0,2,3,1],[1,2,1,4],[[(1,1),(1,1),(1,1),(1,1)],[(2,1),(2,1),(0,1),(-2,1)],[(1,1),(1,1),(-1,1),(1,1)],[(4,1),(-4,1),(0,1),(0,1)]],[(1,1),(0,1),(0,1),(0,1),(0,1),(1,1),(0,1),(0,1),(0,1),(0,1),(1,1),(0,1),(0,1),(0,1),(0,1),(1,1),(0,1),(1,1),(0,1),(0,1),(2,1),(0,1),(2,1),(0,1),(0,1),(1,1),(0,1),(0,1),(0,1),(0,1),(0,1),(2,1),(0,1),(0,1),(1,1),(0,1),(0,1),(1,1),(0,1),(0,1),(1,1),(0,1),(0,1),(0,1),(0,1),(0,1),(0,1),(1,1),(0,1),(0,1),(0,1),(1,1),(0,1),(0,1),(0,1),(2,1),(0,1),(0,1),(0,1),(1,1),(4,1),(4,1),(4,1),(0,1)]⟩,
 ⟨8,4,[1,4,1,2],[[[1,0,0,0],[0,4,0,0],[0,0,1,0],[0,0,0,2]],[[0,1,0,0],[1,0,1,2],[0,1,0,0],[0,2,0,0]],[[0,0,1,0],[0,4,0,0],[1,0,0,0],[0,0,0,2]],[[0,0,0,1],[0,4,0,0],[0,0,0,1],[1,0,1,0]]],[[1,4,1,2],[1,0,1,-2],[1,0,-1,0],[1,-4,1,2]],some [0,2,3,1],[1,2,4,1],[[(1,1),(1,1),(1,1),(1,1)],[(2,1),(0,1),(2,1),(-2,1)],[(4,1),(0,1),(-4,1),(0,1)],[(1,1),(-1,1),(1,1),(1,1)]],[(1,1),(0,1),(0,1),(0,1),(0,1),(1,1),(0,1),(0,1),(0,1),(0,1),(1,1),(0,1),(0,1),(0,1),(0,1),(1,1),(0,1),(1,1),(0,1),(0,1),(2,1),(0,1),(0,1),(2,1),(0,1),(0,1),(2,1),(0,1),(0,1),(1,1),(0,1),(0,1),(0,1),(0,1),(1,1),(0,1),(0,1),(0,1),(2,1),(0,1),(4,1),(4,1),(0,1),(4,1),(0,1),(0,1),(1,1),(0,1),(0,1),(0,1),(0,1),(1,1),(0,1),(1,1),(0,1),(0,1),(0,1),(0,1),(1,1),(0,1),(1,1),(0,1),(0,1),(0,1)]⟩]
noncomputable def Ix:List (Nat×List Nat×Nat):=[(0,[0],0),(1,[0,1,2],1),(1,[0,2,1],2),(1,[1,0,2],3),(1,[1,2,0],4),(1,[2,0,1],5),(1,[2,1,0],6),(2,[0,1],7),(2,[1,0],8),(3,[0,1],9),(3,[1,0],10),(4,[0,1,2],11),(4,[0,2,1],12),(4,[1,0,2],13),(4,[1,2,0],14),(4,[2,0,1],15),(4,[2,1,0],16),(5,[0,1,2],17),(5,[0,2,1],17),(5,[1,0,2],17),(5,[1,2,0],17),(5,[2,0,1],17),(5,[2,1,0],17),(6,[0,1],18),(6,[1,0],19),(7,[0,1,2],5),(7,[0,2,1],3),(7,[1,0,2],6),(7,[1,2,0],1),(7,[2,0,1],4),(7,[2,1,0],2),(8,[0,1,2],20),(8,[0,2,1],21),(8,[1,0,2],22),(8,[1,2,0],23),(8,[2,0,1],24),(8,[2,1,0],25)]
def Tp (i:Nat)(p:bA):br:=kz (bT i) p (List.range (bT i).length)
def X1 (i:Nat)(p:bA)(c:qD):Bool:=decide ((bT i).length=c.n)&&KO (Tp i p)&&GL (Tp i p)&&decide (qy (Tp i p)=(c.k:Int))&&decide (Z1 (Tp i p) c.k=c.z)&&decide (c.s.length=c.k)&&
 (List.range c.k).all λk=>let m:=PY (Tp i p) (k:Int);decide (m/c.n<c.n)&&decide (m%c.n<c.n)&&decide (at2 (Tp i p) (m/c.n) (m%c.n)=(k:Int))&&decide (jN (Tp i p) c.k (m/c.n) (m%c.n)=c.s.getD k [])
theorem Bk:(Ix.all λq=>match Cz[q.2.2]? with
  |some c=>X1 q.1 q.2.1 c|none=>false)=true:=by decide +kernel
noncomputable def KS (m:Nat):Nat->List (bA)
 |0=>[[]]|k+1=>(List.range m).flatMap λx=>(KS m k).map λl=>x::l
theorem SH {m:Nat}:∀(l:bA),(∀x∈l,x<m)->l∈KS m l.length
 |[],_=>bS.mpr rfl|x::l,h=>List.mem_flatMap.mpr ⟨x,bO.mpr (h x (aJ ..)),bR.mpr ⟨l,SH l λy H=>h y (aI _ H),rfl⟩⟩
def Pe:((List.range 9).all λi=>KO (bT i)&&(KS (qy (bT i)-1).toNat (qy (bT i)-1).toNat).all λl=>!decide l.Nodup || Ix.any λc=>c.1==i&&c.2.1==l)=true:=by decide +kernel
section
variable {u v:br}{p o:bA}{a b d e K:Nat}{c:qD}
def Z0 (ho:o.Perm (List.range n))(H:a<n):o.getD a 0<n:=by
 have h:o.length=n:=by rw[ho.length_eq,aE]
 rw[aa,ab (by omega)]
 exact bO.mp (ho.mem_iff.mp (aK _))
def Pz (ho:o.Perm (List.range n))(c:a<n):∃b,b<n/\o.getD b 0=a:=by
 have h:o.length=n:=by rw[ho.length_eq,aE]
 obtain⟨i,H,e⟩:=a6 (ho.mem_iff.mpr (bO.mpr c));exact⟨i,by omega,by rw[aa,ab H];exact e⟩
structure Pl (v u:br)(o:bA):Prop where
 hl:u.length=v.length
 ho:o.Perm (List.range v.length)
 at_:∀a b,a<v.length->b<v.length->at2 u a b=at2 v (o.getD a 0) (o.getD b 0)
def R5 (h:Pl v u o)(g:a<v.length)(f:b<v.length):(yS u a b).Perm (yS v (o.getD a 0) (o.getD b 0)):=by
 have H:o.length=v.length:=by rw[h.ho.length_eq,aE]
 unfold yS;rw[h.hl];have E:(List.range v.length).map (λc=>(at2 u a c,at2 u b c))=(List.range v.length).map λc=>(at2 v (o.getD a 0) (o.getD c 0),at2 v (o.getD b 0) (o.getD c 0)):=aW λc d=>by
  rw[h.at_ a c g (bO.mp d),h.at_ b c f (bO.mp d)]
 rw[E];have e:=gT o 0 λc=>(at2 v (o.getD a 0) c,at2 v (o.getD b 0) c);rw[H]at e;rw[<- e];exact h.ho.map _
def HB (H:qI u)(h:qI v)(f:a<u.length)(c:b<u.length)(hd:d<v.length)(he:e<v.length)(q:(yS u a b).Perm (yS v d e)):jN u K a b=jN v K d e:=by
 unfold jN yL;refine aW λi _=>aW λj _=>?_;rw[Jo H f c _ (ak _),Jo h hd he _ (ak _)]
 have:=q.count_eq ((i:Int),(j:Int))
 unfold yS at this;rw[this]
theorem Rt (k:Int):∀l:bt,(l.map λx=>(x,x)).count (k,k)=l.count k
 |[]=>rfl|x::l=>by
  rw[aS,count_cons,count_cons,Rt k l]
  by_cases h:x=k
  ·subst h;simp
  ·simp[h]
def Ra (h:qI t)(k:Int):(t.getD 0 []).count k=(yS t 0 0).count (k,k):=by
 have H:(t.getD 0 []).length=t.length:=h.sq _ (yo h.n1);have e:=gT (t.getD 0 []) 0 λx=>(x,x);rw[H]at e;rw[<- Rt k,e]
 rfl
def D4 (h:Pl v u o)(f:qI u)(d:qI v):qy u=qy v:=by
 apply Int.le_antisymm
 ·obtain⟨a,b,c,H,e⟩:=Y8 f.sq (Jz f)
  rw[h.hl]at c H;rw[h.at_ a b c H]at e
  have:=JJ d (Z0 h.ho c) (Z0 h.ho H)
  omega
 ·obtain⟨x,y,i,g,e⟩:=Y8 d.sq (Jz d)
  obtain⟨a,c,rfl⟩:=Pz h.ho i;obtain⟨b,H,rfl⟩:=Pz h.ho g;rw[<- h.at_ a b c H]at e
  have:=JJ f (by rw[h.hl];exact c) (by rw[h.hl];exact H)
  omega
structure In (c:qD)(u:br):Prop where
 tab:qI u
 len:u.length=c.n
 kd:qy u=(c.k:Int)
 sd:gO u c.k=[]
 sh:∀a b,a<u.length->b<u.length->jN u c.k a b=c.s.getD (at2 u a b).toNat []
 sz:Z1 u c.k=c.z
 sl:c.s.length=c.k
def in_of (T:i<9)(s:p.Perm (List.range (qy (bT i)-1).toNat))(ho:o.Perm (List.range (bT i).length)):∃c∈Cz,In c (kz (bT i) p o):=by
 have C:p.length=(qy (bT i)-1).toNat:=by rw[s.length_eq,aE]
 have P:=bU.mp Pe i (bO.mpr T);rw[ag,aR]at P;have hm:p∈KS (qy (bT i)-1).toNat (qy (bT i)-1).toNat:=by
  have:=SH (m:=(qy (bT i)-1).toNat) p λx N=>bO.mp (s.mem_iff.mp N)
  rwa[C]at this
 have D:=P.2 p hm;rw[bj,Bool.not_eq_true',decide_eq_false_iff_not]at D;obtain⟨q,S,e⟩:=List.any_eq_true.mp (D.resolve_left λz=>z ((s.nodup_iff).mpr List.nodup_range));rw[ag,aM,aM]at e;obtain⟨rfl,rfl⟩:=e;have H:=bU.mp Bk q S;cases j:Cz[q.2.2]? with
 |none=>rw[j]at H;cases H|some c=>
 rw[j]at H;have U:=mem_of_getElem? j;refine⟨c,U,?_⟩;have r:X1 q.1 q.2.1 c=true:=H;unfold X1 at r;rw[ag,ag,ag,ag,ag,ag,af,af,af,af,aR]at r;obtain⟨⟨⟨⟨⟨⟨I,b3⟩,b4⟩,E⟩,Z⟩,X⟩,Y⟩:=r;have hT:=GZ P.1;have v:=GZ b3;obtain⟨u,hl⟩:=Sb hT s ho;have g:(Tp q.1 q.2.1).length=(bT q.1).length:=(Sb hT s (List.Perm.refl _)).2;have h:Pl (Tp q.1 q.2.1) (kz (bT q.1) q.2.1 o) o:=⟨by rw[hl,g],by rw[g];exact ho,λa b d H=>by
  rw[g]at d H;have g1:=Z0 ho d;have g2:=Z0 ho H;unfold Tp;rw[Sj ho d H,Sj (List.Perm.refl _) g1 g2,aa (l:=List.range _),aX g1,aa (l:=List.range _),aX g2]
  rfl⟩
 have B:=L5 b4;have A:=Hd (f:=id) h.hl h.ho (λa b d H=>h.at_ a b d H) (λ_ _ _ _ _ _ _ _ z=>z) B;refine⟨u,hl.trans I,(D4 h u v).trans E,HZ u A,λa b d H=>?_,?_,X⟩
 ·rw[h.hl]at d H
  have t:=h.ho;have hn:(Tp q.1 q.2.1).length=c.n:=g.trans I;have g1:=Z0 t d;have g2:=Z0 t H;have K:=Xa v E g1 g2;have w:=Y _ (bO.mpr K.2);dsimp only at w;rw[ag,ag,ag,af,af,af,af]at w;obtain⟨⟨⟨M,L⟩,J⟩,Q⟩:=w;rw[HB u v (by rw[h.hl];exact d) (by rw[h.hl];exact H) g1 g2 (R5 h d H),h.at_ a b d H,<- Q]
  exact Sk v B g1 g2 (by rw[hn];exact M) (by rw[hn];exact L) (by rw[J];exact K.1.symm)
 ·rw[<- Z]
  unfold Z1;refine aW λk _=>?_;have n1:0<(Tp q.1 q.2.1).length:=v.n1;have y:=Z0 h.ho n1;rw[Ra u,Ra v,((R5 h n1 n1).trans (B _ _ _ _ y y n1 n1 (by rw[(v.dg _ _ y y).mpr rfl,(v.dg _ _ n1 n1).mpr rfl]))).count_eq]
end
def GY {j:Nat}{ma m:Ev}{A2:Hx}{x y:W}(h:ma ρ A=.ok x A1)(h':m ρ A1=.ok y A2):kQ i j ma m ρ A=.ok (.nx ((ρ.set i (some x)).set j (some y))) A2:=by
 unfold kQ;rw[h,zK,h',zK]
theorem PH {p q:Option W}:∀(f y x:Nat),y<f->wq (zh q9 zS qj) (zm (kQ 2 3 zS (zh jU zH zS)) zu) f [p,q,some (.int (x:Int)),some (.int (y:Int))] []=.ok (.nx [p,q,some (.int (Nat.gcd x y:Int)),some (.int 0)]) []
 |0,y,x,h=>absurd h (by omega)|f+1,y,x,h=>by
  unfold wq;rw[show zh q9 zS qj [p,q,some (.int (x:Int)),some (.int (y:Int))] []=.ok (.bl (!decide ((y:Int)=0))) [] from (qb (zx rfl) qY).trans (X7 _ _ _),zK]
  by_cases H:y=0
  ·subst H
   rw[Nat.gcd_zero_right]
   rfl
  ·rw[aG (by omega)]
   show R.bind (zm (kQ 2 3 zS (zh jU zH zS)) zu [p,q,some (.int (x:Int)),some (.int (y:Int))] []) _=_;rw[show zm (kQ 2 3 zS (zh jU zH zS)) zu [p,q,some (.int (x:Int)),some (.int (y:Int))] []=.ok (.nx [p,q,some (.int (y:Int)),some (.int ((x%y:Nat):Int))]) [] from
    (qc (GY (zx rfl) ((qb (zx rfl) (zx rfl)).trans (ZS (by omega))))).trans (by rw[Int.natCast_emod];exact yE),zK]
   have hm:=Nat.mod_lt x (show y > 0 by omega)
   have e:=PH (p:=p) (q:=q) f (x%y) y (by omega)
   rw[Nat.gcd_comm x y,Nat.gcd_rec y x,Nat.gcd_comm (x%y) y];exact e
def Wg:Fn:=λus A=>match us with
 |[.int a,.int b]=>if 0<b/\b<900 then .ok (.tup [.int (a/(Nat.gcd a.natAbs b.toNat:Int)),.int (b/(Nat.gcd a.natAbs b.toNat:Int))]) A else Qc us A|us=>Qc us A
def Oa:Qc=Wg:=funext λus=>funext λA=>by
 unfold Wg
 split
 ·rename_i a b
  split
  ·rename_i h
   obtain⟨b,rfl⟩:=a0 (show 0<=b by omega)
   have H:0<Nat.gcd a.natAbs b:=Nat.gcd_pos_of_pos_right _ (by omega)
   have hl:Nat.gcd a.natAbs b<=b:=Nat.gcd_le_right _ (by omega)
   rw[aH];refine ZO (A1:=[]) rfl rfl (jo ?_);unfold Uh;have e:jH J6 zp [some (.int a),some (.int (b:Int)),none,none] []=.ok (.int (a.natAbs:Int)) []:=by
    rw[RR (zx rfl)];show R.ok (W.int (if a<0 then -a else a)) []=_
    congr 2
    split<;>omega
   refine(qc (GY e (zx rfl))).trans ((qc (PH 1000 b a.natAbs (by omega))).trans (qX (jI (Y6 (qf ((qb (zx rfl) (zx rfl)).trans (Ka (by omega) (by omega))) (qf ((qb (zx rfl) (zx rfl)).trans (Ka (by omega) (by omega))) qZ))))))
  ·rfl
 ·rfl
def K5:Fn:=iso (zU 2 (U8 Wg))
def KY:Fn:=iso (zU 2 (U6 Wg))
def cJ:ZC=K5:=by unfold ZC Gm K5;rw[Oa]
def cK:Jd=KY:=by unfold Jd Ga KY;rw[Oa]
noncomputable abbrev As:=List (List W×(W ⊕ List W))
def oL (l:As)(f:Fn):Fn:=ov (λus=>(l.find? λp=>gG p.1 us).map (·.2)) f
def Ph {l:As}{f:Fn}{t:W}(h:∀p∈l,∀A,f (t::p.1) A=QE p.2 A)(us:List W)(A:Hx):f (t::us) A=oL l f (t::us) A:=Az (λus r A e=>by
 cases hf:l.find? (λp=>gG p.1 us) with
 |none=>rw[hf]at e;cases e|some p=>
  rw[hf]at e;cases e;have E:=List.find?_some hf;rw[<- Kf (a:=p.1) (b:=us) E];exact h p (List.mem_of_find?_eq_some hf) A) us A
def OB:R W->W ⊕ List W->Bool
 |.ok w _,.inl v=>w.nr&&w.beq v|.ok (.ref n) A,.inr ws=>(match A[n]? with
  |some (.lst xs)=>qG xs&&gG xs ws|_=>false)
 |_,_=>false
def kK {f:Fn}{us:List W}{r:W ⊕ List W}(H:qG us=true)(h:OB (f us []) r=true)(A:Hx):iso f us A=QE r A:=by
 unfold iso;rw[aj H];cases hf:f us [] with
 |ok w A1=>
  rw[hf]at h;cases r with
  |inl v=>
   have h':(w.nr&&w.beq v)=true:=h;rw[ag]at h';have e:=W.eq_of h'.2;subst e;cases w with
   |ref n=>cases h'.1|_=>
    dsimp only;rw[aj h'.1]
    rfl
  |inr ws=>
   cases w with
   |ref n=>
    have h':(match A1[n]? with|some (.lst xs)=>qG xs&&gG xs ws|_=>false)=true:=h
    dsimp only;cases e:A1[n]? with
    |none=>rw[e]at h';cases h'|some o=>
     rw[e]at h';cases o with
     |lst xs=>
      dsimp only at h' ⊢;rw[ag]at h';rw[aj h'.1,Kf h'.2]
      rfl
     |_=>cases h'
   |_=>cases h
 |exc x A1=>rw[hf]at h;cases h|bad=>rw[hf]at h;cases h
noncomputable def yN (n:Nat)(r:Nat->W):W:=.tup ((List.range n).map r)
def wC (l:As)(f:Fn)(t:W):Bool:=l.all λp=>qG p.1&&OB (f (t::p.1) []) p.2
section
variable {c:qD}{u:br}
def tab_of (h:In c u):zj u=yN c.n λi=>zC (u.getD i []):=by
 unfold zj yN;rw[gT u [] zC,h.len]
def gg {l:qD->As}{f:Fn}{R':qD->Fn}(lk:∀r,Cz.all (λc=>wC (l c) (R' c) (yN c.n r))=true)(b:c∈Cz)(H:In c u)(C:∀us A,f (zj u::us) A=R' c (zj u::us) A)(us:List W)(A:Hx):iso f (zj u::us) A=oL (l c) (iso f) (zj u::us) A:=Ph (λp a A=>by
 have h:=bU.mp (bU.mp (lk λi=>zC (u.getD i [])) c b) p a;rw[<- tab_of H,ag,<- C]at h;refine kK ?_ h.2 A;show((zj u).nr&&qG p.1)=true;rw[Za,h.1]
 rfl) us A
noncomputable abbrev l0:As:=[([],.inl .non)]
noncomputable abbrev lz (c:qD):As:=[([],.inr (c.z.map W.int))]
abbrev ls (c:qD):As:=[([],.inr (c.s.map zj))]
noncomputable abbrev lk (c:qD):As:=[([],.inl (.int (c.k:Int)))]
def JK {r:W ⊕ List W}{f:Fn}{t:W}(h:∀A,f [t] A=QE r A):∀us A,f (t::us) A=oL [([],r)] f (t::us) A:=Ph λp H A=>by
 rw[bS.mp H];exact h A
def Vi (h:In c u):∀us A,ki (zj u::us) A=oL (lz c) ki (zj u::us) A:=JK λA=>by rw[SX h.tab h.kd A,h.sz];rfl
def s_c (h:In c u):∀us A,gU (zj u::us) A=oL (ls c) gU (zj u::us) A:=JK λA=>by
 rw[Sa (S:=λk=>c.s.getD k []) h.tab h.kd h.sh A,gT c.s [] zj,h.sl]
 rfl
def OP (h:In c u):∀us A,kj (zj u::us) A=oL (lk c) kj (zj u::us) A:=JK λA=>by rw[JA h.tab A,h.kd];rfl
def Vl (h:In c u):∀us A,k7 (zj u::us) A=oL l0 k7 (zj u::us) A:=JK λA=>Cn h.tab h.kd h.sd A
abbrev lw (c:qD):As:=[([],.inr (c.w.map zC))]
end
def Dz:Nat->List qD
 |0=>Cz|k+1=>(Dz k).drop 3
def ap {k:Nat}{f:qD->Bool}(H:((Dz k).take 3).all f=true)(h:(Dz (k+1)).all f=true):(Dz k).all f=true:=by
 rw[<- a9 3 (Dz k),List.all_append,H,Bool.true_and];exact h
section
variable {c:qD}{u:br}
noncomputable def X6 (K:Nat)(S:List (br)):Bool:=S.length==K&&S.all λt=>t.length==K&&t.all λq=>q.length==K&&q.all λv=>decide (0<=v)&&decide (v<100)
def cL {K:Nat}{S:List (br)}(h:X6 K S=true):Wf K S:=by
 unfold X6 at h;rw[ag,aM,aR]at h;have b:∀t∈S,t.length=K/\∀q∈t,q.length=K/\∀v∈q,0<=v/\v<100:=λt H=>by
  have:=h.2 t H
  rw[ag,aM,aR]at this;refine⟨this.1,λq a=>?_⟩
  have:=this.2 q a
  rw[ag,aM,aR]at this;refine⟨this.1,λv c=>?_⟩
  have:=this.2 v c
  rwa[ag,af,af]at this
 refine⟨h.1,λt H=>(b t H).1,λt H q a=>((b t H).2 q a).1,λt H i j=>?_⟩;unfold at2
 by_cases hi:i<t.length
 ·by_cases d:j<(t.getD i []).length
  ·refine((b t H).2 _ (yo hi)).2 _ ?_
   rw[aa (l:=t.getD i []),ab d];exact aK _
  ·rw[aa (l:=t.getD i []),az (by omega)]
   decide
 ·rw[aa (l:=t),az (by omega)]
  show 0<=(0:Int)/\(0:Int)<100;omega
def Oy (c:qD):Bool:=X6 c.k c.s&&(decide (c.z.length=c.k)&&c.z.all (λv=>decide (1<=v))&&decide (c.z.sum<=8)&&decide (c.z.getD 0 0=1))&&decide (kG c.s c.z (c.k-1)=c.w)
def cM:Cz.all Oy=true:=by decide +kernel
def J9 (b:c∈Cz)(h:In c u):∀us A,yT (zj u::us) A=oL (lw c) yT (zj u::us) A:=JK λA=>by
 have H:=bU.mp cM c b;unfold Oy at H;rw[ag,ag,ag,ag,ag,af,aR,af,af,af]at H;obtain⟨⟨j,⟨⟨i,g⟩,f⟩,e⟩,B⟩:=H;have l:=Zc h.tab;have K:=Xf h.tab;have n8:=h.tab.n8;have kd:=h.kd;have d:Dt u c.k c.s c.z:=⟨h.tab,h.kd,h.sd,λA=>by rw[Sa (S:=λk=>c.s.getD k []) h.tab h.kd h.sh A,gT c.s [] zj,h.sl],λA=>by rw[SX h.tab h.kd A,h.sz],cL j,⟨i,λv a=>of_decide_eq_true (g v a),f,e⟩,by omega,by omega⟩
 rw[HU d A,B]
 rfl
noncomputable def pW (q:Int×Int):W:=.tup [.int q.1,.int q.2]
def X2 (c:qD):List (List W):=c.u.map λr=>r.map pW
abbrev K1 (c:qD):W:=.tup ((X2 c).map W.tup)
noncomputable def dr (k:Nat):List (Nat×Nat×Nat):=(List.range k).flatMap λa=>(List.range k).flatMap λb=>(List.range k).map λd=>(a,b,d)
def cN (c:qD):W:=match c.o with
 |none=>.non|some o=>wW o
noncomputable abbrev lt:As:=[([],.inl (.bl true))]
def lo (c:qD):As:=(c.w.zip c.f).map λq=>([zC q.1],.inl (.int q.2))
def lb (w:W)(c:qD):As:=c.w.map λv=>([zC v],.inl w)
def ln (c:qD):As:=((dr c.k).zip c.t).map λq=>([.int (q.1.1:Int),.int (q.1.2.1:Int),.int (q.1.2.2:Int)],.inl (pW q.2))
def OL (c:qD):Fn:=zU 1 (WV (oL l0 k7) (oL (lw c) yT))
def cO (r:Nat->W):Cz.all (λc=>wC (lw c) (OL c) (yN c.n r))=true:=by kernel_rfl
def A8 (H:c∈Cz)(h:In c u):∀us A,Ja (zj u::us) A=oL (lw c) Ja (zj u::us) A:=gg (R':=OL) cO H h λus A=>kP (j:=0) (t:=zj u) (by
 unfold WV;exact zV (Zh (jf (Vl h) zN)) (zV (yr (jf (J9 H h) zN)) qH)) rfl
def Ow (c:qD):Fn:=zU 1 (Wt (oL (lk c) kj) (oL l0 k7) (oL (lw c) yT))
def AX (r:Nat->W):Cz.all (λc=>wC lt (Ow c) (yN c.n r))=true:=by kernel_rfl
def AN (H:c∈Cz)(h:In c u):∀us A,Q3 (zj u::us) A=oL lt Q3 (zj u::us) A:=gg (l:=λ_=>lt) (R':=Ow) AX H h λus A=>kP (j:=0) (t:=zj u) (by
 unfold Wt;exact zV (Zh (jf (Vl h) zN)) (zV (yr (Kh (Zj (Zj (jf (J9 H h) zN))) (jf (OP h) zN))) qH)) rfl
def Om (c:qD):Fn:=zU 1 (WB (oL lt Q3))
def rw_l (r:Nat->W):Cz.all (λc=>wC l0 (Om c) (yN c.n r))=true:=by kernel_rfl
def rw_c (H:c∈Cz)(h:In c u):∀us A,gj (zj u::us) A=oL l0 gj (zj u::us) A:=gg (l:=λ_=>l0) (R':=Om) rw_l H h λus A=>kP (j:=0) (t:=zj u) (by
 unfold WB;exact zV (wg (Zj (jf (AN H h) zN)) (zV Xp qH) qH) qH) rfl
def Oh (c:qD):Fn:=zU 6 (WU (oL (lz c) ki))
def cP (r:Nat->W):Cz.all (λc=>wC (lo c) (Oh c) (yN c.n r))=true:=by kernel_rfl
def Ku (H:c∈Cz)(h:In c u):∀us A,gm (zj u::us) A=oL (lo c) gm (zj u::us) A:=gg (R':=Oh) cP H h λus A=>kP (j:=0) (t:=zj u) (by
 unfold WU;exact zV (jJ (by decide) zN) (zV (jJ (by decide) zN) (zV (wR (D8 (jf (Vi h) zN) zN) (GW (by decide) (by decide)) (zV (jJ (by decide) zN) (zV (jJ (by decide) zN) qH))) (zV (yr zN) qH)))) rfl
def Ox (c:qD):Fn:=zU 2 (Wm (oL (lk c) kj) Zb Qg (oL (ls c) gU))
abbrev w9 (r:Nat->W)(c:qD):Bool:=wC (lb (.bl true) c) (Ox c) (yN c.n r)
def cQ (r:Nat->W):((Dz 0).take 3).all (w9 r)=true:=by kernel_rfl
def cR (r:Nat->W):((Dz 1).take 3).all (w9 r)=true:=by kernel_rfl
def cS (r:Nat->W):((Dz 2).take 3).all (w9 r)=true:=by kernel_rfl
def cT (r:Nat->W):((Dz 3).take 3).all (w9 r)=true:=by kernel_rfl
def cU (r:Nat->W):((Dz 4).take 3).all (w9 r)=true:=by kernel_rfl
def cV (r:Nat->W):((Dz 5).take 3).all (w9 r)=true:=by kernel_rfl
def cW (r:Nat->W):((Dz 6).take 3).all (w9 r)=true:=by kernel_rfl
def cX (r:Nat->W):((Dz 7).take 3).all (w9 r)=true:=by kernel_rfl
def cY (r:Nat->W):((Dz 8).take 3).all (w9 r)=true:=by kernel_rfl
def cZ (r:Nat->W):Cz.all (w9 r)=true:=ap (k:=0) (cQ r) (ap (k:=1) (cR r) (ap (k:=2) (cS r) (ap (k:=3) (cT r) (ap (k:=4) (cU r) (ap (k:=5) (cV r) (ap (k:=6) (cW r) (ap (k:=7) (cX r) (ap (k:=8) (cY r) rfl))))))))
def c0 (H:c∈Cz)(h:In c u):∀us A,QX (zj u::us) A=oL (lb (.bl true) c) QX (zj u::us) A:=gg (R':=Ox) cZ H h λus A=>kP (j:=0) (t:=zj u) (by
 unfold Wm;exact zV (wg (Zj (Rn (ZH zN (ZH (jf (OP h) zN) zN)))) (zV (yr zN) qH) qH) (zV (yr (CS zN (Rn (ZH (jf (s_c h) zN) zN)))) qH)) rfl
def OI (c:qD):Fn:=zU 2 (Wo (oL (lb (.bl true) c) QX))
def c3 (r:Nat->W):Cz.all (λc=>wC (lb .non c) (OI c) (yN c.n r))=true:=by kernel_rfl
def c4 (H:c∈Cz)(h:In c u):∀us A,QZ (zj u::us) A=oL (lb .non c) QZ (zj u::us) A:=gg (R':=OI) c3 H h λus A=>kP (j:=0) (t:=zj u) (by
 unfold Wo;exact zV (wg (Zj (jf (c0 H h) zN)) (zV Xp qH) qH) qH) rfl
def OA (c:qD):Fn:=zU 2 (Gi (oL (lo c) gm) (oL l0 k7) (oL (lb .non c) QZ))
def AR (r:Nat->W):Cz.all (λc=>wC (lo c) (OA c) (yN c.n r))=true:=by kernel_rfl
def c5 (H:c∈Cz)(h:In c u):∀us A,Jj (zj u::us) A=oL (lo c) Jj (zj u::us) A:=gg (R':=OA) AR H h λus A=>kP (j:=0) (t:=zj u) (by
 unfold Gi;exact zV (Zh (jf (Vl h) zN)) (zV (Zh (jf (c4 H h) zN)) (zV (yr (jf (Ku H h) zN)) qH))) rfl
def Vh (c:qD):Fn:=zU 6 (Xo (oL (lo c) gm) (oL (lz c) ki) Jq)
def PX (H:c∈Cz)(h:In c u)(us:List W)(A:Hx):Kd (zj u::us) A=Vh c (zj u::us) A:=kP (j:=0) (t:=zj u) (by
 unfold Xo;exact zV (jJ (by decide) (jf (Vi h) zN)) (zV (jJ (by decide) zN) (zV (wR zN (gz (by decide)) (zV (jJ (by decide) (jf (Ku H h) zN)) (zV (Zh zN) qH))) (zV (yr zN) qH)))) rfl
abbrev lu (c:qD):As:=[([],.inl (K1 c))]
def bV (c:qD):Fn:=zU 1 (Wv (oL l0 gj) (oL (lw c) yT) (Vh c))
def tw_l (r:Nat->W):Cz.all (λc=>wC (lu c) (bV c) (yN c.n r))=true:=by kernel_rfl
def tw_c (H:c∈Cz)(h:In c u):∀us A,Q0 (zj u::us) A=oL (lu c) Q0 (zj u::us) A:=gg (R':=bV) tw_l H h λus A=>kP (j:=0) (t:=zj u) (by
 unfold Wv;exact zV (Zh (jf (rw_c H h) zN)) (zV (yr (jf (PX H h) (ZH (jf (J9 H h) zN) zN))) qH)) rfl
abbrev lr (c:qD):As:=[([],.inl (cN c))]
def OO (c:qD):Fn:=zU 6 (W5 WW (oL l0 gj) (oL (lw c) yT) (Vh c))
def AV (r:Nat->W):Cz.all (λc=>wC (lr c) (OO c) (yN c.n r))=true:=by kernel_rfl
def c6 (H:c∈Cz)(h:In c u):∀us A,Jb (zj u::us) A=oL (lr c) Jb (zj u::us) A:=gg (R':=OO) AV H h λus A=>kP (j:=0) (t:=zj u) (by
 unfold W5;exact zV (Zh (jf (rw_c H h) zN)) (zV (jJ (by decide) (jf (J9 H h) zN)) (zV (jJ (by decide) (jf (PX H h) zN)) (zV (jJ (by decide) zN) (zV (wR zN (gz (by decide)) (zV (jJ (by decide) zN) (zV (jJ (by decide) zN) qH))) (zV (yr zN) qH)))))) rfl
def OF (c:qD):Fn:=zU 13 (WC (oL (lo c) gm) (oL (lz c) ki) Wu Jq (oL l0 gj) (oL (lw c) yT))
abbrev w6 (r:Nat->W)(c:qD):Bool:=wC (ln c) (OF c) (yN c.n r)
def c7 (r:Nat->W):((Dz 0).take 3).all (w6 r)=true:=by kernel_rfl
def c8 (r:Nat->W):((Dz 1).take 3).all (w6 r)=true:=by kernel_rfl
def c9 (r:Nat->W):((Dz 2).take 3).all (w6 r)=true:=by kernel_rfl
def da (r:Nat->W):((Dz 3).take 3).all (w6 r)=true:=by kernel_rfl
def dc (r:Nat->W):((Dz 4).take 3).all (w6 r)=true:=by kernel_rfl
def dd (r:Nat->W):((Dz 5).take 3).all (w6 r)=true:=by kernel_rfl
def de (r:Nat->W):((Dz 6).take 3).all (w6 r)=true:=by kernel_rfl
def df (r:Nat->W):((Dz 7).take 3).all (w6 r)=true:=by kernel_rfl
def dh (r:Nat->W):((Dz 8).take 3).all (w6 r)=true:=by kernel_rfl
def di (r:Nat->W):Cz.all (w6 r)=true:=ap (k:=0) (c7 r) (ap (k:=1) (c8 r) (ap (k:=2) (c9 r) (ap (k:=3) (da r) (ap (k:=4) (dc r) (ap (k:=5) (dd r) (ap (k:=6) (de r) (ap (k:=7) (df r) (ap (k:=8) (dh r) rfl))))))))
def P6 (H:c∈Cz)(h:In c u):∀us A,Zv (zj u::us) A=oL (ln c) Zv (zj u::us) A:=gg (R':=OF) di H h λus A=>kP (j:=0) (t:=zj u) (by
 unfold WC;exact zV (Zh (jf (rw_c H h) zN)) (zV (jJ (by decide) (jf (J9 H h) zN)) (zV (wR zN (gz (by decide)) (zV (wg zN (zV Xp qH) qH) qH)) (zV (jJ (by decide) (jf (Vi h) zN)) (zV (jJ (by decide) zN) (zV (wR zN (gz (by decide)) (zV (jJ (by decide) zN) qH)) (zV (jJ (by decide) zN) (zV (wR zN (GW (by decide) (by decide)) (zV (jJ (by decide) zN) (zV (CL (by decide)) qH))) (zV (jJ (by decide) (Kh (jf (Ku H h) zN) (jf (Ku H h) zN))) (zV (yr zN) qH)))))))))) rfl
end
def gQ {k:Nat}{f g:qD->α}(H:((Dz k).take 3).map f=((Dz k).take 3).map g)(h:(Dz (k+1)).map f=(Dz (k+1)).map g):(Dz k).map f=(Dz k).map g:=by
 rw[<- a9 3 (Dz k),aU,aU,H];exact congrArg _ h
section
variable {c:qD}{u:br}{B:Hx}
def jk (c:qD):Hx:=
 let l:=O.lst ((X2 c).map λr=>r.getD 0 .non)
 [l,l]++(match c.o with
  |none=>[]|some o=>(List.range c.k).flatMap λi=>let x:=O.lst (o.map λj=>((X2 c).getD j []).getD i .non);[x,x])
abbrev nt (p ti t:Fn):Ex:=zm (zR 7 (ji (zi qj (zi qC zr)))) (zm (qK (jc (mQ qe (zP zH))) (zI 8) (zm (zR 9 (zy t (zi zt (zi qt (zi qR (zi wG zr)))))) (zm (qW (zh Zq (zh zB Yl qj) qj) yn zu) (zm (zR 7 (zy p (zi yC (zi (zy ti (zi Yl (zi (zh zB (zh zB zS wG) jZ) zr))) zr)))) zu)))) (zm (qW (zh q9 (zy t (zi zt (zi qj (zi qt (zi qR zr))))) (ji (zi (jH Zk (zh jY qt qR)) (zi qC zr)))) yn zu) (zm (qi (zh jY yC (zy ti (zi (zh zB (zh zB zS qt) jZ) (zi (zh zB (zh zB zS qR) jZ) zr))))) zu)))
def AW (H:c∈Cz)(h:In c u):Cs (Hs 1 (zj u)) (nt ZC Jd Zv) (nt K5 KY (oL (ln c) Zv)):=by
 rw[cJ,cK];exact zV (jJ (by decide) zN) (zV (wR zN (gz (by decide)) (zV (jJ (by decide) (jf (P6 H h) zN)) (zV (wg zN (zV (yr zN) qH) qH) (zV (jJ (by decide) zN) qH))))
  (zV (wg (Kh (jf (P6 H h) zN) zN) (zV (yr zN) qH) qH) (zV (yr zN) qH)))
def DW {k a b d:Nat}(H:a<k)(h:b<k)(hd:d<k):(a,b,d)∈dr k:=List.mem_flatMap.mpr ⟨a,bO.mpr H,List.mem_flatMap.mpr ⟨b,bO.mpr h,bR.mpr ⟨d,bO.mpr hd,rfl⟩⟩⟩
abbrev dj (c:qD)(t:W)(q:Nat×Nat×Nat):En:=[some (.ref 0),some t,some (.ref 1),some (K1 c),some (.int (q.1:Int)),some (.int (q.2.1:Int)),some (.int (q.2.2:Int)),none,none,none]
abbrev wz (c:qD)(o:O)(B:Hx):Hx:=o::.lst (c.w.map zC)::B
noncomputable def XJ:R Fl->Option O
 |.ok (.rt (.bl true)) (o::_)=>some o|_=>none
def Ez {r:R Fl}{o:O}(h:XJ r=some o):∃B,r=.ok (.rt (.bl true)) (o::B):=by
 unfold XJ at h
 split at h
 ·cases h;exact⟨_,rfl⟩
 ·cases h
abbrev w8 (r:Nat->W)(o:O)(c:qD):List (Option O):=(dr c.k).map λq=>XJ (nt K5 KY (oL (ln c) Zv) (dj c (yN c.n r) q) (wz c o (jk c)))
def dk (r:Nat->W)(o:O):((Dz 0).take 3).flatMap (w8 r o)=List.replicate 136 (some o):=by kernel_rfl
def dm (r:Nat->W)(o:O):((Dz 1).take 3).flatMap (w8 r o)=List.replicate 192 (some o):=by kernel_rfl
def dq (r:Nat->W)(o:O):((Dz 2).take 3).flatMap (w8 r o)=List.replicate 118 (some o):=by kernel_rfl
def dt (r:Nat->W)(o:O):((Dz 3).take 3).flatMap (w8 r o)=List.replicate 118 (some o):=by kernel_rfl
def du (r:Nat->W)(o:O):((Dz 4).take 3).flatMap (w8 r o)=List.replicate 192 (some o):=by kernel_rfl
def dv (r:Nat->W)(o:O):((Dz 5).take 3).flatMap (w8 r o)=List.replicate 192 (some o):=by kernel_rfl
def dw (r:Nat->W)(o:O):((Dz 6).take 3).flatMap (w8 r o)=List.replicate 118 (some o):=by kernel_rfl
def dy (r:Nat->W)(o:O):((Dz 7).take 3).flatMap (w8 r o)=List.replicate 192 (some o):=by kernel_rfl
def dz (r:Nat->W)(o:O):((Dz 8).take 3).flatMap (w8 r o)=List.replicate 128 (some o):=by kernel_rfl
def gN {k N:Nat}{f:qD->List α}{x:α}(d:((Dz k).take 3).flatMap f=List.replicate N x)(b:∀c∈Dz (k+1),∀y∈f c,y=x)(c:qD)(H:c∈Dz k):∀y∈f c,y=x:=by
 rw[<- a9 3 (Dz k)]at H;rcases List.mem_append.mp H with h|h
 ·exactλy a=>(List.eq_replicate_iff.mp d).2 y (List.mem_flatMap.mpr ⟨c,h,a⟩)
 ·exact b c h
def dA (r:Nat->W)(o:O):∀c∈Cz,∀y∈w8 r o c,y=some o:=gN (k:=0) (dk r o) (gN (k:=1) (dm r o) (gN (k:=2) (dq r o) (gN (k:=3) (dt r o) (gN (k:=4) (du r o) (gN (k:=5) (dv r o) (gN (k:=6) (dw r o) (gN (k:=7) (dy r o) (gN (k:=8) (dz r o) (λ_ h=>nomatch h)))))))))
def Co:(Cz.all λc=>c.w.length==c.k)=true:=by decide +kernel
def dB (f:c∈Cz)(h:In c u){o:O}(s:jW 0 (wz c o (jk c))):∃B,Z6 [.ref 0,zj u,.ref 1,K1 c] (wz c o (jk c))=.ok (.bl true) B/\jW 0 B:=by
 generalize t:jk c=B at s ⊢;have hw:c.w.length=c.k:=by
  have:=bU.mp Co c f
  rwa[aM]at this
 have L:=Zc h.tab;have kd:=h.kd;have k8:=Xf h.tab;have n8:=h.tab.n8;have E:∀(ρ:En)(o:O),ρ[2]? =some (some (.ref 1))->mQ qe (zP zH) ρ (wz c o B)=.ok (.int (c.k:Int)) (wz c o B):=λρ o H=>by
  rw[yt (yV (w:=.ref 1) (A1:=wz c o B) (ws:=c.w.map zC) (zx H) rfl)];unfold qe;rw[ai,hw]
 have go:∀{o:O},jW 0 (wz c o B)->∃(r:Nat) (o':O),r<c.k/\jW 0 (wz c o' B)/\∀ρ:En,ρ[0]? =some (some (.ref 0))->ρ[2]? =some (some (.ref 1))->zy wa (zi zp (zi (mQ qe (zP zH)) zr)) ρ (wz c o B)=.ok (.int (r:Int)) (wz c o' B):=λ {o} s=>by
  obtain⟨r,o',e,j,I,S⟩:=Xn s (m:=(c.k:Int)) (by omega) (by omega)
  obtain⟨r,rfl⟩:=a0 j;exact⟨r,o',by omega,S,λρ h0 v=>(jd (qf (zx h0) (qf (E ρ o v) qZ))).trans e⟩
 obtain⟨a,K,p,s1,C⟩:=go s;obtain⟨b,J,n,s2,A⟩:=go s1;obtain⟨d,g,hd,s3,z⟩:=go s2;have lk:=dA (λi=>zC (u.getD i [])) g c f _ (bR.mpr ⟨(a,b,d),DW p n hd,rfl⟩);rw[<- tab_of h,<- (AW f h _ _ rfl).1,t]at lk;obtain⟨D,l⟩:=Ez lk;obtain⟨x,y,Q,q⟩:=s3;refine⟨g::D,?_,x,y,Q,q⟩;unfold Z6 Wi;refine jo ?_;unfold Vp;exact(qc (GY (C _ rfl rfl) (A _ rfl rfl))).trans ((qc (jq (z _ rfl rfl))).trans l)
def ON (c:qD)(f:Fn):Fn:=zU 9 (W4 f ZC (oL (lw c) Ja) (oL (lo c) Jj) (oL (lr c) Jb) (oL (lu c) Q0))
def A6 (H:c∈Cz)(h:In c u)(A:Hx):W7 [.ref 0,zj u] A=ON c Z6 [.ref 0,zj u] A:=kP (j:=1) (t:=zj u) (by
 unfold W4;exact zV (DY (GW (by decide) (by decide)) (Zj (ZH (jf (A8 H h) zN) (ZH (jf (tw_c H h) zN) zN))))
  (zV (wg zN (zV (yr zN) qH) qH)
  (zV (wg (Kh zN (Zj (Dp (k:=1) (λρ p=>by show(_::[1].map _)[1]? =_;rw[aS,p];rfl) (gz (by decide)) (Zj (ZH (jf (c5 H h) zN) zN))))) (zV (yr zN) qH) qH)
  (zV (wR zN (gz (by decide)) (zV (jJ (by decide) zN) (zV (wR zN (gz (by decide)) (zV (jJ (by decide) zN) qH)) (zV (wg zN (zV (yr zN) qH) qH) qH))))
  (zV (jJ (by decide) (jf (c6 H h) zN))
  (zV (wg zN (zV (wR zN (gz (by decide)) (zV (wg zN (zV (yr zN) qH) qH) qH)) qH) qH)
  (zV (yr zN) qH))))))) rfl
def fin (f:Fn)(us:List W)(A:Hx):R W:=zU 0 (zm (qi (λ_ A=>f us A)) zu) [] A
abbrev wA (r:Nat->W)(o:O)(f:Fn)(c:qD):R W:=ON c f [.ref 0,yN c.n r] [o]
abbrev wF (r:Nat->W)(o:O)(f:Fn)(c:qD):R W:=fin f [.ref 0,yN c.n r,.ref 1,K1 c] (wz c o (jk c))
def dC (r:Nat->W)(o:O)(f:Fn):((Dz 0).take 3).map (wA r o f)=((Dz 0).take 3).map (wF r o f):=by kernel_rfl
def dD (r:Nat->W)(o:O)(f:Fn):((Dz 1).take 3).map (wA r o f)=((Dz 1).take 3).map (wF r o f):=by kernel_rfl
def dE (r:Nat->W)(o:O)(f:Fn):((Dz 2).take 3).map (wA r o f)=((Dz 2).take 3).map (wF r o f):=by kernel_rfl
def dF (r:Nat->W)(o:O)(f:Fn):((Dz 3).take 3).map (wA r o f)=((Dz 3).take 3).map (wF r o f):=by kernel_rfl
def dG (r:Nat->W)(o:O)(f:Fn):((Dz 4).take 3).map (wA r o f)=((Dz 4).take 3).map (wF r o f):=by kernel_rfl
def dH (r:Nat->W)(o:O)(f:Fn):((Dz 5).take 3).map (wA r o f)=((Dz 5).take 3).map (wF r o f):=by kernel_rfl
def dI (r:Nat->W)(o:O)(f:Fn):((Dz 6).take 3).map (wA r o f)=((Dz 6).take 3).map (wF r o f):=by kernel_rfl
def dJ (r:Nat->W)(o:O)(f:Fn):((Dz 7).take 3).map (wA r o f)=((Dz 7).take 3).map (wF r o f):=by kernel_rfl
def dM (r:Nat->W)(o:O)(f:Fn):((Dz 8).take 3).map (wA r o f)=((Dz 8).take 3).map (wF r o f):=by kernel_rfl
def dN (r:Nat->W)(o:O)(f:Fn):Cz.map (wA r o f)=Cz.map (wF r o f):=gQ (k:=0) (dC r o f) (gQ (k:=1) (dD r o f) (gQ (k:=2) (dE r o f) (gQ (k:=3) (dF r o f) (gQ (k:=4) (dG r o f) (gQ (k:=5) (dH r o f) (gQ (k:=6) (dI r o f) (gQ (k:=7) (dJ r o f) (gQ (k:=8) (dM r o f) rfl))))))))
def E7 (a:c∈Cz)(h:In c u)(s:jW n A):∃o,Zy [.ref n,zj u] A=.ok (.bl true) (A.set n o)/\jW n (A.set n o):=by
 obtain⟨x,b,f,j,l⟩:=s;have hm:=gq f;obtain⟨B,e,X,g,E,H,d⟩:=dB a h (o:=.lst [.int x,.bl b]) ⟨x,b,rfl,j,l⟩;refine⟨.lst [.int X,.bl g],?_,X,g,aB hm,H,d⟩;refine Y4 (A1:=B) f (kS u) ?_ E rfl;have lk:=List.map_inj_left.mp (dN (λi=>zC (u.getD i [])) (.lst [.int x,.bl b]) Z6) c a;unfold wA wF at lk;rw[<- tab_of h]at lk;refine(A6 a h _).trans (lk.trans ?_);exact jo (qX (jI e))
end
section
def dO (A:Hx):Jg [.int 5] A=.ok (zj (bT 0)) A:=kK (r:=.inl _) rfl (by decide +kernel) A
def dP (A:Hx):YD [.int 6] A=.ok (zj (bT 1)) A:=kK (r:=.inl _) rfl (by decide +kernel) A
def OC (A:Hx):YD [.int 4] A=.ok (zj (bT 2)) A:=kK (r:=.inl _) rfl (by decide +kernel) A
def AO (A:Hx):WT [.int 2,.int 3] A=.ok (zj (bT 3)) A:=kK (r:=.inl _) rfl (by decide +kernel) A
def dQ (A:Hx):WR [.int 3] A=.ok (zj (bT 4)) A:=kK (r:=.inl _) rfl (by decide +kernel) A
def dR (A:Hx):Wx [.int 2] A=.ok (zj (bT 5)) A:=kK (r:=.inl _) rfl (by decide +kernel) A
def dS (A:Hx):W3 [.int 4] A=.ok (zj (bT 6)) A:=kK (r:=.inl _) rfl (by decide +kernel) A
def Ol (A:Hx):Jg [.int 2] A=.ok (zj [[0,1],[1,0]]) A:=kK (r:=.inl _) rfl (by decide +kernel) A
def dU (A:Hx):Jg [.int 3] A=.ok (zj [[0,1,1],[1,0,1],[1,1,0]]) A:=kK (r:=.inl _) rfl (by decide +kernel) A
def dV (A:Hx):WM [zj [[0,1],[1,0]],zj [[0,1,1],[1,0,1],[1,1,0]]] A=.ok (zj (bT 7)) A:=kK (r:=.inl _) rfl (by decide +kernel) A
def dW (A:Hx):WO [zj [[0,1],[1,0]],zj (bT 2)] A=.ok (zj (bT 8)) A:=kK (r:=.inl _) rfl (by decide +kernel) A
noncomputable abbrev c1 {f:Fn}{w v:W}(hm:m ρ A=.ok w A)(h:f [w] A=.ok v A):zy f (zi m zr) ρ A=.ok v A:=(jd (qf hm qZ)).trans h
noncomputable abbrev c2 {f:Fn}{k:Ev}{w x v:W}(hm:m ρ A=.ok w A)(H:k ρ A=.ok x A)(h:f [w,x] A=.ok v A):zy f (zi m (zi k zr)) ρ A=.ok v A:=(jd (qf hm (qf H qZ))).trans h
abbrev n6:List W:=[zj (bT 0),zj (bT 1),zj (bT 2),zj (bT 3),zj (bT 4),zj (bT 5)]
abbrev n3:List W:=[zj (bT 6),zj (bT 7),zj (bT 8)]
def DJ (s:jW n A):∃c u o,c∈Cz/\In c u/\Zu [.ref n] A=.ok (zj u) (A.set n o)/\jW n (A.set n o):=by
 obtain⟨x,b,d,j,B⟩:=s;have hm:=gq d;obtain⟨r,a,C,e,D,s1⟩:=Xn (n:=0) (A:=[.lst [.int x,.bl b]]) ⟨x,b,rfl,j,B⟩ (m:=9) (by decide) (by decide)
 obtain⟨i,rfl⟩:=a0 e;have H:i<9:=by omega
 have pt:=(ag _ _).mp (bU.mp Pe i (bO.mpr H));have hT:=GZ pt.1;have s2:jW 0 [a,.lst n6,.lst n3,.lst (n6++n3)]:=by obtain⟨y,z,Q,q⟩:=s1;exact⟨y,z,Q,q⟩
 obtain⟨p,o,g,E,⟨y,z,Q,q,f⟩,t,ho⟩:=FO hT s2;obtain⟨c,v,l⟩:=in_of H t ho;refine⟨c,_,.lst [.int y,.bl z],v,l,?_,y,z,aB hm,q,f⟩;refine Y4 (A1:=[a,.lst n6,.lst n3,.lst (n6++n3)].set 0 g) d rfl ?_ Q (Za _);refine jo ?_;unfold VT;refine(qc (ρ1:=[some (.ref 0),some (.int (i:Int)),none]) (A1:=[a]) (jq ((jd (qf (zx rfl) (qf qY qZ))).trans C))).trans ?_;refine(qc (ρ1:=[some (.ref 0),some (.int (i:Int)),some (.ref 1)]) (A1:=[a,.lst n6]) (jq (wN (ws:=n6) (qf (c1 qY (dO _)) (qf (c1 qY (dP _)) (qf (c1 qY (OC _)) (qf (c2 qY qY (AO _)) (qf (c1 qY (dQ _)) (qf (c1 qY (dR _)) qZ))))))))).trans ?_;refine(qc (ρ1:=[some (.ref 0),some (.int (i:Int)),some (.ref 3)]) (A1:=[a,.lst n6,.lst n3,.lst (n6++n3)]) (jq ((qb (zx rfl) (wN (ws:=n3) (A1:=[a,.lst n6]) (qf (c1 qY (dS _)) (qf (c2 (c1 qY (Ol _)) (c1 qY (dU _)) (dV _)) (qf (c2 (c1 qY (Ol _)) (c1 qY (OC _)) (dW _)) qZ))))).trans (Su rfl rfl (by decide))))).trans ?_
 refine qX (jI ((jd (qf (zx rfl) (qf ((qb (zx rfl) (zx rfl)).trans (GV (s:=i) rfl (w:=zj (bT i)) ?_)) qZ))).trans E))
 match i,H with
 |0,_=>rfl|1,_=>rfl|2,_=>rfl|3,_=>rfl|4,_=>rfl|5,_=>rfl|6,_=>rfl|7,_=>rfl|8,_=>rfl
 |i+9,h=>exact absurd h (by omega)
abbrev rC:Ev:=zy Zy (zi zH (zi (zy Zu (zi zH zr)) zr))
def RL (s:jW n A)(H:ρ[2]? =some (some (.ref n))):∃B,jX rC ρ A=.ok (.bl false) B/\jW n B/\∀i,i≠n->B[i]? =A[i]?:=by
 obtain⟨c,u,o,b,a,E,s1⟩:=DJ s;obtain⟨d,e,s2⟩:=E7 b a s1;refine⟨_,JB ((jd (qf (zx H) (qf ((jd (qf (zx H) qZ)).trans E) qZ))).trans e),s2,λi h=>?_⟩;rw[ay (Ne.symm h),ay (Ne.symm h)]
abbrev BL:Ex:=zm (zR 2 (zy Qf (zi zp (zi zt zr)))) (zm (qW (gK (jX rC) (jX rC)) yn zu) zu)
def Eu {k:Nat}{x2:Option W}(h:A[0]? =some (.ro (ns.map W.int))):∃y B,BL [some (.ref 0),some (.int (k:Int)),x2] A=.ok (.nx [some (.ref 0),some (.int (k:Int)),y]) B/\B[0]? =some (.ro (ns.map W.int)):=by
 obtain⟨o,b,s1⟩:=Dk h k;have H:(A++[o])[0]? =some (.ro (ns.map W.int)):=yG h;have n:0≠A.length:=by have:=gq h;omega
 obtain⟨B,E,s2,a⟩:=RL (ρ:=[some (.ref 0),some (.int (k:Int)),some (.ref A.length)]) s1 rfl;obtain⟨C,e,s3,K⟩:=RL (ρ:=[some (.ref 0),some (.int (k:Int)),some (.ref A.length)]) s2 rfl;refine⟨_,C,(qc (jq ((jd (qf (zx rfl) (qf (zx rfl) qZ))).trans b))).trans ((qc ((wj ((XG E).trans e)).trans yE)).trans yE),?_⟩;rw[K 0 n,a 0 n,H]
end
def XB:Fn:=zU 3 (XH Zy Qf Zu)
def FR:PM XB:=λns hl=>by
 have s:z7 (.ref 0) [.ro (ns.map W.int)]=some (ns.map W.int):=rfl;have E:mQ qe (zP zp) [some (.ref 0),none,none] [.ro (ns.map W.int)]=.ok (.int ns.length) [.ro (ns.map W.int)]:=by
  rw[yt (yV (w:=.ref 0) (A1:=[.ro (ns.map W.int)]) (zx rfl) s)];unfold qe;rw[ai]
 have em:zh Xt qC (zh Kj (mQ qe (zP zp)) Yi) [some (.ref 0),none,none] [.ro (ns.map W.int)]=
   .ok (.int (if (if (3:Int)<ns.length then 3 else(ns.length:Int)) > 1 then(if (3:Int)<ns.length then 3 else(ns.length:Int)) else 1)) [.ro (ns.map W.int)]:=
  (qb (qY (w:=.int 1)) ((qb E (qY (w:=.int 3))).trans rfl)).trans rfl
 generalize c:(if (if (3:Int)<ns.length then 3 else(ns.length:Int)) > 1 then(if (3:Int)<ns.length then 3 else(ns.length:Int)) else 1)=v at em;have H:jy v=true:=by
  have:0<=v/\v<1000:=by
   rw[<- c]
   split<;>split<;>omega
  obtain⟨k,rfl⟩:=a0 this.1;exact Lr (by omega)
 obtain⟨b,B,e,_⟩:=Jl (j:=kx 0 v.toNat) (st:=turn (zI 1) BL) (N:=v.toNat) (I:=λ_ ρ B=>B[0]? =some (.ro (ns.map W.int))/\∃Y y,ρ=[some (.ref 0),Y,y])
  (λi ρ B d ⟨h0,Y,y,h⟩=>by
   subst h;obtain⟨z,f,e,a⟩:=Eu (k:=i) (x2:=y) h0;refine⟨_,_,f,ZM d,(kL (ρ1:=[some (.ref 0),some (.int (i:Int)),y]) ?_).trans e,a,_,_,rfl⟩;rw[Int.zero_add];rfl)
  (λρ B _=>ZG (by omega)) v.toNat 0 [some (.ref 0),none,none] [.ro (ns.map W.int)] (by omega) ⟨rfl,_,_,rfl⟩
 refine⟨B,jo ?_⟩;unfold XH;exact(qc ((yP (ZE em H)).trans e)).trans (qX (jI qY))
section
variable {K:Frag}
def CA (Z:Zz K h mg){f:Addr}(F:gh K "law" "law" Ki f fd):yA P w K mg base kT 12 f fd ["_law_script"] (gR K 1 XB):=
 o_law (k:=11) Z.B F (Lk Z).up (M8 Z).up (Nr Z).up
def all_mk {l:PySem.W.OpenLaw}{b:Addr}(X:K.In h)(Gl:h.Ns mainGlobals mg)(H:mg "law"=some (.ref b))(T:Tx K):
  ∃fd:FuncData,(∀(s:Shared)(v:Value),BindsTo s fd ⟨[v],[]⟩ [("_law_script",v)])/\∀base:Heap,K.In base->base.Ns mainGlobals mg->yA l.prog w K mg base kT 12 b fd ["_law_script"] (gR K 1 XB):=by
 obtain⟨f,fd,F,a⟩:=T.Ad;have e:=H.symm.trans (aN X Gl a);cases e;obtain⟨i,g,kV,doc,pm,an,c,ct,o,rfl,lk,d⟩:=id F.ex;exact⟨_,λs v=>.of_eq rfl,λbase j nb=>CA (zz X Gl T) F⟩
end
end G
namespace PySem.W.Fast
def tw14268054212025005157:Nat:=0
def tw15043259988210446678:Nat:=0
def tw14059918936248916336:Nat:=0
def tw15459741694599054319:Nat:=0
def tw11428723038634687907:Nat:=0
def tw11792134350370019699:Nat:=0
def tw5952326746676712613:Nat:=0
def tw7185199691692551834:Nat:=0
def tw8915260407450342610:Nat:=0
def tw3637772604150270837:Nat:=0
def tw17633449040060667072:Nat:=0
def tw15385306514861119723:Nat:=0
def tw9160823586617583504:Nat:=0
def tw16916888650809210489:Nat:=0
def tw15126183132006192685:Nat:=0
def tw3622595415197052782:Nat:=0
def tw6232177424041292496:Nat:=0
def tw14487456835235640232:Nat:=0
def tw5294004083342516487:Nat:=0
def tw4817331817178405687:Nat:=0
def tw10334291896914752261:Nat:=0
def tw13865015521218300135:Nat:=0
def tw3279871469589814088:Nat:=0
def tw6257135252883289570:Nat:=0
def tw2959491648874426363:Nat:=0
def tw15911552252917840081:Nat:=0
end PySem.W.Fast
open PySem PySem.W PyProof.Rows
set_option maxRecDepth 100000 in
set_option maxHeartbeats 0 in
theorem PySem.Challenge.cw_nearkinds_k43_whole_turned_about_holds : PySem.Challenge.rw_nearkinds_k43_whole_turned_about.Holds := by
 w_on;o_law;k_head;(case hw=>w_witness2)
 k_fill
 refine Mi.AI (l:=PySem.Challenge.rw_nearkinds_k43_whole_turned_about) (k:=12) (x := "_law_script") G.FR rfl rfl ⟨rfl,by decide,by decide⟩ (λw h Y=>PySem.W.kIn_of Y) ?F
 case F=>
  intro w mg fa h KX Gl hmg;have T:G.Tx (L2.Oj KX):=by
   dsimp only [L2.Oj]
   apply G.Tx.mk<;>first | (refine' Mi.Am ?a ?l ?c ?k;(case a=>k_is);(case l=>k_is);(case c=>k_is);(case k=>k_is)) | (refine' Mi.BH ?a;(case a=>k_is)) | k_is|kernel_rfl
  exact G.all_mk KX Gl hmg T
