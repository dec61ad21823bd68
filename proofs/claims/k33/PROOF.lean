import PyProof.Rows.All
import Wide.All
import OpenK.AllK
import Wide.FinOn
import Lean
import PyProof.EqAt
import PyProof.EqKinds
import PyProof.TupleCall
import OpenK.KOwn
import PyProof.Rows.FStr
import PyProof.FString
import PyProof.NsDelKeeps
import KE.KIsAll
import PyProof.ExcArgs
import KE.KLam
import KE.KNestM
import PyProof.Rows.SetFrom
import PyProof.ListMulRoad
import PyProof.FactsAll.set_1
import PyProof.FactsAll.set_2
import PyProof.CollectIter
import PyProof.TupleIter
import PyProof.CollectWalk
import PyProof.Rows.SortShell
import PyProof.SumAny
import PyProof.ListOps
import KE.KDictList
import PyProof.NoPylong
import KE.KUnpack
import KE.KSortTup
import KE.KIntText
import PyProof.Rows.TupDisplay
import PyProof.AttrMiss
import PyProof.IsiH_list
import KE.KDictOf
import PySem.Challenge.RW_nearkinds_k33_whole_weights
noncomputable section
open PySem.W (Frag)
open List (all_cons any_cons any_eq_true append_nil countP_cons drop_length find?_cons flatMap_cons forIn_cons forIn_nil getElem_inj head?_append length_replicate lookup_cons map_const' map_nil mem_cons mem_map mem_of_mem_drop not_mem_nil of_mem_zip pairwise_map range'_succ range_eq_range' sum_append sum_cons take_zero)
open Nat (add_comm le_add_right le_of_lt mul_comm mul_le_mul ne_of_gt zero_add zero_le)
open Int (emod_nonneg mul_assoc mul_nonneg mul_pos zero_mul)
open Option (getD_none isSome_some)
open Array (length_toList)
open PySem.W (cellsFrom_some codeIn findIn fnOf instObj keepIn kitOne kitx_dict kitx_list kitx_tuple lookIn methodObj mroIn nsIn plainGet)
open PySem.F (args_tuple_add_2 entry_tuple_add slot_tuple_add)
abbrev aa:=@List.getD_eq_getElem?_getD
abbrev ab:=@List.getElem?_eq_getElem
abbrev ae:=@List.length_map
abbrev af:=@PySem.Heap.get?_push_of_some
abbrev ag:=@if_pos
abbrev ah:=@List.getElem?_append_left
abbrev ai:=@decide_eq_true_iff
abbrev aj:=@if_neg
abbrev ak:=@List.getElem?_map
abbrev ao:=@Nat.le_refl
abbrev aq:=@Bool.and_eq_true
abbrev ar:=@List.length_range
abbrev au:=@List.getElem?_eq_none
abbrev aw:=@decide_eq_true
abbrev ax:=@List.getElem?_append_right
abbrev ay:=@Bool.false_ne_true
abbrev az:=@List.size_toArray
abbrev aA:=@PySem.Heap.get?_push_size
abbrev aB:=@Int.toNat_natCast
abbrev aC:=@List.getElem?_set_self
abbrev aD:=@Option.some.inj
abbrev aE:=@List.length_append
abbrev aF:=@List.getElem?_set_ne
abbrev aG:=@List.getElem_mem
abbrev aH:=@Nat.lt_of_lt_of_le
abbrev aI:=@PySem.Heap.lt_size
abbrev aJ:=@decide_eq_false
abbrev aK:=@List.mem_cons_self
abbrev aL:=@List.mem_cons_of_mem
abbrev aM:=@List.getElem?_range
abbrev aN:=@List.mem_append_right
abbrev aO:=@PySem.W.mg_of
abbrev aP:=@List.map_append
abbrev aQ:=@List.append_assoc
abbrev aR:=@List.map_map
abbrev aS:=@List.map_cons
abbrev aT:=@Nat.ne_of_lt
abbrev aU:=@beq_iff_eq
abbrev aV:=@Int.eq_ofNat_of_zero_le
abbrev aW:=@Nat.lt_irrefl
abbrev aX:=@PySem.W.mg_none_of
abbrev aY:=@List.getElem_of_mem
abbrev aZ:=@List.length_singleton
abbrev a0:=@List.mem_append_left
abbrev a5:=@List.take_of_length_le
abbrev a6:=@List.flatten_cons
abbrev a7:=@Nat.le_trans
abbrev a8:=@List.replicate_succ
abbrev a9:=@List.flatMap_append
abbrev ba:=@List.all_eq_true
abbrev bb:=@Nat.lt_succ_of_lt
abbrev bc:=@List.range_succ
abbrev bf:=@List.drop_eq_getElem_cons
abbrev bg:=@PySem.Heap.size_push
abbrev bh:=@Bool.or_eq_true
abbrev bj:=@List.length_take
abbrev bq:=@List.ext_getElem
abbrev br:=@Nat.lt_succ_self
abbrev bt:=@List.map_congr_left
abbrev bw:=@PySem.W.kia_one
abbrev bz:=@Int.emod_lt_of_pos
abbrev bA:=@List.nil_append
abbrev bB:=@List.nodup_range
abbrev bC:=@List.length_drop
abbrev bD:=@List.length_cons
abbrev bE:=List (List Int)
abbrev bF:=List Int
abbrev bG:=List PySem.Value
abbrev bH:=List PySem.Addr
abbrev bI:=List (PySem.Addr×PySem.Obj)
abbrev bJ:=List Nat
abbrev bK:=List PySem.Str
abbrev bL:=PySem.Value->PySem.Shared->Prop
abbrev bM:=List PySem.Expr
abbrev bN:=Option Int
abbrev bO:=PySem.Str->Option PySem.Value
abbrev bP:=List PySem.Env
abbrev bQ:=List (PySem.Str×PySem.Addr)
abbrev bR:=List PySem.Keyword
abbrev bS:=Option PySem.Addr
abbrev bT:=List PySem.Stmt
abbrev bU:=@PySem.wpAny_bind
abbrev bV:=@PySem.wpAny_pure
abbrev bY:=@List.getElem?_eq_some_iff
abbrev b0:=@List.mem_cons
abbrev b2:=@List.all_eq_true
abbrev bX:=@List.mem_range
abbrev bZ:=@List.mem_map
abbrev b1:=@List.mem_singleton
set_option Elab.async false
set_option linter.all false
set_option maxRecDepth 1000000
set_option maxHeartbeats 4000000
variable {XP:(PySem.Str->Option PySem.Value)->PySem.Heap->Prop}{D a b:PySem.Addr}{osl:Array (Option PySem.Value)}{items:Array PySem.Value}{op:PySem.CmpOp}{env:PySem.Env}{e elt tg:PySem.Expr}{fd:PySem.FuncData}{base h:PySem.Heap}{pins:List (PySem.Addr×PySem.Obj)}{t:bE}{fp φ:List PySem.Addr}{gens gs:List PySem.Comprehension}{elts ifs:List PySem.Expr}{ns:bF}{cap:bJ}{body:List PySem.Stmt}{N:List PySem.Str}{its:List PySem.Value}{i kk n t':Nat}{apos cpos p pos tpos:PySem.Pos}{P:PySem.Program}{sc scope:PySem.Scope}{s:PySem.Shared}{x:PySem.Str}{mg:PySem.Str->Option PySem.Value}{α:Type}{u:PySem.Value}{E Q:PySem.Value->PySem.Shared->Prop}{f:PySem.Value->PySem.Value->PySem.Sem PySem.Value}{w:PySem.World}{YP:PySem.World->PySem.Heap->Prop}
namespace L2
open PySem PySem.Spec PyProof.Rows
noncomputable abbrev Key:=Sum Int Str
noncomputable def Qj:Key->Value->Bool
 |.inl k,v=>Value.isInt k v|.inr x,v=>Value.isStrOf x v
noncomputable def b3 (w:World):Key->Int
 |.inl k=>hashInt k|.inr x=>hashStr w x
theorem gi:∀{k:Key}{v:Value},Qj k v=true->(∃i t,k=Sum.inl i/\v=Value.int i t)∨(∃x t,k=Sum.inr x/\v=Value.str x t)
 |.inl i,v,h=>by
  obtain⟨t,e⟩:=Value.isInt_shape (k:=i) (v:=v) h;exact .inl ⟨i,t,rfl,e⟩
 |.inr x,v,h=>by
  obtain⟨t,e⟩:=Value.isStrOf_shape (x:=x) (v:=v) h;exact .inr ⟨x,t,rfl,e⟩
def Hc (i:Int)(t:Tok):Qj (.inl i) (.int i t)=true:=by simp[Qj,Value.isInt]
def Hy (x:Str)(t:Tok):Qj (.inr x) (.str x t)=true:=by simp[Qj,Value.isStrOf]
def CQ (a b:Int):decide ((Sum.inl a:Key)=Sum.inl b)=(a==b):=by
 by_cases e:a=b
 ·subst e;simp
 ·have h:¬(Sum.inl a:Key)=Sum.inl b:=λq=>e (Sum.inl.inj q)
  rw[aJ h];exact(beq_eq_false_iff_ne.mpr e).symm
def CM (a b:Str):decide ((Sum.inr a:Key)=Sum.inr b)=decide (a=b):=by
 by_cases e:a=b
 ·subst e;simp
 ·have h:¬(Sum.inr a:Key)=Sum.inr b:=λq=>e (Sum.inr.inj q)
  rw[aJ h,aJ e]
def Ah (a:Int)(b:Str):decide ((Sum.inl a:Key)=Sum.inr b)=false:=aJ (λq=>nomatch q)
def C1 (a:Str)(b:Int):decide ((Sum.inr a:Key)=Sum.inl b)=false:=aJ (λq=>nomatch q)
def yL (prog:Program)(w:World):PySem.KeyKind prog w Key where
 is:=Qj
 hash:=b3 w
 inj:=λv a b f c=>by
  rcases gi f with ⟨i,t,rfl,rfl⟩|⟨x,t,rfl,rfl⟩
  ·rcases gi c with ⟨j,u,rfl,e⟩|⟨y,u,rfl,e⟩
   ·injection e with E _;rw[E]
   ·exact nomatch e
  ·rcases gi c with ⟨j,u,rfl,e⟩|⟨y,u,rfl,e⟩
   ·exact nomatch e
   ·injection e with E _;rw[E]
 byValue:=λk v h=>by
  rcases gi h with ⟨i,t,rfl,rfl⟩|⟨x,t,rfl,rfl⟩<;>rfl
 pyHash:=λH h=>by
  rcases gi H with ⟨i,t,rfl,rfl⟩|⟨x,t,rfl,rfl⟩
  ·exact wpAny_pyHash_int h
  ·exact wpAny_pyHash_str h
 eqBool:=λd H h=>by
  rcases gi d with ⟨i,t,rfl,rfl⟩|⟨x,t,rfl,rfl⟩
  ·rcases gi H with ⟨j,u,rfl,rfl⟩|⟨y,u,rfl,rfl⟩
   ·rw[CQ]at h;exact wpAny_eqBool_int h
   ·rw[Ah]at h;exact SeqAt.EqAt.int_str i t y u _ _ _ _ h
  ·rcases gi H with ⟨j,u,rfl,rfl⟩|⟨y,u,rfl,rfl⟩
   ·rw[C1]at h;exact SeqAt.EqAt.str_int x t j u _ _ _ _ h
   ·rw[CM]at h;exact wpAny_eqBool_str h
 «strs»:=λk x t v h=>by
  rcases gi h with ⟨i,u,rfl,e⟩|⟨y,u,rfl,e⟩
  ·exact nomatch e
  ·injection e with E _
   subst E;cases v<;>rfl
def Im (prog:Program)(w:World)(k:Key)(v:Value):(yL prog w).is k v=Qj k v:=rfl
def L1 (prog:Program)(w:World)(i:Int)(t:Tok):(yL prog w).is (.inl i) (.int i t)=true:=Hc i t
def LY (prog:Program)(w:World)(x:Str)(t:Tok):(yL prog w).is (.inr x) (.str x t)=true:=Hy x t
inductive V where
 |non|bl (b:Bool)|int (i:Int)|str (x:Str)|byt (b:Array UInt8)|flt (b:UInt64)|ref (a:Addr)|ty (n:String)
 deriving DecidableEq
noncomputable def RelV:V->Value->Prop
 |.non,u=>u=Value.none|.bl b,u=>u=Value.bool b|.int i,u=>∃t,u=Value.int i t|.str x,u=>∃t,u=Value.str x t|.byt b,u=>∃t,u=Value.bytes b t|.flt b,u=>∃t,u=Value.float b t|.ref a,u=>u=Value.ref a|.ty n,u=>u=Value.type n
abbrev Vals:List V->List Value->Prop:=Paired RelV
theorem Vals.length {xs:List V}{us:bG}(r:Vals xs us):xs.length=us.length:=Paired.length r
theorem Vals.get:∀{xs:List V}{us:bG}{i:Nat}{x:V},Vals xs us->xs[i]? =some x->∃u,us[i]? =some u/\RelV x u
 |_,_,_,_,.nil,e=>by simp at e|_,_,0,_,.cons r _,e=>by simp at e;subst e;exact⟨_,rfl,r⟩|_,_,i+1,x,.cons _ t,e=>by
  obtain⟨u,H,h⟩:=Vals.get (i:=i) (x:=x) t (by simpa using e)
  exact⟨u,by simpa using H,h⟩
theorem Vals.set {x:V}(r:RelV x u):∀{xs:List V}{us:bG}(i:Nat),Vals xs us->Vals (xs.set i x) (us.set i u)
 |_,_,_,.nil=>.nil|_,_,0,.cons _ t=>.cons r t|_,_,i+1,.cons q t=>.cons q (Vals.set r i t)
theorem Vals.append:∀{xs y:List V}{us ws:bG},Vals xs us->Vals y ws->Vals (xs++y) (us++ws)
 |_,_,_,_,.nil,s=>s|_,_,_,_,.cons r t,s=>.cons r (Vals.append t s)
theorem Vals.take:∀{xs:List V}{us:bG}(n:Nat),Vals xs us->Vals (xs.take n) (us.take n)
 |_,_,0,_=>.nil|_,_,_+1,.nil=>.nil|_,_,n+1,.cons r t=>.cons r (Vals.take n t)
theorem Vals.drop:∀{xs:List V}{us:bG}(n:Nat),Vals xs us->Vals (xs.drop n) (us.drop n)
 |_,_,0,r=>r|_,_,_+1,.nil=>.nil|_,_,n+1,.cons _ t=>Vals.drop n t
def Vals.none_of:∀{xs:List V}{us:bG}{i:Nat},Vals xs us->xs[i]? =none->us[i]? =none:=λ {xs us i} r e=>by
 have H:=r.length;have h:xs.length<=i:=List.getElem?_eq_none_iff.mp e;exact List.getElem?_eq_none_iff.mpr (by omega)
def g9:Option V->Option Value->Prop
 |some v,some u=>RelV v u|none,none=>True|_,_=>False
def KV {κ:Type}:List (κ×V)->List (κ×Value)->Prop:=Paired λ(p:κ×V) (q:κ×Value)=>p.1=q.1/\RelV p.2 q.2
noncomputable def kV:Key->V
 |.inl i=>.int i|.inr x=>.str x
inductive HO where
 |lst (xs:List V)
 |tup (xs:List V)
 |dK (kvs:List (Key×V))|dT (kvs:List (List Key×V))
 |set (S:Int->Bool) (n:Nat)
 |ins (C dx:Addr) (fs:List (Str×V))
 |own (x:Addr)
 |xd (fs:List (Str×V))
 |met (f x:Addr)
 |rng (lo hi:Int)
 |frz (o:Obj) (u:HO)
 |tbl (ps:Array Value)
 |ext (φ:Heap->Prop)
noncomputable abbrev Hp:=Addr->Option HO
noncomputable def upd (H:Hp)(a:Addr)(o:HO):Hp:=λb=>if b=a then some o else H b
def yn {H:Hp}{o:HO}:upd H a o a=some o:=by unfold upd;rw[ag rfl]
def qF {H:Hp}{o:HO}(h:b≠a):upd H a o b=H b:=by unfold upd;rw[aj h]
def b4 {H:Hp}{o u:HO}(h:H a=some o)(h':H b=some u)(d:o≠u):a≠b:=by
 intro e;subst e;rw[h]at h';exact d (aD h')
def wg {H:Hp}{o:HO}(h:H a=some o)(h':H b=none):a≠b:=by
 intro e;subst e;rw[h]at h';cases h'
def Zu (h:Heap)(a:Addr)(items:Array Value):Prop:=∃o,h.get? a=some o/\(o.cls=.type "tuple" /\ o.dict=none)/\∃n,o.data=.seq items n
def Zu.tup {h:Heap}{a:Addr}{items:Array Value}(x:Zu h a items):IsTup h a items:=let ⟨o,e,c,d⟩:=x;⟨o,e,c.1,d⟩
def Zu.new (h:Heap)(items:Array Value):Zu (h.push { cls:=.type "tuple",data:=.seq items }) h.objs.size items:=⟨_,aA h rfl,⟨rfl,rfl⟩,0,rfl⟩
section
variable (P:Program)(w:World)
def jG (H:Hp)(h:Heap)(a:Addr):HO->Prop
 |.lst xs=>xs.length<=sizeLine/\∃(its:bG) (n:Nat),Vals xs its/\h.get? a=some { cls:=.type "list",data:=.seq its.toArray n }
 |.tup xs=>xs.length<=sizeLine/\∃its:bG,Vals xs its/\Zu h a its.toArray|.dK kvs=>kvs.length<=sizeLine/\(a==sysModules)=false/\∃vs,KV kvs vs/\h.DictOf (yL P w) a vs|.dT kvs=>kvs.length<=sizeLine/\(a==sysModules)=false/\∃xs:List (List Key×Addr×Value),
   Paired (λ(p:List Key×V) (q:List Key×Addr×Value)=>p.1=q.1/\H q.2.1=some (.tup (p.1.map kV))/\RelV p.2 q.2.2) kvs xs/\
   ∃o e E,h.get? a=some o/\o.ExactDict/\o.data=.dict e E/\e.toList=xs.map (entryOfKey (tupleKind (yL P w)))/\(xs.map (·.1)).Nodup
 |.set S n=>h.SetOf (intKind P w) a S n|.ins C d fs=>H d=some (.own a)/\fs.length<=1000/\d≠a/\h.get? a=some (instObj C d)/\
   ∃m,h.Ns1 d m/\(∀f,g9 (fs.lookup f) (m f))/\PySem.Within m (fs.map (·.1))
 |.own _=>∃o,h.get? a=some o|.xd fs=>∃m,h.Ns1 a m/\∀f,g9 (fs.lookup f) (m f)|.rng lo i=>∃t u v,h.get? a=some { cls:=.type "range",data:=.fields #[.int lo t,.int i u,.int 1 v] }
 |.frz o u=>h.get? a=some o/\jG H h a u|.tbl ps=>h.get? a=some { cls:=.none,data:=.fields ps }|.met f x=>h.get? a=some (methodObj (.ref f) (.ref x))|.ext φ=>φ h/\(∃o,h.get? a=some o)/\∀c b:Heap,φ c->(∀o,c.get? a=some o->b.get? a=some o)->φ b
def jI (H:Hp)(h:Heap):Prop:=∀a o,H a=some o->jG P w H h a o
end
section
variable {H H':Hp}{h':Heap}{o:HO}
theorem jG.lt (x:jG P w H h a o):a<h.objs.size:=by
 cases o with
 |lst xs=>obtain⟨_,_,_,_,e⟩:=x;exact aI e|tup xs=>obtain⟨_,_,_,p⟩:=x;exact p.tup.lt|dK kvs=>obtain⟨_,_,_,_,o,_,_,e,_⟩:=x;exact aI e|dT kvs=>obtain⟨_,_,_,_,o,_,_,e,_⟩:=x;exact aI e|set S n=>obtain⟨o,_,_,_,e,_⟩:=x;exact aI e|ins C d fs=>obtain⟨_,_,_,e,_⟩:=x;exact aI e|own y=>obtain⟨_,e⟩:=x;exact aI e|xd fs=>obtain⟨_,⟨_,_,_,e,_⟩,_⟩:=x;exact aI e|rng lo i=>obtain⟨_,_,_,e⟩:=x;exact aI e|frz ob u=>obtain⟨e,_⟩:=x;exact aI e|tbl ps=>exact aI (show h.get? a=some _ from x)|met f y=>exact aI (show h.get? a=some _ from x)|ext φ=>obtain⟨_,⟨_,e⟩,_⟩:=x;exact aI e
theorem Paired.mapP {β:Type}{F G:α->β->Prop}:∀{L:List α}{l:List β},Paired F L l->(∀a b,F a b->G a b)->Paired G L l
 |_,_,.nil,_=>.nil|_,_,.cons r t,f=>.cons (f _ _ r) (Paired.mapP t f)
def jG.stay (x:jG P w H h a o)(k:∀b u,(b=a∨H b=some (.own a))->h.get? b=some u->h'.get? b=some u)
  (l:∀b,H b=some (.own a)->H' b=some (.own a))(ht:∀b xs,H b=some (.tup xs)->H' b=some (.tup xs)):jG P w H' h' a o:=by
 induction o with
 |lst xs=>obtain⟨z,i,n,r,e⟩:=x;exact⟨z,i,n,r,k _ _ (.inl rfl) e⟩|tup xs=>obtain⟨z,i,r,ob,e,c⟩:=x;exact⟨z,i,r,ob,k _ _ (.inl rfl) e,c⟩|dK kvs=>obtain⟨z,y,vs,r,ob,E,g,e,c⟩:=x;exact⟨z,y,vs,r,ob,E,g,k _ _ (.inl rfl) e,c⟩|dT kvs=>
  obtain⟨z,y,xs,r,ob,E,g,e,c⟩:=x;exact⟨z,y,xs,Paired.mapP r λp q z=>⟨z.1,ht _ _ z.2.1,z.2.2⟩,ob,E,g,k _ _ (.inl rfl) e,c⟩
 |set S n=>obtain⟨ob,E,g,t,e,c⟩:=x;exact⟨ob,E,g,t,k _ _ (.inl rfl) e,c⟩|ins C D fs=>
  obtain⟨d,z,ne,e,m,⟨j,E,g,s,c⟩,r⟩:=x;exact⟨l _ d,z,ne,k _ _ (.inl rfl) e,m,⟨j,E,g,k _ _ (.inr d) s,c⟩,r⟩
 |own y=>obtain⟨ob,e⟩:=x;exact⟨ob,k _ _ (.inl rfl) e⟩|xd fs=>obtain⟨m,⟨j,E,g,e,c⟩,r⟩:=x;exact⟨m,⟨j,E,g,k _ _ (.inl rfl) e,c⟩,r⟩|rng lo A=>obtain⟨t,u,v,e⟩:=x;exact⟨t,u,v,k _ _ (.inl rfl) e⟩|frz ob u I=>obtain⟨e,q⟩:=x;exact⟨k _ _ (.inl rfl) e,I q⟩|tbl ps=>
  have e:h.get? a=some { cls:=.none,data:=.fields ps }:=x;show h'.get? a=some { cls:=.none,data:=.fields ps };exact k a _ (.inl rfl) e
 |met f y=>
  have e:h.get? a=some (methodObj (.ref f) (.ref y)):=x;show h'.get? a=some (methodObj (.ref f) (.ref y));exact k a _ (.inl rfl) e
 |ext φ=>obtain⟨p,⟨o,e⟩,st⟩:=x;exact⟨st _ _ p λo q=>k _ _ (.inl rfl) q,⟨o,k _ _ (.inl rfl) e⟩,st⟩
theorem jI.lt (x:jI P w H h)(e:H a=some o):a<h.objs.size:=(x a o e).lt
def jI.fresh (x:jI P w H h)(e:h.objs.size<=a):H a=none:=by
 cases q:H a with
 |none=>rfl|some u=>exact absurd (aH (x.lt q) e) (aW _)
def jI.kept (x:jI P w H h)(k:∀b u,h.get? b=some u->h'.get? b=some u):jI P w H h':=λa o e=>
 (x a o e).stay (λb u _ q=>k b u q) (λ_ q=>q) λ_ _ q=>q
def jI.laid (x:jI P w H h)(k:∀b u,h.get? b=some u->h'.get? b=some u)(p:h.objs.size<=a)(new:jG P w (upd H a o) h' a o):jI P w (upd H a o) h':=λb u e=>by
 have hn:=x.fresh p
 by_cases d:b=a
 ·subst d;rw[yn]at e;cases e;exact new
 ·rw[qF d]at e
  exact(x b u e).stay (λc v _ q=>k c v q) (λc q=>by rw[qF (wg q hn)];exact q) λc xs q=>by rw[qF (wg q hn)];exact q
end
def Rd (H:Hp)(a:Addr)(u:HO):Prop:=H a=some u∨∃o,H a=some (.frz o u)
def Rd.ok {H:Hp}{u:HO}(r:Rd H a u)(x:jI P w H h):jG P w H h a u:=by
 rcases r with r|⟨o,r⟩
 ·exact x a u r
 ·obtain⟨_,q⟩:=x a _ r
  exact q
noncomputable def YM:Option HO->Prop
 |some (.lst _)=>True|some (.dK _)=>True|some (.dT _)=>True|some (.set _ _)=>True|some (.ins _ _ _)=>True|some (.ext _)=>True|_=>False
section
variable {H:Hp}{h':Heap}{x e:Addr}{o':HO}
def jI.write (ok:jI P w H h)(m:YM (H x))(he:e=x∨H e=some (.own x))(k:∀b u,b≠e->h.get? b=some u->h'.get? b=some u)(o:∃u,h'.get? e=some u)
  (new:jG P w (upd H x o') h' x o'):jI P w (upd H x o') h':=λb u q=>by
 have n:∀c y,H c=some (.own y)->c≠x:=λc y r z=>by subst z;rw[r]at m;exact m
 have N:∀c xs,H c=some (.tup xs)->c≠x:=λc xs r z=>by subst z;rw[r]at m;exact m
 by_cases f:b=x
 ·subst f;rw[yn]at q;cases q;exact new
 ·rw[qF f]at q
  by_cases a:b=e
  ·have Q:H b=some (.own x):=by
    rcases he with z|z
    ·exact absurd (a.trans z) f
    ·rw[a];exact z
   rw[q]at Q;cases Q;obtain⟨v,g⟩:=o;exact⟨v,by rw[a];exact g⟩
  ·refine(ok b u q).stay (λc v d r=>k c v ?_ r) (λc r=>by rw[qF (n c b r)];exact r) λc xs r=>by rw[qF (N c xs r)];exact r
   rcases d with rfl|d
   ·exact a
   ·rintro rfl
    rcases he with z|z
    ·exact n c b d z
    ·rw[d]at z;cases z;exact f rfl
end
structure Un (fs ex:bH)(H H':Hp)(h h':Heap):Prop where
 keep:∀b o,h.get? b=some o->H b=none->b∉fs->b∉ex->h'.get? b=some o
 slot:∀b o,h.get? b=some o->H b=none->b∈fs->b∉ex->∃sl,h'.get? b=some { o with slots:=sl }
 free:∀b o,h.get? b=some o->H b=none->b∉ex->H' b=none
 there:∀b o,h.get? b=some o->b∉ex->∃o',h'.get? b=some o'
 tups:∀b xs,H b=some (.tup xs)->H' b=some (.tup xs)
 frzs:∀b o u,H b=some (.frz o u)->H' b=some (.frz o u)
 tbls:∀b ps,H b=some (.tbl ps)->∃more,H' b=some (.tbl (ps++more))
section
variable {fs ex:bH}{H H1:Hp}{h1 h':Heap}{x e:Addr}{o:HO}
def Un.any (u:Un fs ex H H1 h h1){ob:Obj}(q:h.get? b=some ob)(n:H b=none)(x:b∉ex):∃s,h1.get? b=some { ob with slots:=s }:=by
 by_cases a:b∈fs
 ·exact u.slot b ob q n a x
 ·exact⟨ob.slots,u.keep b ob q n a x⟩
def Un.kept (k:∀b u,h.get? b=some u->h'.get? b=some u):Un fs ex H H h h':=
 ⟨λb ob q _ _ _=>k b ob q,λb ob q _ _ _=>⟨ob.slots,k b ob q⟩,λ_ _ _ n _=>n,λb ob q _=>⟨ob,k b ob q⟩,λ_ _ q=>q,λ_ _ _ q=>q,λ_ ps q=>⟨#[],by rw[q];simp⟩⟩
def Un.refl:Un fs ex H H h h:=Un.kept λ_ _ q=>q
def Un.laid (k:∀b u,h.get? b=some u->h'.get? b=some u)(p:h.objs.size<=a)(hn:H a=none):Un fs ex H (upd H a o) h h' where
 keep:=λb u q _ _ _=>k b u q
 slot:=λb u q _ _ _=>⟨u.slots,k b u q⟩
 free:=λb u q n _=>by rw[qF (aT (aH (aI q) p))];exact n
 there:=λb u q _=>⟨u,k b u q⟩
 tups:=λb xs q=>by rw[qF (wg q hn)];exact q
 frzs:=λb u xs q=>by rw[qF (wg q hn)];exact q
 tbls:=λb ps q=>⟨#[],by rw[qF (wg q hn),q];simp⟩
def Un.write (m:YM (H x))(he:e=x∨H e=some (.own x))(k:∀b u,b≠e->h.get? b=some u->h'.get? b=some u)(c:∃u,h'.get? e=some u):Un fs ex H (upd H x o) h h':=by
 have d:∀b,H b=none->b≠x:=λb n z=>by subst z;rw[n]at m;exact m
 have f:∀b,H b=none->b≠e:=λb n z=>by
  subst z;rcases he with r|r
  ·exact d b n r
  ·rw[n]at r;cases r
 have hm:∀b u,H b=some u->¬YM (some u)->b≠x:=λb u q nm z=>by subst z;rw[q]at m;exact nm m
 refine⟨λb u q n _ _=>k b u (f b n) q,λb u q n _ _=>⟨u.slots,k b u (f b n) q⟩,λb u q n _=>by rw[qF (d b n)];exact n,λb u q _=>?_,
  λb xs q=>by rw[qF (hm b _ q λz=>z)];exact q,λb u xs q=>by rw[qF (hm b _ q λz=>z)];exact q,λb ps q=>⟨#[],by rw[qF (hm b _ q λz=>z),q];simp⟩⟩
 by_cases a:b=e
 ·subst a;exact c
 ·exact⟨u,k b u a q⟩
end
noncomputable def WN (h:Heap)(H:Hp):bH:=(List.range h.objs.size).filter λa=>(H a).isSome
def gZ (h:Heap)(H:Hp):Heap:=PySem.W.hideAll h (WN h H)
def Hu (h:Heap)(H:Hp):(gZ h H).objs.size=h.objs.size:=PySem.W.hideAll_size _ _
def FA {H:Hp}{o:Obj}(e:h.get? b=some o)(n:H b=none):(gZ h H).get? b=some o:=
 PySem.W.hideAll_get _ e λhm=>by
  have q:(H b).isSome=true:=(List.mem_filter.mp hm).2;rw[n]at q;simp at q
def E5 {H:Hp}{o:Obj}(e:(gZ h H).get? b=some o):h.get? b=some o/\H b=none:=by
 have E:h.get? b=some o:=PySem.W.of_hideAll (WN h H) e;refine⟨E,?_⟩;cases q:H b with
 |none=>rfl|some x=>
  have hm:b∈WN h H:=List.mem_filter.mpr ⟨bX.mpr (aI E),by simp[q]⟩
  have z:(gZ h H).get? b=none:=PySem.W.hideAll_none (WN h H) hm;rw[z]at e;cases e
structure Mod (K:Frag)(mg:bO)(base:Heap):Prop where
 kin:K.In base
 glob:base.Ns mainGlobals mg
 blt:∃mb,base.Ns builtinsNs mb/\∀x:Str,x ≠ "__name__" -> mb x=bootBuiltins x
 nolimit:base.NoLimit
structure Cx where
 prog:Program
 w:World
 K:Frag
 mg:Str->Option Value
 base:Heap
 A:Around
 N:bK
 s0:Shared
 H0:Hp
 env:Env
 outer:bP
 stack:bP
 ex:bH
 fn:Str->Bool
 calm:Bool
 pn:bI
 xe:Value->Shared->Prop
noncomputable def w6 (l:bP):bH:=l.filterMap (·.frame)
abbrev Cx.fs (X:Cx):bH:=w6 X.outer
def WT (sc:Scope)(x:Str):Prop:=sc.names.lookup x=some .local∨sc.names.lookup x=some .cell∨sc.names.lookup x=some .free
def Loc (sc:Scope)(x:Str):Prop:=sc.names.lookup x=some .local∨sc.names.lookup x=some .cell
def Look (env:Env)(h:Heap)(m:bO)(x:Str)(u:Value):Prop:=
 (env.kindOf x=some .local/\m x=some u)∨((env.kindOf x=some .cell∨env.kindOf x=some .free)/\∃c,env.cells.lookup x=some c/\h.IsCell c (some u))
structure Cx.Ok (X:Cx):Prop where
 mod:Mod X.K X.mg X.base
 kind:X.env.scope.kind=.function
 glob:X.env.globals=mainGlobals
 blt:X.env.builtins=builtinsNs
 above:X.s0.heap.objs.size<=X.env.locals
 inj:∀x y c,X.env.cells.lookup x=some c->X.env.cells.lookup y=some c->x=y
 has:∀x,(X.env.kindOf x=some .cell∨X.env.kindOf x=some .free)->∃c,X.env.cells.lookup x=some c
 cab:∀x c,X.fn x=true->X.env.cells.lookup x=some c->X.s0.heap.objs.size<=c
 hd:X.calm=true->X.A.handled=none
 frames:X.A.frames=some X.stack
 stk:X.stack=X.outer∨(X.stack=X.env::X.outer/\X.env.frame=some X.env.locals)
 exf:∀b∈X.ex,b≠X.env.locals/\∀x c,X.env.cells.lookup x=some c->c≠b
 bs:∀b o,X.base.get? b=some o->X.s0.heap.get? b=some o/\X.H0 b=none
 bsz:X.base.objs.size<=X.s0.heap.objs.size
 noex:∀b o,X.base.get? b=some o->b∉X.ex
 exfs:∀b∈X.ex,b∉X.fs
 funs:X.s0.heap.FunFrames X.base X.outer
 frf:∀b∈X.fs,X.H0 b=none
structure Inv (X:Cx)(pins:bI)(σ:List (Option V))(H:Hp)(s:Shared):Prop where
 ok:X.Ok
 os:s.os=X.s0.os
 bare:AllBare s.gens
 base:Un X.fs X.ex X.H0 H X.s0.heap s.heap
 loc:∃m,s.heap.Ns X.env.locals m/\∀(i:Nat)(x:Str)(v:V),X.N[i]? =some x->σ[i]? =some (some v)->WT X.env.scope x->∃u,RelV v u/\Look X.env s.heap m x u
 cell:∀x c,X.env.cells.lookup x=some c->∃v,s.heap.IsCell c v
 free:H X.env.locals=none
 freeC:∀x c,X.env.cells.lookup x=some c->H c=none
 pin:∀p∈X.pn++pins,s.heap.get? p.1=some p.2/\H p.1=none/\p.1≠X.env.locals/\p.1∉X.fs/\∀v,p.2.data≠.cell v
 hok:jI X.prog X.w H s.heap
 len:σ.length=X.N.length
section
variable {X:Cx}{σ:List (Option V)}{H H':Hp}{h':Heap}
def Cx.Ok.nofr (ok:X.Ok){o:Obj}(e:X.base.get? b=some o):b∉X.fs:=λh=>by
 have:=(ok.funs.mem h).1
 rw[e]at this;cases this
theorem Inv.bs (I:Inv X pins σ H s):∀b o,X.base.get? b=some o->s.heap.get? b=some o/\H b=none:=λb o e=>
 ⟨I.base.keep b o (I.ok.bs b o e).1 (I.ok.bs b o e).2 (I.ok.nofr e) (I.ok.noex b o e),I.base.free b o (I.ok.bs b o e).1 (I.ok.bs b o e).2 (I.ok.noex b o e)⟩
def Inv.bk (I:Inv X pins σ H s):∀b o,X.base.get? b=some o->s.heap.get? b=some o:=λb o e=>(I.bs b o e).1
theorem Inv.mod (I:Inv X pins σ H s):Mod X.K X.mg X.base:=I.ok.mod
def Inv.kIn (I:Inv X pins σ H s):X.K.In s.heap:=I.ok.mod.kin.keeps I.bk
theorem Inv.lt (I:Inv X pins σ H s):X.env.locals<s.heap.objs.size:=let ⟨_,hn,_⟩:=I.loc;hn.lt
def Inv.sz (I:Inv X pins σ H s):X.s0.heap.objs.size<=s.heap.objs.size:=a7 I.ok.above (le_of_lt I.lt)
def Inv.nofs (I:Inv X pins σ H s)(h:s.heap.objs.size<=a):a∉X.fs:=λc=>by
 obtain⟨_,o,b,_⟩:=I.ok.funs.mem c;exact absurd (aH (aI b) (a7 I.sz h)) (aW _)
def Inv.cne (I:Inv X pins σ H s):∀x c,X.env.cells.lookup x=some c->c≠X.env.locals:=λx c e z=>by
 obtain⟨v,o,b,hd⟩:=I.cell x c e;obtain⟨m,⟨o',E,p,h,a,_⟩,_⟩:=I.loc;rw[z,h]at b;cases b;rw[a]at hd;cases hd
theorem Inv.funs (I:Inv X pins σ H s):s.heap.FunFrames X.base X.outer:=by
 have all:∀(l:bP),(∀b∈w6 l,b∈X.fs)->X.s0.heap.FunFrames X.base l->s.heap.FunFrames X.base l:=by
  intro l
  induction l with
  |nil=>intro _ _;trivial|cons env r i=>
   intro c g;obtain⟨j,⟨L,o,hf,hn,f,hd⟩,d⟩:=g;have a:L∈X.fs:=c L (by unfold w6;rw[List.filterMap_cons,hf];exact aK)
   obtain⟨S,e⟩:=I.base.slot L o f (I.ok.frf L a) a λz=>I.ok.exfs L z a;exact⟨j,⟨L,_,hf,hn,e,hd⟩,i (λb h=>c b (by unfold w6;rw[List.filterMap_cons,hf];exact aL _ h)) d⟩
 exact all X.outer (λ_ h=>h) I.ok.funs
theorem Inv.stack (I:Inv X pins σ H s):s.heap.FunFrames X.base X.stack:=by
 rcases I.ok.stk with e|⟨e,hf⟩
 ·rw[e];exact I.funs
 ·rw[e]
  obtain⟨m,hn,_⟩:=I.loc;refine .cons (by rw[I.ok.kind];decide) hf hn ?_ I.funs
  exact Heap.get?_none_of_le (a7 I.ok.bsz I.ok.above)
def Inv.stkSub (I:Inv X pins σ H s):∀b∈w6 X.stack,b∈X.env.locals::X.fs:=λb h=>by
 rcases I.ok.stk with e|⟨e,hf⟩
 ·rw[e]at h;exact aL _ h
 ·rw[e]at h
  unfold w6 at h;rw[List.filterMap_cons,hf]at h;exact h
def Inv.stkFree (I:Inv X pins σ H s):∀b∈w6 X.stack,H b=none:=λb h=>by
 rcases b0.mp (I.stkSub b h) with e|h
 ·rw[e];exact I.free
 ·obtain⟨_,o,a,_⟩:=I.ok.funs.mem h
  exact I.base.free b o a (I.ok.frf b h) λz=>I.ok.exfs b z h
def Inv.step {g':Array GenState}{d':Drawn}{ch:bH}(I:Inv X pins σ H s)
  (a:∀b∈ch,(b∈X.ex∨X.s0.heap.objs.size<=b)/\b≠X.env.locals/\(∀x c,X.env.cells.lookup x=some c->c≠b)/\∀p∈X.pn++pins,p.1≠b)
  (keep:∀b o,b≠X.env.locals->b∉X.fs->b∉ch->s.heap.get? b=some o->H b=none->h'.get? b=some o)
  (slot:∀b o,b≠X.env.locals->b∈X.fs->b∉ch->s.heap.get? b=some o->H b=none->∃t,h'.get? b=some { o with slots:=t })(free:∀b o,b∉ch->s.heap.get? b=some o->H b=none->H' b=none)
  (there:∀b o,b∉ch->s.heap.get? b=some o->∃o',h'.get? b=some o')
  (tups:∀b xs,H b=some (.tup xs)->H' b=some (.tup xs))(frzs:∀b o u,H b=some (.frz o u)->H' b=some (.frz o u))(tbls:∀b ps,H b=some (.tbl ps)->∃more,H' b=some (.tbl (ps++more)))
  (ns:∀m,s.heap.Ns X.env.locals m->h'.Ns X.env.locals m)(hok:jI X.prog X.w H' h')(J:AllBare g'):
  Inv X pins σ H' { s with heap:=h',gens:=g',drawn:=d',toks:=t' }:=by
 have YH:∀b o,X.s0.heap.get? b=some o->b≠X.env.locals:=λb o e=>aT (aH (aI e) I.ok.above);have C:∀b o,X.s0.heap.get? b=some o->b∉X.ex->b∉ch:=λb o e h f=>by
  rcases(a b f).1 with z|z
  ·exact h z
  ·exact absurd (aH (aI e) z) (aW _)
 have cellK:∀x c,X.env.cells.lookup x=some c->∀v,s.heap.IsCell c v->h'.IsCell c v:=λx c e v ⟨o,g,hd⟩=>by
  have N:c∉ch:=λz=>(a c z).2.2.1 x c e rfl
  by_cases B:c∈X.fs
  ·obtain⟨t,q⟩:=slot c o (I.cne x c e) B N g (I.freeC x c e)
   exact⟨_,q,hd⟩
  ·exact⟨o,keep c o (I.cne x c e) B N g (I.freeC x c e),hd⟩
 refine⟨I.ok,I.os,J,⟨λb o e n f h=>?_,λb o e n f h=>?_,λb o e n h=>?_,λb o e h=>?_,λb xs e=>tups b xs (I.base.tups b xs e),λb o xs e=>frzs b o xs (I.base.frzs b o xs e),λb ps e=>?_⟩,?_,λx c e=>?_,?_,λx c e=>?_,λp A=>?_,hok,I.len⟩
 ·exact keep b o (YH b o e) f (C b o e h) (I.base.keep b o e n f h) (I.base.free b o e n h)
 ·obtain⟨t,E⟩:=I.base.slot b o e n f h
  obtain⟨S,j⟩:=slot b _ (YH b o e) f (C b o e h) E (I.base.free b o e n h);exact⟨S,j⟩
 ·obtain⟨o',E⟩:=I.base.there b o e h
  exact free b o' (C b o e h) E (I.base.free b o e n h)
 ·obtain⟨o',E⟩:=I.base.there b o e h
  exact there b o' (C b o e h) E
 ·obtain⟨m1,E⟩:=I.base.tbls b ps e
  obtain⟨m2,j⟩:=tbls b _ E;exact⟨m1++m2,by rw[j,Array.append_assoc]⟩
 ·obtain⟨m,hn,D⟩:=I.loc
  refine⟨m,ns m hn,λi x v E j K=>?_⟩;obtain⟨u,r,l⟩:=D i x v E j K;refine⟨u,r,?_⟩;rcases l with l|⟨k,c,e,z⟩
  ·exact .inl l
  ·exact .inr ⟨k,c,e,cellK x c e _ z⟩
 ·obtain⟨v,z⟩:=I.cell x c e
  exact⟨v,cellK x c e v z⟩
 ·obtain⟨m,⟨o,_,_,g,_⟩,_⟩:=I.loc
  exact free _ o (λz=>(a _ z).2.1 rfl) g I.free
 ·obtain⟨v,o,g,hd⟩:=I.cell x c e
  exact free c o (λz=>(a c z).2.2.1 x c e rfl) g (I.freeC x c e)
 ·obtain⟨e,n,ne,y,d⟩:=I.pin p A
  have N:p.1∉ch:=λz=>(a p.1 z).2.2.2 p A rfl;exact⟨keep p.1 p.2 ne y N e n,free p.1 p.2 N e n,ne,y,d⟩
def Inv.un (I:Inv X pins σ H s)(u:Un X.fs [] H H' s.heap h')(hok:jI X.prog X.w H' h'):Inv X pins σ H' { s with heap:=h',toks:=t' }:=by
 obtain⟨m,⟨o,g,p,d,r⟩,_⟩:=id I.loc;obtain⟨S,L⟩:=u.any d I.free (by simp)
 exact I.step (g':=s.gens) (d':=s.drawn) (ch:=[]) (λ_ z=>nomatch z) (λb o _ a _ e n=>u.keep b o e n a (by simp)) (λb o _ a _ e n=>u.slot b o e n a (by simp)) (λb o _ e n=>u.free b o e n (by simp)) (λb o _ e=>u.there b o e (by simp)) u.tups u.frzs u.tbls (λM hm=>by
  obtain⟨o',E,c,h,f⟩:=hm;rw[d]at h;cases h;exact⟨_,E,c,L,f⟩) hok I.bare
def Inv.call {g':Array GenState}{d':Drawn}{ch:bH}(I:Inv X pins σ H s)(u:Un (w6 X.stack) ch H H' s.heap h')(hok:jI X.prog X.w H' h')(j:AllBare g')
  (d:∀b∈ch,(b∈X.ex∨X.s0.heap.objs.size<=b)/\b≠X.env.locals/\(∀x c,X.env.cells.lookup x=some c->c≠b)/\∀p∈X.pn++pins,p.1≠b):
  Inv X pins σ H' { s with heap:=h',gens:=g',drawn:=d',toks:=t' }:=by
 obtain⟨m,⟨o,q,t,g,r⟩,_⟩:=id I.loc;obtain⟨S,L⟩:=u.any g I.free λz=>(d _ z).2.1 rfl;exact I.step (ch:=ch) d (λb o L l h e n=>u.keep b o e n (λz=>(b0.mp (I.stkSub b z)).elim L l) h) (λb o _ _ h e n=>u.any e n h) (λb o h e n=>u.free b o e n h) (λb o h e=>u.there b o e h) u.tups u.frzs u.tbls (λM hm=>by
  obtain⟨o',E,f,a,i⟩:=hm;rw[g]at a;cases a;exact⟨_,E,f,L,i⟩) hok j
def Inv.turned {it:Addr}(I:Inv X pins σ H s)(k:∀b o,b≠it->s.heap.get? b=some o->h'.get? b=some o)(hn:H it=none)(L:it≠X.env.locals)
  (i:it∈X.ex∨X.s0.heap.objs.size<=it)(g:∀x c,X.env.cells.lookup x=some c->c≠it)(f:∀p∈X.pn++pins,p.1≠it):Inv X pins σ H { s with heap:=h',toks:=t' }:=by
 have N:∀b u,H b=some u->b≠it:=λb u e z=>by rw[z,hn]at e;cases e
 refine I.step (g':=s.gens) (d':=s.drawn) (ch:=[it]) (λb d=>?_) (λb o _ _ h e _=>k b o (λz=>h (by simp[z])) e) (λb o _ _ h e _=>⟨o.slots,k b o (λz=>h (by simp[z])) e⟩) (λ_ _ _ _ n=>n)
  (λb o h e=>⟨o,k b o (λz=>h (by simp[z])) e⟩) (λ_ _ e=>e) (λ_ _ _ e=>e) (λb ps e=>⟨#[],by rw[e];simp⟩) (λm hm=>?_) (λb u e=>?_) I.bare
 ·have e:b=it:=by simpa using d
  subst e;exact⟨i,L,g,f⟩
 ·obtain⟨o,E,j,a,r⟩:=hm
  exact⟨o,E,j,k _ o (Ne.symm L) a,r⟩
 ·refine(I.hok b u e).stay (λc v h q=>k c v ?_ q) (λ_ q=>q) λ_ _ q=>q
  rcases h with z|z
  ·rw[z];exact N b u e
  ·exact N c _ z
def Inv.tok (I:Inv X pins σ H s)(t:Nat):Inv X pins σ H { s with toks:=t }:=I.un (h':=s.heap) (t':=t) Un.refl I.hok
theorem Inv.kept (I:Inv X pins σ H s)(k:∀b u,s.heap.get? b=some u->h'.get? b=some u):Inv X pins σ H { s with heap:=h',toks:=t' }:=I.un (Un.kept k) (I.hok.kept k)
theorem Inv.laid {o:HO}(I:Inv X pins σ H s)(k:∀b u,s.heap.get? b=some u->h'.get? b=some u)(h:s.heap.objs.size<=a)(new:jG X.prog X.w (upd H a o) h' a o):
  Inv X pins σ (upd H a o) { s with heap:=h',toks:=t' }:=I.un (Un.laid k h (I.hok.fresh h)) (I.hok.laid k h new)
theorem Inv.write {x e:Addr}{o:HO}(I:Inv X pins σ H s)(m:YM (H x))(he:e=x∨H e=some (.own x))(k:∀b u,b≠e->s.heap.get? b=some u->h'.get? b=some u)(h:∃u,h'.get? e=some u)
  (new:jG X.prog X.w (upd H x o) h' x o):Inv X pins σ (upd H x o) { s with heap:=h',toks:=t' }:=I.un (Un.write m he k h) (I.hok.write m he k h new)
def Inv.pins_of {P:bI}(I:Inv X pins σ H s)(h:∀p∈P,s.heap.get? p.1=some p.2/\H p.1=none/\p.1≠X.env.locals/\p.1∉X.fs/\∀v,p.2.data≠.cell v):Inv X P σ H s:=
 ⟨I.ok,I.os,I.bare,I.base,I.loc,I.cell,I.free,I.freeC,λp a=>(List.mem_append.mp a).elim (λz=>I.pin p (a0 _ z)) (h p),I.hok,I.len⟩
def Rq (h:N.Nodup){j:Nat}(a:N[i]? =some x)(b:N[j]? =some x):i=j:=by
 obtain⟨c,E⟩:=bY.mp a;obtain⟨H,e⟩:=bY.mp b;exact(getElem_inj h).mp (E.trans e.symm)
def SY {M:Model}{A:Around}{v:V}{Q:Unit->Shared->Prop}(I:Inv X pins σ H s)(hN:X.N.Nodup)(U:X.N[i]? =some x)(t:Loc X.env.scope x)(r:RelV v u)
  (h:∀s',Inv X pins (σ.set i (some v)) H s'->(∃a,Heap.SameBut a s.heap s'.heap/\(a=X.env.locals∨X.env.cells.lookup x=some a))->Q () s')(hf:X.fn x=true∨X.env.scope.names.lookup x=some .local:=by first|exact .inl rfl|exact .inr rfl|assumption):wpAny M A (storeName X.env x u) Q E s:=by
 obtain⟨m,hn,hl⟩:=id I.loc;have Y:(X.env.scope.kind==.class || (X.env.scope.kind==.module&&X.env.locals != X.env.globals))=false:=by rw[I.ok.kind];rfl
 have J:i < σ.length:=by rw[I.len];exact(bY.mp U).1
 have cne:=I.cne;have tracked:∀{a:Addr}{h':Heap},(∃o,s.heap.get? a=some o/\H a=none)->Heap.SameBut a s.heap h'->jI X.prog X.w H h':=λ {a h'} ha f b ob e=>by
  obtain⟨_,_,B⟩:=ha;refine(I.hok b ob e).stay (λc w' l q=>(f.2 c ?_).trans q) (λ_ q=>q) λ_ _ q=>q
  rintro rfl
  rcases l with rfl|l
  ·rw[B]at e;cases e
  ·rw[B]at l;cases l
 rcases t with D|D
 ·refine wpAny_storeName_local D hn (λh' hn' f=>?_) Y
  obtain⟨oL,_,_,hoL,_⟩:=id hn;refine h _ ⟨I.ok,I.os,I.bare,⟨λb o e n P t=>?_,λb o e n P t=>?_,I.base.free,λb o e t=>?_,I.base.tups,I.base.frzs,I.base.tbls⟩,⟨_,hn',λj y v' g C e3=>?_⟩,λy c e=>?_,I.free,I.freeC,λp hp=>?_,tracked ⟨oL,hoL,I.free⟩ f,by simpa using I.len⟩ ⟨_,f,.inl rfl⟩
  ·exact(f.2 b (aT (aH (aI e) I.ok.above))).trans (I.base.keep b o e n P t)
  ·obtain⟨sl,g⟩:=I.base.slot b o e n P t
   exact⟨sl,(f.2 b (aT (aH (aI e) I.ok.above))).trans g⟩
  ·obtain⟨o',g⟩:=I.base.there b o e t
   exact⟨o',(f.2 b (aT (aH (aI e) I.ok.above))).trans g⟩
  ·by_cases K:j=i
   ·subst K
    rw[U]at g;cases g;rw[aC J]at C;cases C;exact⟨u,r,.inl ⟨D,by simp⟩⟩
   ·rw[aF (Ne.symm K)]at C
    obtain⟨u',r',q⟩:=hl j y v' g C e3;refine⟨u',r',?_⟩;rcases q with ⟨k,e⟩|⟨k,c,e,z⟩
    ·refine .inl ⟨k,?_⟩
     have:y≠x:=λe=>K (Rq hN g (e ▸ U))
     simp[this,e]
    ·exact .inr ⟨k,c,e,z.sameBut f (cne y c e)⟩
  ·obtain⟨w',z⟩:=I.cell y c e
   exact⟨w',z.sameBut f (cne y c e)⟩
  ·obtain⟨e,n,ne,nf,d⟩:=I.pin p hp
   exact⟨(f.2 p.1 ne).trans e,n,ne,nf,d⟩
 ·have L:X.fn x=true:=by
   rcases hf with z|z
   ·exact z
   ·rw[z]at D;cases D
  obtain⟨c,l⟩:=I.ok.has x (.inl D);obtain⟨w',z⟩:=I.cell x c l;refine wpAny_storeName_cell I.ok.kind D l z (λh' hc' f=>?_);obtain⟨oc,T,S⟩:=id z;refine h { s with heap:=h' } ⟨I.ok,I.os,I.bare,⟨λb o e n P t=>?_,λb o e n P t=>?_,I.base.free,λb o e t=>?_,I.base.tups,I.base.frzs,I.base.tbls⟩,⟨m,hn.sameBut f (Ne.symm (cne x c l)),λj y v' g C e3=>?_⟩,λy c' e=>?_,I.free,I.freeC,λp hp=>?_,tracked ⟨oc,T,I.freeC x c l⟩ f,by simpa using I.len⟩ ⟨c,f,.inr l⟩
  ·exact(f.2 b (aT (aH (aI e) (I.ok.cab x c L l)))).trans (I.base.keep b o e n P t)
  ·obtain⟨sl,g⟩:=I.base.slot b o e n P t
   exact⟨sl,(f.2 b (aT (aH (aI e) (I.ok.cab x c L l)))).trans g⟩
  ·obtain⟨o',g⟩:=I.base.there b o e t
   exact⟨o',(f.2 b (aT (aH (aI e) (I.ok.cab x c L l)))).trans g⟩
  ·by_cases K:j=i
   ·subst K
    rw[U]at g;cases g;rw[aC J]at C;cases C;exact⟨u,r,.inr ⟨.inl D,c,l,hc'⟩⟩
   ·rw[aF (Ne.symm K)]at C
    obtain⟨u',r',q⟩:=hl j y v' g C e3;refine⟨u',r',?_⟩;rcases q with q|⟨k,c',e,z'⟩
    ·exact .inl q
    ·refine .inr ⟨k,c',e,z'.sameBut f ?_⟩
     rintro rfl
     exact K (Rq hN g (I.ok.inj _ _ _ e l ▸ U))
  ·by_cases Z:c'=c
   ·subst Z;exact⟨_,hc'⟩
   ·obtain⟨w2,z2⟩:=I.cell y c' e
    exact⟨w2,z2.sameBut f Z⟩
  ·obtain⟨e,n,ne,nf,d⟩:=I.pin p hp
   refine⟨(f.2 p.1 ?_).trans e,n,ne,nf,d⟩;intro q;rw[q,T]at e;have q':oc=p.2:=aD e;exact d w' (by rw[<- q'];exact S)
def Ks {M:Model}{A:Around}{v:V}{Q:Unit->Shared->Prop}(I:Inv X pins σ H s)(c:X.N.Nodup)(b:X.N[i]? =some x)(a:Loc X.env.scope x)(r:RelV v u)
  (h:∀S,Inv X pins (σ.set i (some v)) H S->Q () S)(hf:X.fn x=true∨X.env.scope.names.lookup x=some .local:=by first|exact .inl rfl|exact .inr rfl|assumption):wpAny M A (storeName X.env x u) Q E s:=
 SY I c b a r (λS d _=>h S d) hf
def Inv.call' {S:Shared}{ch:bH}(I:Inv X pins σ H s)(o:S.os=s.os)(u:Un (w6 X.stack) ch H H' s.heap S.heap)(hok:jI X.prog X.w H' S.heap)(g:AllBare S.gens)
  (h:∀b∈ch,(b∈X.ex∨X.s0.heap.objs.size<=b)/\b≠X.env.locals/\(∀x c,X.env.cells.lookup x=some c->c≠b)/\∀p∈X.pn++pins,p.1≠b):Inv X pins σ H' S:=by
 obtain⟨h',g',d',t',o'⟩:=S;have e:o'=s.os:=o;subst e;exact I.call (g':=g') (t':=t') (d':=d') u hok g h
end
abbrev XK:=Value->Option Addr->Hp->Prop
noncomputable abbrev St:=List (Option V)
abbrev VK:=V->Hp->Prop
abbrev TE:=St->Hp->VK->Prop
abbrev TT:=St->Hp->(Bool->Hp->Prop)->Prop
abbrev TA:=St->Hp->(List V->Hp->Prop)->Prop
structure Ends where
 nx:St->Hp->Prop
 rt:VK
 bk:St->Hp->Prop:=λ_ _=>False
 ct:St->Hp->Prop:=λ_ _=>False
abbrev TS:=Ends->St->Hp->Prop
inductive EP (X:Cx)(pins:bI)(σ:St)(Q:VK)(u:Value)(s':Shared):Prop
 |mk (v:V) (H':Hp) (I:Inv X pins σ H' s') (r:RelV v u) (q:Q v H')
def TP (X:Cx)(pins:bI)(σ:St)(Q:Bool->Hp->Prop)(b:Bool)(s:Shared):Prop:=∃H,Inv X pins σ H s/\Q b H
inductive AP (X:Cx)(pins:bI)(σ:St)(Q:List V->Hp->Prop)(us:bG)(s':Shared):Prop
 |mk (vs:List V) (H':Hp) (I:Inv X pins σ H' s') (r:Vals vs us) (q:Q vs H')
def SP (X:Cx)(pins:bI)(D:Ends)(f:Flow)(s:Shared):Prop:=
 match f with
 |.next=>∃a H,Inv X pins a H s/\D.nx a H|.brk=>∃a H,Inv X pins a H s/\D.bk a H|.cont=>∃a H,Inv X pins a H s/\D.ct a H|.ret u=>∃v a H,Inv X pins a H s/\RelV v u/\D.rt v H
def PE (X:Cx)(e:Expr)(t:TE):Prop:=
 ∀(pins:bI)(s:Shared)(σ:St)(H:Hp)(Q:VK),Inv X pins σ H s->t σ H Q->wpAny (model X.prog X.w) X.A (eval e X.env) (EP X pins σ Q) X.xe s
def PT (X:Cx)(e:Expr)(t:TT):Prop:=
 ∀(pins:bI)(s:Shared)(σ:St)(H:Hp)(Q:Bool->Hp->Prop),Inv X pins σ H s->t σ H Q->wpAny (model X.prog X.w) X.A (isTrue e X.env (eval e X.env)) (TP X pins σ Q) X.xe s
def PW (X:Cx)(e:Expr)(t:TT):Prop:=
 ∀(whole:Sem Value)(pins:bI)(s:Shared)(σ:St)(H:Hp)(Q:Bool->Hp->Prop),Inv X pins σ H s->t σ H Q->wpAny (model X.prog X.w) X.A (isTrue e X.env whole) (TP X pins σ Q) X.xe s
def PW.pt {X:Cx}{t:TT}(h:PW X e t):PT X e t:=h _
def PA (X:Cx)(e:bM)(t:TA):Prop:=
 ∀(pos:Pos)(pins:bI)(s:Shared)(σ:St)(H:Hp)(Q:List V->Hp->Prop),Inv X pins σ H s->t σ H Q->wpAny (model X.prog X.w) X.A (spliced (backTo pos (starEach e X.env))) (AP X pins σ Q) X.xe s
def PS (X:Cx)(st:Stmt)(t:TS):Prop:=
 ∀(pins:bI)(s:Shared)(σ:St)(H:Hp)(D:Ends),Inv X pins σ H s->t D σ H->wpAny (model X.prog X.w) X.A (exec st X.env) (SP X pins D) X.xe s
def yU (X:Cx)(st:bT)(t:TS):Prop:=
 ∀(pins:bI)(s:Shared)(σ:St)(H:Hp)(D:Ends),Inv X pins σ H s->t D σ H->wpAny (model X.prog X.w) X.A (execs st X.env) (SP X pins D) X.xe s
def zY {t:Sem α}{Q Q':α->Shared->Prop}{M:Model}{A:Around}(h:wpAny M A t Q E s)(H:∀a s,Q a s->Q' a s):wpAny M A t Q' E s:=wpAny_mono h H λ_ _ x=>x
section
variable {X:Cx}
noncomputable def b5 (i:Nat):TE:=λσ H Q=>∃v,σ[i]? =some (some v)/\Q v H
noncomputable def tC (v:V):TE:=λ_ H Q=>Q v H
def BP (n:X.N[i]? =some x)(g:WT X.env.scope x)(hd:(x==("__debug__":Str))=false:=by decide)(d:(x==("__classdict__":Str))=false:=by decide):PE X (.Name x pos) (b5 i):=by
 intro pins s σ H Q I h;obtain⟨v,e,h⟩:=h;obtain⟨m,hn,j⟩:=I.loc;obtain⟨u,r,l⟩:=j i x v n e g;have fin:EP X pins σ Q u s:=⟨v,H,I,r,h⟩;rcases l with ⟨b,hm⟩|⟨b,c,f,a⟩
 ·exact wpAny_Name (wpAny_loadName_local I.ok.kind b hn hm fin) hd
 ·rcases b with b|b
  ·exact wpAny_Name (wpAny_loadName_cell I.ok.kind b f a fin) hd
  ·exact wpAny_Name (wpAny_loadName_free I.ok.kind b f a fin d) hd
def Ol {i j pos}:PE X (.Constant (.int i) j pos) (tC (.int i)):=λ_ _ _ H _ I h=>wpAny_Constant_int ⟨.int i,H,I.tok _,⟨_,rfl⟩,h⟩
def b6 {b j pos}:PE X (.Constant (.bool b) j pos) (tC (.bl b)):=λ_ _ _ H _ I h=>Constant_bool ⟨.bl b,H,I,rfl,h⟩
def Ae {j pos}:PE X (.Constant .none j pos) (tC .non):=λ_ _ _ H _ I h=>Constant_none ⟨.non,H,I,rfl,h⟩
def Gl (X:Cx)(x:Str):Prop:=X.env.kindOf x=some .globalImplicit
def Ph {σ:St}{H:Hp}(I:Inv X pins σ H s)(g:Gl X x)(hm:X.mg x=some u)(h:Q u s)
  (hd:(x==("__debug__":Str))=false:=by decide):wpAny (model X.prog X.w) X.A (eval (.Name x pos) X.env) Q E s:=
 Calls.Name_function_global I.ok.kind g (Calls.loadGlobal_global (by rw[I.ok.glob];exact I.mod.glob.keeps I.bk) hm h) hd
def gM {σ:St}{H:Hp}(I:Inv X pins σ H s)(g:Gl X x)(hm:X.mg x=none)(v:bootBuiltins x=some u)(h:Q u s)
  (hn:x ≠ "__name__":=by decide)(hd:(x==("__debug__":Str))=false:=by decide):wpAny (model X.prog X.w) X.A (eval (.Name x pos) X.env) Q E s:=by
 obtain⟨m,b,a⟩:=I.mod.blt;exact Calls.Name_function_global I.ok.kind g (Calls.loadGlobal_builtin (by rw[I.ok.glob];exact I.mod.glob.keeps I.bk) hm (by rw[I.ok.blt];exact b.keeps I.bk) ((a x hn).trans v) h) hd
def D9 {v:V}(g:Gl X x)(hm:X.mg x=some u)(r:RelV v u)(hd:(x==("__debug__":Str))=false:=by decide):PE X (.Name x pos) (tC v):=
 λ_ _ _ H _ I h=>Ph I g hm ⟨v,H,I,r,h⟩ hd
def EK {v:V}(g:Gl X x)(hm:X.mg x=none)(a:bootBuiltins x=some u)(r:RelV v u)(hn:x ≠ "__name__":=by decide)(hd:(x==("__debug__":Str))=false:=by decide):PE X (.Name x pos) (tC v):=
 λ_ _ _ H _ I h=>gM I g hm a ⟨v,H,I,r,h⟩ hn hd
variable {a b:Expr}{ta tb:TE}
def HW (b:Expr)(h:op≠.In)(H:op≠.NotIn):behindInMarks op b=false:=by
 have E:(op==CmpOp.In)=false:=by cases op<;>first|rfl|exact absurd rfl h
 have e:(op==CmpOp.NotIn)=false:=by cases op<;>first|rfl|exact absurd rfl H
 cases b<;>simp[behindInMarks,E,e]
noncomputable def tB (t:TE):TT:=λσ H Q=>t σ H λx H1=>∃c,x=.bl c/\Q c H1
def CU {t:TE}(h:PE X e t)(he:∀whole,isTrue e X.env whole=(do let v <- whole;standAt e.pos;holding [v] (truthy v)):=by intro _;rfl):PT X e (tB t):=by
 intro pins s σ H Q I hw;refine isTrue_plain (zY (h pins s σ H _ I hw) λv s1 ⟨x,H1,i,r,a⟩=>?_) (he _);obtain⟨d,rfl,q⟩:=a;cases r;exact wpAny_truthy_bool ⟨H1,i,q⟩
variable {tA tB':TT}{rest:bM}
noncomputable def b7 (t u:TT):TT:=λσ H Q=>t σ H λc H1=>if c=true then u σ H1 Q else Q false H1
noncomputable def b8 (t u:TT):TT:=λσ H Q=>t σ H λc H1=>if c=true then Q true H1 else u σ H1 Q
noncomputable def b9 (t:TT):TT:=λσ H Q=>t σ H λc H1=>Q (!c) H1
def pw_and1 (b:PT X a tA):PW X (.BoolOp .And [a] pos) tA:=by
 intro w pins s σ H Q I h;refine isTrue_and (zY (b pins s σ H Q I h) λc s1 e=>?_);cases c with
 |true=>exact isTrue_and_nil e|false=>exact e
def pw_or1 (b:PT X a tA):PW X (.BoolOp .Or [a] pos) tA:=by
 intro w pins s σ H Q I h;refine isTrue_or (zY (b pins s σ H Q I h) λc s1 e=>?_);cases c with
 |false=>exact isTrue_or_nil e|true=>exact e
def pw_and (e:PT X a tA)(d:PW X (.BoolOp .And (b::rest) pos) tB'):PW X (.BoolOp .And (a::b::rest) pos) (b7 tA tB'):=by
 intro w pins s σ H Q I h;refine isTrue_and (zY (e pins s σ H _ I h) λc s1 ⟨H1,i,q⟩=>?_);cases c with
 |true=>exact d w pins s1 σ H1 Q i q|false=>exact⟨H1,i,q⟩
def pw_or (e:PT X a tA)(d:PW X (.BoolOp .Or (b::rest) pos) tB'):PW X (.BoolOp .Or (a::b::rest) pos) (b8 tA tB'):=by
 intro w pins s σ H Q I h;refine isTrue_or (zY (e pins s σ H _ I h) λc s1 ⟨H1,i,q⟩=>?_);cases c with
 |true=>exact⟨H1,i,q⟩|false=>exact d w pins s1 σ H1 Q i q
def BS (b:PT X a tA):PT X (.UnaryOp .Not a pos) (b9 tA):=by
 intro pins s σ H Q I h;exact isTrue_not (b pins s σ H (λc H1=>Q (!c) H1) I h)
noncomputable def cb (t tb:TE):TE:=λσ H Q=>t σ H λx H1=>∃c,x=.bl c/\if c=true then tb σ H1 Q else Q (.bl false) H1
noncomputable def cc (t:TE):TE:=λσ H Q=>t σ H λx H1=>∃c,x=.bl c/\Q (.bl (!c)) H1
def Bb {op}{t:TE}(h:PE X a t):PE X (.BoolOp op [a] pos) t:=λpins s σ H Q I hw=>BoolOp_one (h pins s σ H Q I hw)
def BZ (e:PE X a ta)(d:PE X (.BoolOp .And (b::rest) pos) tb):PE X (.BoolOp .And (a::b::rest) pos) (cb ta tb):=by
 intro pins s σ H Q I h;refine BoolOp_and (zY (e pins s σ H _ I h) λv s1 ⟨x,H1,i,r,q⟩=>?_);obtain⟨c,rfl,q⟩:=q;cases r;refine wpAny_truthy_bool ?_;cases c with
 |true=>exact d pins s1 σ H1 Q i q|false=>exact⟨.bl false,H1,i,rfl,q⟩
def Af (b:PE X a ta):PE X (.UnaryOp .Not a pos) (cc ta):=by
 intro pins s σ H Q I h;refine UnaryOp_ (zY (b pins s σ H _ I h) λv s1 ⟨x,H1,i,r,q⟩=>?_);obtain⟨c,rfl,q⟩:=q;cases r;exact not_of (wpAny_truthy_bool ⟨.bl (!c),H1,i,rfl,q⟩)
noncomputable def cf (t:TT)(T tb:TE):TE:=λσ H Q=>t σ H λc H1=>if c=true then T σ H1 Q else tb σ H1 Q
def Fh {c:Expr}(e:PT X c tA)(g:PE X a ta)(f:PE X b tb):PE X (.IfExp c a b pos) (cf tA ta tb):=by
 intro pins s σ H Q I h;refine wpAny_IfExp (zY (e pins s σ H _ I h) λd s1 ⟨H1,i,q⟩=>?_);cases d with
 |true=>exact g pins s1 σ H1 Q i q|false=>exact f pins s1 σ H1 Q i q
end
def qV (K:Frag)(H:Hp)(a:Addr)(xs:List V):Prop:=
 Rd H a (.lst xs)∨
  ∃(o:Obj) (its:Array Value) (n:Nat),K.lookup a=some o/\o.cls=.type "list" /\ o.dict=none/\o.data=.seq its n/\its.size<=sizeLine/\Vals xs its.toList
def qA (K:Frag)(H:Hp)(a:Addr)(xs:List V):Prop:=
 Rd H a (.tup xs)∨
  ∃(o:Obj) (its:Array Value) (n:Nat),K.lookup a=some o/\(o.cls=.type "tuple" /\ o.dict=none)/\o.data=.seq its n/\its.size<=sizeLine/\Vals xs its.toList
noncomputable def cg:Value->Option V
 |.none=>some .non|.bool b=>some (.bl b)|.int i _=>some (.int i)|.str x _=>some (.str x)|.bytes b _=>some (.byt b)|.float b _=>some (.flt b)|.ref a=>some (.ref a)|.type n=>some (.ty n)|_=>none
def RelV.abs {x:V}(r:RelV x u):cg u=some x:=by
 cases x with
 |non=>cases r;rfl|bl _=>cases r;rfl|int _=>obtain⟨t,rfl⟩:=r;rfl|str _=>obtain⟨t,rfl⟩:=r;rfl|byt _=>obtain⟨t,rfl⟩:=r;rfl|flt _=>obtain⟨t,rfl⟩:=r;rfl|ref _=>cases r;rfl|ty _=>cases r;rfl
def RelV.inj {x y:V}(r:RelV x u)(q:RelV y u):x=y:=aD (r.abs.symm.trans q.abs)
theorem Vals.inj:∀{xs y:List V}{us:bG},Vals xs us->Vals y us->xs=y
 |_,_,_,.nil,.nil=>rfl|_,_,_,.cons r t,.cons a t'=>by rw[r.inj a,Vals.inj t t']
section
variable {X:Cx}{σ:St}{H:Hp}{xs ys:List V}
def qV.of {K:Frag}(h:H a=some (.lst xs)):qV K H a xs:=.inl (.inl h)
def qA.of {K:Frag}(h:H a=some (.tup xs)):qA K H a xs:=.inl (.inl h)
def Inv.list (I:Inv X pins σ H s)(h:qV X.K H a xs):∃i:bG,Vals xs i/\PlainL s.heap a i.toArray/\xs.length<=sizeLine:=by
 rcases h with h|⟨o,i,n,c,d,hd,b,f,r⟩
 ·obtain⟨z,i,n,r,e⟩:=h.ok I.hok
  exact⟨i,r,⟨_,n,e,rfl,rfl,rfl⟩,z⟩
 ·refine⟨i.toList,r,⟨o,n,I.kIn a o c,d,hd,by simpa using b⟩,?_⟩
  have e:=r.length;simp only[length_toList]at e;omega
def Inv.tuple (I:Inv X pins σ H s)(h:qA X.K H a xs):∃i:bG,Vals xs i/\IsTup s.heap a i.toArray/\xs.length<=sizeLine:=by
 rcases h with h|⟨o,i,n,c,d,b,f,r⟩
 ·obtain⟨z,i,r,p⟩:=h.ok I.hok
  exact⟨i,r,p.tup,z⟩
 ·refine⟨i.toList,r,⟨o,I.kIn a o c,d.1,n,by simpa using b⟩,?_⟩
  have e:=r.length;simp only[length_toList]at e;omega
def Inv.list_inj (I:Inv X pins σ H s)(h:qV X.K H a xs)(h':qV X.K H a ys):xs=ys:=by
 obtain⟨i,r,⟨o,n,e,_,_,d⟩,_⟩:=I.list h;obtain⟨its',b,⟨o',N,E,_,_,d'⟩,_⟩:=I.list h';rw[e]at E;cases E;rw[d]at d';injection d' with D _
 have:i=its':=by simpa using congrArg Array.toList D
 subst this;exact r.inj b
def Inv.tupleN (I:Inv X pins σ H s)(h:qA X.K H a xs):∃ob,s.heap.get? a=some ob/\ob.dict=none:=by
 rcases h with h|⟨o,i,n,b,d,g,f,r⟩
 ·obtain⟨z,i,r,o,e,c,_⟩:=h.ok I.hok
  exact⟨o,e,c.2⟩
 ·exact⟨o,I.kIn a o b,d.2⟩
def Inv.tuple_inj (I:Inv X pins σ H s)(h:qA X.K H a xs)(h':qA X.K H a ys):xs=ys:=by
 obtain⟨i,r,⟨o,e,_,n,d⟩,_⟩:=I.tuple h;obtain⟨its',b,⟨o',E,_,N,d'⟩,_⟩:=I.tuple h';rw[e]at E;cases E;rw[d]at d';injection d' with D _
 have:i=its':=by simpa using congrArg Array.toList D
 subst this;exact r.inj b
end
noncomputable abbrev Cx.wish (X:Cx)(E:bL):Cx:={ X with xe:=E }
noncomputable abbrev Cx.nox (X:Cx):Cx:=X.wish λ_ _=>False
theorem Cx.Ok.wish {X:Cx}(ok:X.Ok)(E:bL):(X.wish E).Ok:=
 ⟨ok.mod,ok.kind,ok.glob,ok.blt,ok.above,ok.inj,ok.has,ok.cab,ok.hd,ok.frames,ok.stk,ok.exf,ok.bs,ok.bsz,ok.noex,ok.exfs,ok.funs,ok.frf⟩
def Cx.Ok.unwish {X:Cx}(ok:(X.wish E).Ok):X.Ok:=
 ⟨ok.mod,ok.kind,ok.glob,ok.blt,ok.above,ok.inj,ok.has,ok.cab,ok.hd,ok.frames,ok.stk,ok.exf,ok.bs,ok.bsz,ok.noex,ok.exfs,ok.funs,ok.frf⟩
section
variable {X:Cx}{σ:St}{H:Hp}
theorem Inv.wish (I:Inv X pins σ H s)(E:bL):Inv (X.wish E) pins σ H s:=⟨I.ok.wish E,I.os,I.bare,I.base,I.loc,I.cell,I.free,I.freeC,I.pin,I.hok,I.len⟩
theorem Inv.unwish (I:Inv (X.wish E) pins σ H s):Inv X pins σ H s:=⟨I.ok.unwish,I.os,I.bare,I.base,I.loc,I.cell,I.free,I.freeC,I.pin,I.hok,I.len⟩
theorem SP.unwish {D:Ends}{f:Flow}{s:Shared}(h:SP (X.wish E) pins D f s):SP X pins D f s:=by
 cases f with
 |next=>obtain⟨a,H,I,q⟩:=h;exact⟨a,H,I.unwish,q⟩|brk=>obtain⟨a,H,I,q⟩:=h;exact⟨a,H,I.unwish,q⟩|cont=>obtain⟨a,H,I,q⟩:=h;exact⟨a,H,I.unwish,q⟩|ret u=>obtain⟨v,a,H,I,r,q⟩:=h;exact⟨v,a,H,I.unwish,r,q⟩
theorem yU.nox {st:bT}{t:TS}(h:yU X.nox st t):yU X st t:=λpins s σ H D I hw=>
 wpAny_mono (h pins s σ H D (I.wish _) hw) (λ_ _ q=>q.unwish) λ_ _ z=>False.elim z
end
section
variable {X:Cx}{st:Stmt}{rest:bT}{t u:TS}{te:TE}
noncomputable def cj:TS:=λD σ H=>D.nx σ H
noncomputable def ck (t u:TS):TS:=λD σ H=>t { D with nx:=u D } σ H
def EN:yU X [] cj:=λ_ _ σ H _ I h=>wpAny_execs_nil ⟨σ,H,I,h⟩
def Fq (c:PS X st t)(b:yU X rest u):yU X (st::rest) (ck t u):=by
 intro pins s σ H D I h;refine wpAny_execs_cons (zY (c pins s σ H { D with nx:=u D } I h) λf s1 q=>?_)
 cases f with
 |next=>
  obtain⟨a,d,i,q⟩:=q;exact b pins s1 a d D i q
 |ret v=>exact q|brk=>exact q|cont=>exact q
def Inv.quiet {σ:St}{H:Hp}(I:Inv X pins σ H s):interactive X.env=false:=by simp[interactive,I.ok.kind]
noncomputable def AI (t:TE):TS:=λD σ H=>t σ H λ_ H1=>D.nx σ H1
def E7 (he:PE X e te)(a:swapsWith e none pos.line X.env=pure false:=by rfl):PS X (.Expr e pos) (AI te):=by
 intro pins s σ H D I h;exact wpAny_Expr_any (zY (he pins s σ H _ I h) λv s1 ⟨x,H1,i,r,q⟩=>⟨σ,H1,i,q⟩) I.quiet a
noncomputable def cm (t:TE):TS:=λD σ H=>t σ H D.rt
def BN (he:PE X e te):PS X (.Return (some e) pos) (cm te):=by
 intro pins s σ H D I h;exact wpAny_Return_some (zY (he pins s σ H _ I h) λv s1 ⟨x,H1,i,r,q⟩=>⟨x,σ,H1,i,r,q⟩)
noncomputable def cn (c:TT)(t u:TS):TS:=λD σ H=>c σ H λb H1=>if b=true then t D σ H1 else u D σ H1
def cp {c:Expr}{a b:bT}{T:TT}(e:PT X c T)(g:yU X a t)(f:yU X b u):PS X (.If c a b pos) (cn T t u):=by
 intro pins s σ H D I h;refine wpAny_If (zY (e pins s σ H _ I h) λd s1 ⟨H1,i,q⟩=>?_);cases d with
 |true=>exact g pins s1 σ H1 D i q|false=>exact f pins s1 σ H1 D i q
end
abbrev TG:=V->St->Hp->(St->Hp->Prop)->Prop
abbrev QB:=List V->St->Hp->(St->Hp->Prop)->Prop
def PG (X:Cx)(target:Expr)(t:TG):Prop:=
 ∀(pins:bI)(s:Shared)(σ:St)(H:Hp)(v:V)(u:Value)(Q:St->Hp->Prop),Inv X pins σ H s->RelV v u->t v σ H Q->
  wpAny (model X.prog X.w) X.A (assign target X.env u) (λ_ S=>∃a h,Inv X pins a h S/\Q a h) X.xe s
def WX (X:Cx)(T:bM)(t:QB):Prop:=
 ∀(pins:bI)(s:Shared)(σ:St)(H:Hp)(vs:List V)(us:bG)(Q:St->Hp->Prop),Inv X pins σ H s->Vals vs us->t vs σ H Q->
  wpAny (model X.prog X.w) X.A (assignInOrder ((assignEach T X.env).map (·.2)) us) (λ_ S=>∃a h,Inv X pins a h S/\Q a h) X.xe s
abbrev Qr:=V->V->V->Hp->(Hp->Prop)->Prop
def Ww (X:Cx)(t:Qr):Prop:=
 ∀(pins:bI)(s:Shared)(σ:St)(H:Hp)(o i v:V)(a I u:Value)(Q:Hp->Prop),Inv X pins σ H s->RelV o a->RelV i I->RelV v u->t o i v H Q->
  wpAny (model X.prog X.w) X.A (setItem a I u) (λ_ S=>∃h,Inv X pins σ h S/\Q h) X.xe s
abbrev W3:=V->V->Hp->VK->Prop
def NH (X:Cx)(op:Operator)(t:W3):Prop:=
 ∀(pins:bI)(s:Shared)(σ:St)(H:Hp)(x y:V)(v u:Value)(Q:VK),Inv X pins σ H s->RelV x v->RelV y u->t x y H Q->
  wpAny (model X.prog X.w) X.A (inplaceOp op v u) (EP X pins σ Q) X.xe s
section
variable {X:Cx}
noncomputable def Wb (i:Nat):TG:=λv σ H Q=>Q (σ.set i (some v)) H
def QY (c:X.N.Nodup)(b:X.N[i]? =some x)(a:Loc X.env.scope x)(hf:X.fn x=true∨X.env.scope.names.lookup x=some .local:=by first|exact .inl rfl|exact .inr rfl|assumption):PG X (.Name x pos) (Wb i):=by
 intro pins s σ H v u Q I r h;exact wpAny_assign_Name (Ks I c b a r (λS d=>⟨_,H,d,h⟩) hf)
noncomputable def cq:QB:=λvs σ H Q=>vs=[]/\Q σ H
noncomputable def Ao (t:TG)(u:QB):QB:=λvs σ H Q=>∃v r,vs=v::r/\t v σ H λa h=>u r a h Q
def Xr:WX X [] cq:=by
 intro pins s σ H vs us Q I r h;obtain⟨e,h⟩:=h;subst e;cases r;exact assignInOrder_nil ⟨σ,H,I,h⟩
def QU {E:bM}{t:TG}{u:QB}(f:PG X e t)(d:WX X E u)
  (c:(assignEach (e::E) X.env).map (·.2)=assign e X.env::(assignEach E X.env).map (·.2):=by rfl):WX X (e::E) (Ao t u):=by
 intro pins s σ H vs us Q I r h;obtain⟨v,j,g,h⟩:=h;subst g;cases r with
 |cons r b=>
  rw[c];refine assignInOrder_cons (zY (f pins s σ H _ _ _ I r h) λ_ s1 ⟨a,H1,i,q⟩=>?_);exact d pins s1 a H1 _ _ Q i b q
noncomputable def qU (K:Frag)(n:Nat)(t:QB):TG:=λv σ H Q=>∃a xs,v=.ref a/\qA K H a xs/\xs.length=n/\t xs σ H Q
def XM {E:bM}{k:Nat}{t:QB}(f:X.calm=true)(h:WX X E t)
  (hn:(assignEach E X.env).length=n:=by rfl)(c:(assignEach E X.env).findIdx? (·.1)=none:=by rfl):PG X (.Tuple E k pos) (qU X.K n t):=by
 intro pins s σ H v u Q I r hw;obtain⟨a,xs,g,q,l,hw⟩:=hw;subst g;cases r;obtain⟨i,d,ht,z⟩:=I.tuple q;refine assign_Tuple_tuple (I.ok.hd f) ht (by simp[hn,<- l,d.length]) c λh' x=>?_
 have j:Inv X pins σ H { s with heap:=h' }:=I.kept (t':=s.toks) λb o e=>x b o (aT (aI e)) e
 exact h pins _ σ H xs _ Q j (by simpa using d) hw
noncomputable def yy (to ti:TE)(t:Qr):TG:=λv σ H Q=>to σ H λo H1=>ti σ H1 λi a=>t o i v a λh=>Q σ h
def BI {o i:Expr}{to ti:TE}{t:Qr}(f:PE X o to)(g:PE X i ti)(e:Ww X t)
  (j:∀v,assign (.Subscript o i pos) X.env v=(do
   let ov <- holding [v] (eval o X.env)
   let iv <- holding [v,ov] (eval i X.env)
   standAt pos
   holding [v,ov,iv] (setItem ov iv v)
   release [v,ov,iv] []):=by intro _;rfl):PG X (.Subscript o i pos) (yy to ti t):=by
 intro pins s σ H v u Q I r h;rw[j];refine bU (wpAny_holding (zY (f pins s σ H _ I h) λov s1 ⟨x,H1,n,b,d⟩=>?_));refine bU (wpAny_holding (zY (g pins s1 σ H1 _ n d) λiv s2 ⟨y,w,m,a,c⟩=>?_));refine bU (wpAny_standAt (bU (wpAny_holding (zY (e pins s2 σ w x y v ov iv u _ m b a r c) λ_ s3 ⟨p,l,q⟩=>?_))));exact wpAny_release ⟨σ,p,l,q⟩
noncomputable def Wq (t:TE)(g:TG):TS:=λD σ H=>t σ H λx H1=>g x σ H1 D.nx
def P1 {t:TE}{g:TG}(he:PE X e t)(b:PG X tg g)(a:swapsWithSole [tg] e pos.line X.env=pure false:=by rfl)(hw:swappedStores [tg] e X.env=pure none:=by rfl)
  (c:(assignEach [tg] X.env).map (·.2)=[assign tg X.env]:=by rfl):PS X (.Assign [tg] e pos) (Wq t g):=by
 intro pins s σ H D I h;refine wpAny_Assign_stores (zY (he pins s σ H _ I h) λv s1 ⟨x,H1,i,r,Q⟩=>?_) a hw;rw[c];exact zY (b pins s1 σ H1 x v _ i r Q) λ_ s2 q=>q
def BX {t:TE}{pos':Pos}(d:X.N.Nodup)(c:X.N[i]? =some x)(a:Loc X.env.scope x)(he:PE X e t)(b:swapsWith e (some (.Name x pos')) pos.line X.env=pure false:=by rfl)(hf:X.fn x=true∨X.env.scope.names.lookup x=some .local:=by first|exact .inl rfl|exact .inr rfl|assumption):
  PS X (.Assign [.Name x pos'] e pos) (Wq t (Wb i)):=by
 intro pins s σ H D I h;refine wpAny_Assign_Name (zY (he pins s σ H _ I h) λv s1 ⟨y,H1,g,r,q⟩=>?_) b;exact Ks g d c a r (λs2 f=>⟨_,H1,f,q⟩) hf
noncomputable def cu (i j:Nat)(t:TA):TS:=λD σ H=>t σ H λvs H1=>∃v w,vs=[v,w]/\D.nx ((σ.set i (some v)).set j (some w)) H1
def CJ {j:Nat}{y:Str}{a b:Expr}{t:TA}{P py pt:Pos}{kt k2 pt2}(L:X.calm=true)(l:X.N.Nodup)(K:X.N[i]? =some x)(J:X.N[j]? =some y)(d:i≠j)
  (g:X.env.scope.names.lookup x=some .local)(f:X.env.scope.names.lookup y=some .local)(M:PA X [a,b] t)
  (hw:swappedStores [.Tuple [.Name x P,.Name y py] kt pt] (.Tuple [a,b] k2 pt2) X.env=pure (some [x,y]))
  (E:swapsWithSole [.Tuple [.Name x P,.Name y py] kt pt] (.Tuple [a,b] k2 pt2) pos.line X.env=pure false:=by rfl):
  PS X (.Assign [.Tuple [.Name x P,.Name y py] kt pt] (.Tuple [a,b] k2 pt2) pos) (cu i j t):=by
 intro pins s σ H D I h;rw[exec_Assign_arm];refine bU (wpAny_standAt ?_);rw[E];refine bU (bV ?_);rw[aj (by decide)]
 refine bU (Tuple_ (zY (M _ pins s σ H _ I h) λus s1 ⟨vs,H1,I1,z,Q⟩=>?_));obtain⟨v,w,S,Q⟩:=Q;subst S;obtain⟨U,u,rfl,n,r⟩:∃U u,us=[U,u]/\RelV v U/\RelV w u:=by
  cases z with
  |cons p q=>
   cases q with
   |cons C B=>
    cases B;exact⟨_,_,rfl,p,C⟩
 refine wpAny_newObj_type ?_ (by show 2<=sizeLine;decide)
 have Z:Inv X pins σ H1 { s1 with heap:=s1.heap.push { cls:=.type "tuple",data:=.seq [U,u].toArray } }:=I1.kept (t':=s1.toks) λb o e=>af _ e
 rw[hw];refine bU (bV ?_);show wpAny (model X.prog X.w) X.A (do rule "assign.swapped-stores";let items <- unpackItems (.ref s1.heap.objs.size) 2 none;assignInOrder [λv=>bindName X.env y v,λv=>bindName X.env x v] items.reverse;pure Flow.next) _ _ _
 refine bU (wpAny_rule (bU (unpackItems_tuple (items:=#[U,u]) (I.ok.hd L) (IsTup.new s1.heap _) λh' c=>?_)));have Y:=Z.kept (h':=h') (t':=s1.toks) λb o e=>c b o (aT (aI e)) e;show wpAny _ _ (assignInOrder [λv=>bindName X.env y v,λv=>bindName X.env x v] [u,U] >>= λ_=>pure Flow.next) _ _ _;refine bU (assignInOrder_cons (wpAny_bindName (Ks Y l J (.inl f) r (λs2 T=>?_) (.inr f))));refine assignInOrder_cons (wpAny_bindName (Ks T l K (.inl g) n (λs3 m=>assignInOrder_nil (bV ?_)) (.inr g)));rw[List.set_comm _ _ (Ne.symm d)]at m;exact⟨_,H1,m,Q⟩
noncomputable def cw (to ti e:TE)(T:V->V->Hp->VK->Prop)(p:W3)(t:Qr):TS:=λD σ H=>to σ H λo H1=>ti σ H1 λi d=>T o i d λx c=>e σ c λy b=>p x y b λz a=>t o i z a λh=>D.nx σ h
def Nf (X:Cx)(t:V->V->Hp->VK->Prop):Prop:=
 ∀(pins:bI)(s:Shared)(σ:St)(H:Hp)(o i:V)(v I:Value)(Q:VK),Inv X pins σ H s->RelV o v->RelV i I->t o i H Q->
  wpAny (model X.prog X.w) X.A (getItem v I) (EP X pins σ Q) X.xe s
def Di {o i:Expr}{to ti c:TE}{T:V->V->Hp->VK->Prop}{p:W3}{t:Qr}{op:Operator}(y:PE X o to)(z:PE X i ti)(A:Nf X T)(he:PE X e c)(x:NH X op p)(w:Ww X t)
  (B:∀a b new,augStore i a b new=(do holding [new,a,b] (setItem a b new);release [new,a,b] [];pure .next):=by intros;rfl):PS X (.AugAssign (.Subscript o i tpos) op e pos) (cw to ti c T p t):=by
 intro pins s σ H D I h;refine wpAny_AugAssign_SubscriptAny (zY (y pins s σ H _ I h) λa s1 ⟨x1,H1,M,d,u⟩=>?_) B;refine zY (z pins s1 σ H1 _ M u) λb s2 ⟨x2,Y,L,r,n⟩=>?_;refine zY (A pins s2 σ Y x1 x2 a b _ L d r n) λold s3 ⟨x3,U,K,j,m⟩=>?_;refine zY (he pins s3 σ U _ K m) λv s4 ⟨x4,S,J,g,l⟩=>?_;refine zY (x pins s4 σ S x3 x4 old v _ J j g l) λnew s5 ⟨x5,P,E,f,Q⟩=>?_;exact zY (w pins s5 σ P x1 x2 x5 a b new _ E d r f Q) λ_ Z ⟨N,C,q⟩=>⟨σ,N,C,q⟩
noncomputable def cx (f:Int->Int->Int):W3:=λx y H Q=>∃i j,x=.int i/\y=.int j/\Q (.int (f i j)) H
def BJ:NH X .Add (cx λi j=>i+j):=by
 intro pins s σ H x y v u Q I a r h;obtain⟨i,j,E,e,q⟩:=h;subst E;subst e;obtain⟨t,rfl⟩:=a;obtain⟨t',rfl⟩:=r;exact iadd_int ⟨.int _,H,I.tok _,⟨_,rfl⟩,q⟩
def BB (c:TT)(tb:TS):TS:=λD σ H=>∃W:Nat->St->Hp->Prop,(∃m,W m σ H)/\∀m σ H,W m σ H->
 c σ H λb H1=>if b=true then ∃N:St->Hp->Prop,(∀a h,N a h->∃M,M<m/\W M a h)/\tb { D with nx:=N,ct:=N,bk:=D.nx } σ H1 else D.nx σ H1
def Fs {c:Expr}{t:TT}{tb:TS}(p:PassesOwn (model X.prog X.w) X.A X.env X.xe)(z:PT X c t)(B:yU X body tb):PS X (.While c body [] pos) (BB t tb):=by
 intro pins s σ H D I h;obtain⟨W,⟨m0,y⟩,turn⟩:=h;refine wpAny_While (codeAny_whileLoop (λn S=>∃e u,Inv X pins e u S/\W n e u) ?_ m0 ⟨σ,H,I,y⟩)
 rintro n s1 ⟨d,H1,C,x⟩
 refine wpAny_passesOwn p (zY (z pins s1 d H1 _ C (turn n d H1 x)) λb s2 ⟨r,o,Q⟩=>?_);cases b with
 |true=>
  obtain⟨N,l,Q⟩:=Q;rw[ag rfl];refine wpAny_passesOwn p (zY (B pins s2 d r _ o Q) λf s3 q=>?_);cases f with
  |next=>
   obtain⟨a,g,j,n3⟩:=q;obtain⟨m,hm,i⟩:=l a g n3;exact⟨m,hm,a,g,j,i⟩
  |cont=>
   obtain⟨a,g,j,n3⟩:=q;obtain⟨m,hm,i⟩:=l a g n3;exact⟨m,hm,a,g,j,i⟩
  |brk=>exact q|ret v=>exact q
 |false=>
  rw[aj ay];exact wpAny_execs_nil ⟨d,r,o,Q⟩
end
structure It where
 go:Nat->Hp->Prop
 yld:Nat->Hp->V->Hp->Prop
 stop:Nat->Hp->Prop
def kz (X:Cx)(pins:bI)(H:Hp)(b:Addr):Prop:=
 H b=none/\b≠X.env.locals/\b∉X.fs/\(b∈X.ex∨X.s0.heap.objs.size<=b)/\(∀x c,X.env.cells.lookup x=some c->c≠b)/\∀p∈X.pn++pins,p.1≠b
def Inv.fpOk {X:Cx}{σ:St}{H a:Hp}(I:Inv X pins σ H s)(h:s.heap.objs.size<=b)(hn:a b=none):kz X pins a b:=by
 refine⟨hn,ne_of_gt (aH I.lt h),I.nofs h,.inr (a7 I.sz h),λx c e z=>?_,λp d z=>?_⟩
 ·obtain⟨v,q⟩:=I.cell x c e
  exact absurd (aH q.lt (by rw[z];exact h)) (aW _)
 ·exact absurd (aH (aI (I.pin p d).1) (by rw[z];exact h)) (aW _)
structure Turn (P:Program)(w:World)(K:Frag)(tg:Expr)(J:It)(fp:bH)(it:Addr)(tn:Nat->Heap->Prop):Prop where
 mem:it∈fp
 obj:∀i h,tn i h->∀b∈fp,∃o,h.get? b=some o/\∀v,o.data≠.cell v
 keep:∀i h h',tn i h->(∀b∈fp,∀o,h.get? b=some o->h'.get? b=some o)->tn i h'
 item:∀(X:Cx),X.prog=P->X.w=w->X.K=K->X.calm=true->∀(i:Nat)(pins:bI)(s:Shared)(σ:St)(H:Hp)(E:bL),Inv X pins σ H s->(∀b∈fp,kz X pins H b)->tn i s.heap->J.go i H->
  wpAny (model P w) X.A (pyNext (.ref it)) (λr s1=>∃u,r=some u/\
   wpAny (model P w) X.A (letOwnedTupleGo tg (.ref it) u) (λ_ s2=>∃x H',Inv X pins σ H' s2/\RelV x u/\J.yld i H x H'/\tn (i+1) s2.heap/\∀b∈fp,H' b=none) E s1) E s
 done:∀(X:Cx),X.prog=P->X.w=w->X.K=K->X.calm=true->∀(i:Nat)(pins:bI)(s:Shared)(σ:St)(H:Hp)(E:bL),Inv X pins σ H s->(∀b∈fp,kz X pins H b)->tn i s.heap->J.stop i H->
  wpAny (model P w) X.A (pyNext (.ref it)) (λr s1=>r=none/\Inv X pins σ H s1) E s
 self:∀(A:Around)(i:Nat)(s:Shared)(Q:bL)(E:bL),tn i s.heap->Q (.ref it) s->wpAny (model P w) A (pyIter (.ref it)) Q E s
abbrev TI:=St->Hp->(It->Hp->Prop)->Prop
inductive Nw (X:Cx)(pins:bI)(σ:St)(tg:Expr)(R:It->Hp->Prop)(itv:Value)(s2:Shared):Prop
 |mk (it:Addr) (fp:bH) (tn:Nat->Heap->Prop) (J:It) (H':Hp) (e:itv=.ref it) (I:Inv X pins σ H' s2) (T:Turn X.prog X.w X.K tg J fp it tn) (t0:tn 0 s2.heap) (f:(∀b∈fp,kz X pins H' b)) (q:R J H')
def PI (X:Cx)(t iter:Expr)(i:TI):Prop:=
 ∀(pins:bI)(s:Shared)(σ:St)(H:Hp)(R:It->Hp->Prop),Inv X pins σ H s->i σ H R->
  wpAny (model X.prog X.w) X.A (eval iter X.env) (λv s1=>wpAny (model X.prog X.w) X.A (pyIter v) (Nw X pins σ t R) X.xe s1) X.xe s
def K9 {M:Model}{A:Around}{it:Addr}{o:Obj}{n:String}{vs:Array Value}{Q:Unit->Shared->Prop}(a:s.heap.get? it=some o)(c:o.cls=.type n)(hd:o.data=.fields vs)
  (hn:["enumerate","zip","dict_itemiterator","dict_reverseitemiterator","odict_iterator","itertools.zip_longest","itertools.pairwise"].contains n=false)(H:Q () s):wpAny M A (letOwnedTupleGo tg (.ref it) u) Q E s:=by
 unfold letOwnedTupleGo;cases tg<;>first
  |exact bV H
  |(cases u<;>first
    |exact bV H
    |(
      refine bU (wpAny_load a ?_);rw[c,hd];show wpAny M A (if (["enumerate","zip","dict_itemiterator","dict_reverseitemiterator","odict_iterator","itertools.zip_longest","itertools.pairwise"].contains n&&vs[0]?==some (rawInt _))=true then _ else _) Q E s;rw[aj (by intro h;rw[hn,Bool.false_and]at h;cases h)]
      exact bV H))
noncomputable def NG (K:Frag)(a:Addr):It:=
 ⟨λi H=>∃xs x,qV K H a xs/\xs[i]? =some x,λi H x h=>h=H/\∀xs,qV K H a xs->xs[i]? =some x,λi H=>∃xs,qV K H a xs/\xs.length<=i⟩
noncomputable def NI (K:Frag)(a:Addr):It:=
 ⟨λi H=>∃xs x,qA K H a xs/\xs[i]? =some x,λi H x h=>h=H/\∀xs,qA K H a xs->xs[i]? =some x,λi H=>∃xs,qA K H a xs/\xs.length<=i⟩
noncomputable def YL (lo:Int)(n:Nat):It:=⟨λi _=>i<n,λi H x h=>h=H/\x=.int (lo+i),λi _=>n<=i⟩
def Hm {K:Frag}(a it:Addr):Turn P w K tg (NG K a) [it] it (λi h=>h.IsListIter it a i) where
 mem:=by simp
 obj:=λi h st b f=>by
  have e:b=it:=by simpa using f
  subst e;obtain⟨o,e,c,d⟩:=st;exact⟨o,e,λv z=>by rw[d]at z;cases z⟩
 keep:=λi h h' st k=>st.at λo e=>k it (by simp) o e
 item:=by
  intro X m hw n A i pins s σ H E I hf st l;subst m hw n;obtain⟨xs,x,q,j⟩:=l;obtain⟨g,r,p,D⟩:=I.list q;obtain⟨u,L,C⟩:=r.get j;obtain⟨f0,f1,f2,y,f4,t⟩:=hf it (by simp)
  refine wpAny_pyNext_list_item st p.isList (x:=u) (by simpa using L) λh' S B=>?_
  have N:Inv X pins σ H { s with heap:=h' }:=I.turned (t':=s.toks) (λb o f e=>(B.2 b f).trans e) f0 f1 y f4 t
  obtain⟨o,e,c,d⟩:=id S;exact⟨u,rfl,K9 (s:={ s with heap:=h' }) e c d (by decide) ⟨x,H,N,C,⟨rfl,λY J=>by rw[I.list_inj J q];exact j⟩,S,λb f=>(hf b f).1⟩⟩
 done:=by
  intro X m hw n A i pins s σ H E I hf st l;subst m hw n;obtain⟨xs,q,j⟩:=l;obtain⟨g,r,p,D⟩:=I.list q;obtain⟨f0,f1,f2,y,f4,t⟩:=hf it (by simp)
  have Q:=r.length;exact wpAny_pyNext_list_end (I.ok.hd A) st p.isList (by simp;omega) λh' M=>⟨rfl,I.turned (t':=s.toks) (λb o f e=>M b o f e) f0 f1 y f4 t⟩
 self:=λ_ _ _ _ _ st h=>wpAny_pyIter_listiter st h
def ID {K:Frag}(a it:Addr):Turn P w K tg (NI K a) [it] it (λi h=>h.IsTupleIter it a i) where
 mem:=by simp
 obj:=λi h st b g=>by
  have e:b=it:=by simpa using g
  subst e;obtain⟨o,e,c,d⟩:=st;exact⟨o,e,λv z=>by rw[d]at z;cases z⟩
 keep:=λi h h' st k=>st.at λo e=>k it (by simp) o e
 item:=by
  intro X m hw n A i pins s σ H E I hf st l;subst m hw n;obtain⟨xs,x,q,j⟩:=l;obtain⟨f,r,p,D⟩:=I.tuple q;obtain⟨u,L,C⟩:=r.get j;obtain⟨f0,f1,f2,y,f4,t⟩:=hf it (by simp)
  refine wpAny_pyNext_tuple_item st (show s.heap.IsTuple a f.toArray from p) (x:=u) (by simpa using L) λh' S B=>?_
  have N:Inv X pins σ H { s with heap:=h' }:=I.turned (t':=s.toks) (λb o g e=>(B.2 b g).trans e) f0 f1 y f4 t
  obtain⟨o,e,c,d⟩:=id S;exact⟨u,rfl,K9 (s:={ s with heap:=h' }) e c d (by decide) ⟨x,H,N,C,⟨rfl,λY J=>by rw[I.tuple_inj J q];exact j⟩,S,λb g=>(hf b g).1⟩⟩
 done:=by
  intro X m hw n A i pins s σ H E I hf st l;subst m hw n;obtain⟨xs,q,j⟩:=l;obtain⟨f,r,p,D⟩:=I.tuple q;obtain⟨f0,f1,f2,y,f4,t⟩:=hf it (by simp)
  have Q:=r.length;exact wpAny_pyNext_tuple_end (I.ok.hd A) st (show s.heap.IsTuple a f.toArray from p) (by simp;omega) λh' M=>⟨rfl,I.turned (t':=s.toks) (λb o g e=>M b o g e) f0 f1 y f4 t⟩
 self:=λ_ _ _ _ _ st h=>wpAny_pyIter_tupleiter st h
def Ij {K:Frag}(it:Addr)(lo:Int)(n:Nat):Turn P w K tg (YL lo n) [it] it (λi h=>IsRangeIter h it (lo+(i:Nat) * 1) ((n:Int)-(i:Nat)) 1) where
 mem:=by simp
 obj:=λi h st b a=>by
  have e:b=it:=by simpa using a
  subst e;exact⟨_,st,λv z=>by
   have Z:Data.fields _=Data.cell v:=z;cases Z⟩
 keep:=λi h h' st k=>k it (by simp) _ st
 item:=by
  intro X d hw f c i pins s σ H E I hf st g;subst d hw f;obtain⟨f0,f1,f2,l,f4,j⟩:=hf it (by simp)
  have W:=Walks.range (prog:=X.prog) (w:=X.w) (I.ok.hd c) it lo 1 n;refine W.item i s _ _ g st λv h' T p S m=>?_;obtain⟨t,rfl⟩:=p;have r:Inv X pins σ H { s with heap:=h',toks:=T }:=I.turned (λb o a e=>m b o (by simpa using a) e) f0 f1 l f4 j
  refine⟨_,rfl,K9 (s:={ s with heap:=h',toks:=T }) (n := "range_iterator") S rfl rfl (by decide) ⟨.int (lo+i),H,r,⟨t,?_⟩,⟨rfl,rfl⟩,S,λb a=>(hf b a).1⟩⟩
  rw[Int.mul_one]
 done:=by
  intro X d hw f c i pins s σ H E I hf st g;subst d hw f;obtain⟨f0,f1,f2,l,f4,j⟩:=hf it (by simp)
  exact wpAny_pyNext_range_end (I.ok.hd c) st (by have:n<=i:=g;omega) λh' q=>⟨rfl,I.turned (t':=s.toks) (λb o a e=>q b o a e) f0 f1 l f4 j⟩
 self:=λ_ _ _ _ _ st h=>wpAny_pyIter_rangeiter st h
section
variable {X:Cx}
def RL {σ:St}{H:Hp}{R:It->Hp->Prop}{lo h:Int}{t u v:Tok}{T:Nat}(I:Inv X pins σ H s)(g:-(2 ^ 62)<=lo)(f:lo<2 ^ 62)(d:-(2 ^ 62)<=h)(c:h<2 ^ 62)
  (q:R (YL lo (h-lo).toNat) H):wpAny (model X.prog X.w) X.A (pyIter (.ref s.heap.objs.size)) (Nw X pins σ tg R) E { s with heap:=s.heap.push { cls:=.type "range",data:=.fields #[.int lo t,.int h u,.int 1 v] },toks:=T }:=by
 refine wpAny_pyIter_range (IsRange.new ..) (small_one g f d c) ?_;have i:Inv X pins σ H { s with heap:=s.heap.push { cls:=.type "range",data:=.fields #[.int lo t,.int h u,.int 1 v] },toks:=T }:=I.kept λb o e=>af _ e
 refine⟨(s.heap.push { cls:=.type "range",data:=.fields #[.int lo t,.int h u,.int 1 v] }).objs.size,[(s.heap.push { cls:=.type "range",data:=.fields #[.int lo t,.int h u,.int 1 v] }).objs.size],_,_,H,rfl,
  i.kept (t':=T) λb o e=>af _ e,Ij _ lo (h-lo).toNat,?_,λb a=>?_,q⟩
 ·have l:lo+((0:Nat):Int) * 1=lo:=by simp
  have j:(((h-lo).toNat:Nat):Int)-((0:Nat):Int)=Builtin.Range.rangeSize lo h 1:=by rw[rangeSize_one];split<;>omega
  show IsRangeIter _ _ (lo+((0:Nat):Int) * 1) ((((h-lo).toNat:Nat):Int)-((0:Nat):Int)) 1;rw[l,j];exact aA _ rfl
 ·have e:b=(s.heap.push { cls:=.type "range",data:=.fields #[.int lo t,.int h u,.int 1 v] }).objs.size:=by simpa using a
  subst e;exact i.fpOk (ao _) (i.hok.fresh (ao _))
def cy (t:TA):TI:=λσ H R=>t σ H λvs H1=>∃j:Int,vs=[.int j]/\-(2 ^ 62)<=j/\j<2 ^ 62/\R (YL 0 j.toNat) H1
def cz (t:TA):TI:=λσ H R=>t σ H λvs H1=>∃i j:Int,vs=[.int i,.int j]/\(-(2 ^ 62)<=i/\i<2 ^ 62/\-(2 ^ 62)<=j/\j<2 ^ 62)/\R (YL i (j-i).toNat) H1
def HN {a:Expr}{T:TA}(g:Gl X "range")(hm:X.mg "range"=none)(i:PA X [a] T)(f:starEach [a] X.env=[(false,eval a X.env)]:=by rfl):PI X tg (.Call (.Name "range" p) [a] [] pos) (cy T):=by
 intro pins s σ H R I h;refine Call_ (gM I g hm boot_range (PyProof.Rows.callWith_type1 (zY (i pos pins s σ H _ I h) λus s1 ⟨vs,H1,l,c,Q⟩=>?_) f rfl));obtain⟨j,e,Q,d,q⟩:=Q;subst e;cases c with
 |cons r b=>
  cases b;obtain⟨t,rfl⟩:=r;exact call_range_1 (RL l (by omega) (by omega) Q d (by simpa using q))
def HP {a b:Expr}{T:TA}(u:Gl X "range")(hm:X.mg "range"=none)(v:PA X [a,b] T)(o:starEach [a,b] X.env=[(false,eval a X.env),(false,eval b X.env)]:=by rfl)(c:starEach [b] X.env=[(false,eval b X.env)]:=by rfl):
  PI X tg (.Call (.Name "range" p) [a,b] [] pos) (cz T):=by
 intro pins s σ H R I h;refine Call_ (gM I u hm boot_range (PyProof.Rows.callWith_type1 (zY (v pos pins s σ H _ I h) λus s1 ⟨vs,H1,w,f,Q⟩=>?_) (by rw[o,c]) (by rw[c];rfl)))
 obtain⟨i,j,e,⟨Q,n,m,l⟩,q⟩:=Q;subst e;cases f with
 |cons r d=>
  cases d with
  |cons g d=>
   cases d;obtain⟨t,rfl⟩:=r;obtain⟨t',rfl⟩:=g;exact call_range_2 (RL w Q n m l q)
def cA (w:TI)(g:TG)(tb:TS):TS:=λD σ H=>w σ H λJ H1=>∃W:Nat->Nat->St->Hp->Prop,(∃m,W 0 m σ H1)/\∀i m σ H,W i m σ H->
 (J.stop i H/\D.nx σ H)∨(J.go i H/\∃N:St->Hp->Prop,(∀a h,N a h->∃M,M<m/\W (i+1) M a h)/\∀x h,J.yld i H x h->g x σ h λb c=>tb { D with nx:=N,ct:=N,bk:=D.nx } b c)
noncomputable def Yl (fp:bH)(h:Heap):bI:=fp.filterMap λb=>(h.get? b).map λo=>(b,o)
def Kj {o:Obj}(H:b∈fp)(e:h.get? b=some o):(b,o)∈Yl fp h:=List.mem_filterMap.mpr ⟨b,H,by rw[e];rfl⟩
def HL {p:Addr×Obj}(H:p∈Yl fp h):p.1∈fp/\h.get? p.1=some p.2:=by
 obtain⟨b,a,e⟩:=List.mem_filterMap.mp H;cases q:h.get? b with
 |none=>rw[q]at e;cases e|some o=>
  rw[q]at e;have E:(b,o)=p:=aD e;subst E;exact⟨a,q⟩
def Inv.pinned {σ:St}{H:Hp}(I:Inv X pins σ H s)(hf:∀b∈fp,kz X pins H b)(c:∀b∈fp,∃o,s.heap.get? b=some o/\∀v,o.data≠.cell v):Inv X (pins++Yl fp s.heap) σ H s:=
 I.pins_of λp a=>(List.mem_append.mp a).elim (λz=>I.pin p (aN _ z)) λz=>by
  obtain⟨h,e⟩:=HL z;obtain⟨f0,f1,f2,_⟩:=hf p.1 h;obtain⟨o,E,d⟩:=c p.1 h;rw[e]at E;cases E;exact⟨e,f0,f1,f2,d⟩
def Inv.unpinned {P:bI}{σ:St}{H:Hp}(I:Inv X (pins++P) σ H s):Inv X pins σ H s:=I.pins_of λp h=>I.pin p (aN _ (a0 _ h))
def Bf {iter:Expr}{U:TI}{g:TG}{tb:TS}(z:PassesOwn (model X.prog X.w) X.A X.env X.xe)(hc:X.calm=true)(hi:PI X tg iter U)(hg:PG X tg g)(l:yU X body tb)
  (hs:∀x,foldedSetIterable iter X.env x=pure x:=by intro _;rfl):PS X (.For tg iter body [] pos) (cA U g tb):=by
 intro pins s σ H D I h;refine wpAny_For (zY (hi pins s σ H _ I h) λv s1 h1=>zY h1 λitv s2 h2=>?_) hs;obtain⟨it,fp,Y,J,H2,e,I2,T,wH,f2,W,⟨m0,w0⟩,turn⟩:=h2;subst e;have S:∀{H':Hp},(∀b∈fp,H' b=none)->∀b∈fp,kz X pins H' b:=λhn b l=>⟨hn b l,(f2 b l).2⟩;refine codeAny_forLoop_any (λn Z=>∃i j H',Inv X pins j H' Z/\Y i Z.heap/\(∀b∈fp,H' b=none)/\W i n j H') ?_ m0 ⟨0,σ,H2,I2,wH,λb l=>(f2 b l).1,w0⟩
 rintro n s3 ⟨i,c,C,I3,w8,B,w3⟩
 rcases turn i n c C w3 with ⟨stop,qn⟩|⟨go,N,hN,step⟩
 ·refine wpAny_passesOwn z (zY (T.done X rfl rfl rfl hc i pins s3 c C X.xe I3 (S B) w8 stop) λr s4 ⟨L,I4⟩=>?_)
  subst L;exact wpAny_execs_nil ⟨c,C,I4,qn⟩
 ·refine wpAny_passesOwn z (zY (T.item X rfl rfl rfl hc i pins s3 c C X.xe I3 (S B) w8 go) λr s4 ⟨u,L,h4⟩=>?_)
  subst L;refine wpAny_passesOwn z (zY h4 λ_ s5 ⟨x,H5,I5,r5,y5,t,M⟩=>?_);have P:=I5.pinned (S M) (T.obj _ _ t);refine wpAny_passesOwn z (zY (hg _ s5 c H5 x u _ P r5 (step x H5 y5)) λ_ s6 ⟨E,H6,I6,q6⟩=>?_);refine wpAny_passesOwn z (zY (l _ s6 E H6 _ I6 q6) λf K Q=>?_);have again:∀{a:St}{q:Hp},Inv X (pins++Yl fp s5.heap) a q K->N a q->∃m,m<n/\∃i j H',Inv X pins j H' K/\Y i K.heap/\(∀b∈fp,H' b=none)/\W i m j H':=λ {a q} p y=>by
   obtain⟨m',hm,w7⟩:=hN a q y;refine⟨m',hm,i+1,a,q,p.unpinned,T.keep _ _ _ t λb l o e=>(p.pin (b,o) (aN _ (aN _ (Kj l e)))).1,λb l=>?_,w7⟩;obtain⟨o,e,d⟩:=T.obj _ _ t b l;exact(p.pin (b,o) (aN _ (aN _ (Kj l e)))).2.1
  cases f with
  |next=>obtain⟨a,q,p,y⟩:=Q;exact again p y|cont=>obtain⟨a,q,p,y⟩:=Q;exact again p y|brk=>obtain⟨a,q,p,Q⟩:=Q;exact⟨a,q,p.unpinned,Q⟩|ret v=>obtain⟨x7,a,q,p,r7,Q⟩:=Q;exact⟨x7,a,q,p.unpinned,r7,Q⟩
end
abbrev R2:=V->V->Hp->VK->Prop
def qP (X:Cx)(f:Value->Value->Sem Value)(r:R2):Prop:=
 ∀(pins:bI)(s:Shared)(σ:St)(H:Hp)(x y:V)(v u:Value)(Q:VK),Inv X pins σ H s->RelV x v->RelV y u->r x y H Q->
  wpAny (model X.prog X.w) X.A (f v u) (EP X pins σ Q) X.xe s
def WY (X:Cx)(f:Value->Sem Value)(r:V->Hp->VK->Prop):Prop:=
 ∀(pins:bI)(s:Shared)(σ:St)(H:Hp)(x:V)(v:Value)(Q:VK),Inv X pins σ H s->RelV x v->r x H Q->
  wpAny (model X.prog X.w) X.A (f v) (EP X pins σ Q) X.xe s
def yv (X:Cx)(f:Value)(r:List V->Hp->VK->Prop):Prop:=
 ∀(pins:bI)(s:Shared)(σ:St)(H:Hp)(xs:List V)(us:bG)(Q:VK),Inv X pins σ H s->Vals xs us->r xs H Q->
  wpAny (model X.prog X.w) X.A (call f us) (EP X pins σ Q) X.xe s
noncomputable def YE (r:R2)(t tb:TE):TE:=λσ H Q=>t σ H λx H1=>tb σ H1 λy h=>r x y h Q
noncomputable def Nn (r:V->Hp->VK->Prop)(t:TE):TE:=λσ H Q=>t σ H λx H1=>r x H1 Q
noncomputable def rI (C:Int->Int->Prop)(g:Int->Int->V):R2:=λx y H Q=>∃i j,x=.int i/\y=.int j/\C i j/\Q (g i j) H
noncomputable def wF (g:Int->Int->V):R2:=λx y H Q=>∃i j,x=.int i/\y=.int j/\Q (g i j) H
noncomputable def rU (g:Int->V):V->Hp->VK->Prop:=λx H Q=>∃i,x=.int i/\Q (g i) H
section
variable {X:Cx}{a b:Expr}{ta tb:TE}
def Vg (j:PE X a ta)(i:PE X b tb){σ:St}{H:Hp}{R:V->V->Hp->Prop}(I:Inv X pins σ H s)
  (h:ta σ H λx H1=>tb σ H1 λy c=>R x y c)
  (hf:∀v u s2 x y c,Inv X pins σ c s2->RelV x v->RelV y u->R x y c->wpAny (model X.prog X.w) X.A (f v u) Q X.xe s2):
  wpAny (model X.prog X.w) X.A (eval a X.env) (λv d=>wpAny (model X.prog X.w) X.A (eval b X.env) (λu S=>wpAny (model X.prog X.w) X.A (f v u) Q X.xe S) X.xe d) X.xe s:=by
 refine zY (j pins s σ H _ I h) λv s1 ⟨x,H1,m,e,g⟩=>?_;refine zY (i pins s1 σ H1 _ m g) λu s2 ⟨y,c,l,r,q⟩=>?_;exact hf v u s2 x y c l e r q
def AO {op:Operator}{r:R2}(o:qP X (binaryOp op) r)(f:PE X a ta)(e:PE X b tb):PE X (.BinOp a op b pos) (YE r ta tb):=by
 intro pins s σ H Q I h;exact wpAny_BinOp (Vg f e I h λv u s2 x y g i d c q=>o pins s2 σ g x y v u Q i d c q)
def OJ {op:UnaryOp}{r:V->Hp->VK->Prop}(o:WY X (unaryOp op) r)(c:PE X a ta):PE X (.UnaryOp op a pos) (Nn r ta):=by
 intro pins s σ H Q I h;exact UnaryOp_ (zY (c pins s σ H _ I h) λv s1 ⟨x,H1,i,b,q⟩=>o pins s1 σ H1 x v Q i b q)
def Jx {C:Int->Int->Prop}{g:Int->Int->Int}
  (rule:∀(i j:Int)(t u:Tok)(s:Shared)(Q:bL)(E:bL),C i j->Q (.int (g i j) s.toks) { s with toks:=s.toks+1 }->wpAny (model X.prog X.w) X.A (f (.int i t) (.int j u)) Q E s):
  qP X f (rI C λi j=>.int (g i j)):=by
 intro pins s σ H x y v u Q I a r h;obtain⟨i,j,rfl,rfl,c,q⟩:=h;obtain⟨t,rfl⟩:=a;obtain⟨t',rfl⟩:=r;exact rule i j t t' s _ _ c ⟨.int (g i j),H,I.tok _,⟨_,rfl⟩,q⟩
def Wx {g:Int->Int->Int}
  (rule:∀(i j:Int)(t u:Tok)(s:Shared)(Q:bL)(E:bL),Q (.int (g i j) s.toks) { s with toks:=s.toks+1 }->wpAny (model X.prog X.w) X.A (f (.int i t) (.int j u)) Q E s):
  qP X f (wF λi j=>.int (g i j)):=by
 intro pins s σ H x y v u Q I a r h;obtain⟨i,j,rfl,rfl,q⟩:=h;obtain⟨t,rfl⟩:=a;obtain⟨t',rfl⟩:=r;exact rule i j t t' s _ _ ⟨.int (g i j),H,I.tok _,⟨_,rfl⟩,q⟩
def WC {g:Int->Int->Bool}
  (rule:∀(i j:Int)(t u:Tok)(s:Shared)(Q:bL)(E:bL),Q (.bool (g i j)) s->wpAny (model X.prog X.w) X.A (f (.int i t) (.int j u)) Q E s):
  qP X f (wF λi j=>.bl (g i j)):=by
 intro pins s σ H x y v u Q I a r h;obtain⟨i,j,rfl,rfl,q⟩:=h;obtain⟨t,rfl⟩:=a;obtain⟨t',rfl⟩:=r;exact rule i j t t' s _ _ ⟨.bl (g i j),H,I,rfl,q⟩
def Vn (i j:Int):Prop:=0<=j/\j<=1000000/\i.natAbs<2 ^ 64
def Yy (i j:Int):Prop:=(-(2 ^ 64)<i/\i<2 ^ 64)∨(-(2 ^ 64)<j/\j<2 ^ 64)
def Yy.ok {i j:Int}(h:Yy i j):IntMulOk i j:=by
 rcases h with ⟨a,H⟩|⟨a,H⟩
 ·exact .of_left (intBits_le_64 a H)
 ·exact .of_right (intBits_le_64 a H)
def two_pow_nn (k:Nat):(0:Int)<=2 ^ k:=by
 rw[two_pow_cast];exact Int.natCast_nonneg _
def CG:qP X (binaryOp .Add) (wF λi j=>.int (i+j)):=Wx λ_ _ _ _ _ _ _ q=>add_int q
def CP:qP X (binaryOp .Sub) (wF λi j=>.int (i-j)):=Wx λ_ _ _ _ _ _ _ q=>sub_int q
def CI:qP X (binaryOp .Mult) (rI Yy λi j=>.int (i * j)):=Jx λ_ _ _ _ _ _ _ h q=>mul_int q h.ok
def CB:qP X (binaryOp .Mod) (rI (λ_ j=>0<j) λi j=>.int (i%j)):=Jx λi j _ _ _ _ _ h q=>by
 have H:(0:Int)<j:=h;exact mod_int' (by omega) (by rw[Int.fmod_eq_emod_of_nonneg i (by omega)];exact q)
def BQ:qP X (binaryOp .Pow) (rI Vn λi j=>.int (i ^ j.toNat)):=Jx λ_ _ _ _ _ _ _ h q=>pow_int_small h.1 h.2.1 h.2.2 q
def CF:qP X (binaryOp .LShift) (rI Vn λi j=>.int (i * 2 ^ j.toNat)):=Jx λ_ _ _ _ _ _ _ h q=>lshift_int_small h.1 h.2.1 h.2.2 q
def C6:qP X (binaryOp .RShift) (rI (λ_ j=>0<=j) λi j=>.int (i/2 ^ j.toNat)):=Jx λi j _ _ _ _ _ h q=>
 rshift_int h (by rw[Int.fdiv_eq_ediv_of_nonneg i (two_pow_nn _)];exact q)
def BG:qP X (binaryOp .BitAnd) (wF λi j=>.int (Builtin.bitAnd i j)):=Wx λ_ _ _ _ _ _ _ q=>and_int q
def BA:qP X (binaryOp .BitXor) (wF λi j=>.int (Builtin.bitXor i j)):=Wx λ_ _ _ _ _ _ _ q=>xor_int q
def cB {f:Value->Sem Value}{g:Int->Int}
  (rule:∀(i:Int)(t:Tok)(s:Shared)(Q:bL)(E:bL),Q (.int (g i) s.toks) { s with toks:=s.toks+1 }->wpAny (model X.prog X.w) X.A (f (.int i t)) Q E s):
  WY X f (rU λi=>.int (g i)):=by
 intro pins s σ H x v Q I r h;obtain⟨i,rfl,q⟩:=h;obtain⟨t,rfl⟩:=r;exact rule i t s _ _ ⟨.int (g i),H,I.tok _,⟨_,rfl⟩,q⟩
def Ou:WY X (unaryOp .USub) (rU λi=>.int (-i)):=cB λ_ _ _ _ _ q=>neg_int q
variable {c:Expr}{tc:TE}
def BW {σ:St}{H:Hp}{Q:VK}{k K:Bool}(I:Inv X pins σ H s)(q:Q (.bl k) H)(e:k=K):EP X pins σ Q (.bool K) s:=by
 subst e;exact⟨.bl k,H,I,rfl,q⟩
def cC:qP X (compareOp .Lt) (wF λi j=>.bl (decide (i<j))):=WC λ_ _ _ _ _ _ _ q=>lt_int q
def cD:qP X (compareOp .LtE) (wF λi j=>.bl (decide (i<=j))):=WC λ_ _ _ _ _ _ _ q=>le_int q
def AU:qP X (compareOp .Gt) (wF λi j=>.bl (decide (j<i))):=WC λ_ _ _ _ _ _ _ q=>gt_int q
def cE:qP X (compareOp .GtE) (wF λi j=>.bl (decide (j<=i))):=WC λ_ _ _ _ _ _ _ q=>ge_int q
def Dw:qP X (compareOp .IsNot) (λx y H Q=>y=.non/\Q (.bl (!decide (x=.non))) H):=by
 intro pins s σ H x y v u Q I r a h;obtain⟨rfl,q⟩:=h;cases a;refine isnot_none_gen (BW I q ?_);cases x<;>first
  |(cases r;rfl)
  |(obtain⟨t,rfl⟩:=r;rfl)
def qP.or {r c:R2}(h:qP X f r)(h':qP X f c):qP X f (λx y H Q=>r x y H Q∨c x y H Q):=by
 intro pins s σ H x y v u Q I b a q;rcases q with q|q
 ·exact h pins s σ H x y v u Q I b a q
 ·exact h' pins s σ H x y v u Q I b a q
def Cf {r:R2}(o:qP X (compareOp op) r)(f:PE X a ta)(e:PE X b tb)(hm:behindInMarks op b=false):PE X (.Compare a [op] [b] pos) (YE r ta tb):=by
 intro pins s σ H Q I h;exact wpAny_Compare1 (Vg f e I h λv u s2 x y g i d c q=>o pins s2 σ g x y v u Q i d c q) hm
noncomputable def OF (t:TE):TT:=λσ H Q=>t σ H λx h=>∃k,x=.bl k/\Q k h
def E4 {r:R2}(o:qP X (compareOp op) r)(m:PE X a ta)(l:PE X b tb)(hm:behindInMarks op b=false):PT X (.Compare a [op] [b] pos) (OF (YE r ta tb)):=by
 intro pins s σ H Q I h;refine wpAny_isTrue_Compare1 (zY (m pins s σ H _ I h) λv s1 ⟨x,H1,t,g,j⟩=>zY (l pins s1 σ H1 _ t j) λu s2 ⟨y,A,p,f,i⟩=>
  zY (o pins s2 σ A x y v u _ p g f i) λc s3 ⟨z,w,n,d,k,e,q⟩=>?_) hm
 subst e;cases d;exact wpAny_truthy_bool ⟨w,n,q⟩
noncomputable def XG (r a:R2)(T tb t:TE):TE:=λσ H Q=>T σ H λx H1=>tb σ H1 λy c=>r x y c λz h=>∃k,z=.bl k/\
 (if k=true then t σ h λw b=>a y w b Q else Q (.bl false) h)
def Fg {o:CmpOp}{r i:R2}(C:qP X (compareOp op) r)(f:qP X (compareOp o) i)(J:PE X a ta)(E:PE X b tb)(D:PE X c tc)
  (hm:lastMarks [op,o] [b,c]=false:=by with_unfolding_all rfl):PE X (.Compare a [op,o] [b,c] pos) (XG r i ta tb tc):=by
 intro pins s σ H Q I h;refine Compare_chain (zY (J pins s σ H _ I h) λv s1 ⟨x,H1,M,p,B⟩=>chain_link (zY (E pins s1 σ H1 _ M B) λu s2 ⟨y,P,L,g,A⟩=>
  zY (C pins s2 σ P x y v u _ L p g A) λd s3 ⟨z,l,j,n,k,e,q⟩=>?_)) hm
 subst e;cases n;refine wpAny_truthy_bool ?_;cases k with
 |false=>exact ite_ff ⟨.bl false,l,j,rfl,q⟩|true=>exact ite_tt (chain_last (zY (D pins s3 σ l _ j q) λw s4 ⟨Z,N,K,m,t⟩=>f pins s4 σ N y Z u w Q K g m t))
def FK {o:CmpOp}{r i:R2}(J:qP X (compareOp op) r)(f:qP X (compareOp o) i)(M:PE X a ta)(L:PE X b tb)(K:PE X c tc)
  (hm:lastMarks [op,o] [b,c]=false:=by with_unfolding_all rfl):PT X (.Compare a [op,o] [b,c] pos) (OF (XG r i ta tb tc)):=by
 intro pins s σ H Q I h;refine isTrue_chain (zY (M pins s σ H _ I h) λv s1 ⟨x,H1,Y,t,D⟩=>test_link (zY (L pins s1 σ H1 _ Y D) λu s2 ⟨y,H2,U,g,C⟩=>
  zY (J pins s2 σ H2 x y v u _ U t g C) λd s3 ⟨z,l,j,p,k,e,q⟩=>?_)) hm
 subst e;cases p;refine wpAny_truthy_bool ?_;cases k with
 |false=>
  obtain⟨k',P,E⟩:=q;cases P;exact ite_ff ⟨l,j,E⟩
 |true=>
  refine ite_tt (test_last (zY (K pins s3 σ l _ j q) λw s4 ⟨Z,H4,T,n,B⟩=>zY (f pins s4 σ H4 y Z u w _ T g n B) λd' s5 ⟨z2,H5,S,m,k2,N,A⟩=>?_));subst N;cases m;exact wpAny_truthy_bool ⟨H5,S,A⟩
def Ja:(sizeLine:Nat)<2 ^ 63:=by rw[sizeLine_eq];decide
def vals1 {x:V}{us:bG}(r:Vals [x] us):∃u,us=[u]/\RelV x u:=by
 cases r with
 |cons b a=>cases a;exact⟨_,rfl,b⟩
def vals2 {x y:V}{us:bG}(r:Vals [x,y] us):∃u w,us=[u,w]/\RelV x u/\RelV y w:=by
 cases r with
 |cons d c=>
  cases c with
  |cons b a=>cases a;exact⟨_,_,rfl,d,b⟩
def Hf (c:X.calm=true):yv X (.builtin "max") (λxs H Q=>∃i j,xs=[.int i,.int j]/\Q (.int (if j > i then j else i)) H):=by
 intro pins s σ H xs us Q I r h;obtain⟨i,j,rfl,q⟩:=h;obtain⟨u,w,rfl,⟨t,rfl⟩,⟨t',rfl⟩⟩:=vals2 r;refine max_two_ints (I.ok.hd c) λh' T k=>⟨_,H,I.kept k,?_,q⟩
 by_cases a:j > i
 ·rw[ag a,ag a];exact⟨_,rfl⟩
 ·rw[aj a,aj a];exact⟨_,rfl⟩
def Hh (c:X.calm=true):yv X (.builtin "min") (λxs H Q=>∃i j,xs=[.int i,.int j]/\Q (.int (if j<i then j else i)) H):=by
 intro pins s σ H xs us Q I r h;obtain⟨i,j,rfl,q⟩:=h;obtain⟨u,w,rfl,⟨t,rfl⟩,⟨t',rfl⟩⟩:=vals2 r;refine min_two_ints (I.ok.hd c) λh' T k=>⟨_,H,I.kept k,?_,q⟩
 by_cases a:j<i
 ·rw[ag a,ag a];exact⟨_,rfl⟩
 ·rw[aj a,aj a];exact⟨_,rfl⟩
def Hw:yv X (.type "int") (λxs H Q=>(∃i,xs=[.int i]/\Q (.int i) H)∨∃k,xs=[.bl k]/\Q (.int (if k then 1 else 0)) H):=by
 intro pins s σ H xs us Q I r h;rcases h with ⟨i,rfl,q⟩|⟨k,rfl,q⟩
 ·obtain⟨u,rfl,t,rfl⟩:=vals1 r
  exact call_int_int ⟨.int i,H,I,⟨_,rfl⟩,q⟩
 ·obtain⟨u,rfl,a⟩:=vals1 r
  cases a;exact call_int_bool ⟨.int (if k then 1 else 0),H,I.tok _,⟨_,rfl⟩,q⟩
end
structure Vi (h:Heap)(x dx C:Addr)(mA:bO):Prop where
 obj:h.get? x=some (instObj C dx)
 ns:h.Ns1 dx mA
 ne:dx≠x
def IZ {D:Addr}{m:bO}(n:h.Ns1 D m):∃d,h.get? D=some d/\∀name,lookIn name d=some (m name):=by
 obtain⟨o,E,p,c,hd,f,_,hm⟩:=n;refine⟨o,c,λname=>?_⟩;have e:=hm name;unfold nsFind findBy at e;rw[<- Array.find?_toList]at e;unfold lookIn;rw[hd];dsimp only
 split
 ·rename_i y q
  rw[q]at e;exact congrArg some e
 ·rename_i q
  rw[q]at e;have a:E.toList.any (·.refKey)=false:=by
   rw[List.any_eq_false];intro y b;obtain⟨z,t,H⟩:=f y (Array.mem_toList_iff.mp b);simp[DictEntry.refKey,H]
  have A:¬E.toList.any (·.refKey)=true:=by rw[a];exact ay
  rw[aj A];exact congrArg some e
def Vi.look {x d C:Addr}{m:bO}(I:Vi h x d C m):∃o,PySem.W.InstAt h x (instObj C d) C (some o)/\∀name,lookIn name o=some (m name):=
 let ⟨o,H,l⟩:=IZ I.ns
 ⟨o,⟨I.obj,rfl,rfl,H⟩,l⟩
def g9.some_of {v:V}{o:Option Value}(r:g9 (some v) o):∃u,o=some u/\RelV v u:=by
 cases o with
 |none=>exact(show False from r).elim|some u=>exact⟨u,rfl,r⟩
section
variable {H:Hp}{C dx:Addr}{fs:List (Str×V)}
def EV (hok:jI P w H h)(e:H a=some (.ins C dx fs)):∃m,Vi h a dx C m/\(∀f,g9 (fs.lookup f) (m f))/\PySem.Within m (fs.map (·.1))/\fs.length<=1000/\H dx=some (.own a):=by
 obtain⟨d,z,ne,ob,m,n,r,q⟩:=(show jG P w H h a (.ins C dx fs) from hok a _ e)
 exact⟨m,⟨ob,n,ne⟩,r,q,z,d⟩
end
structure VJ (K:Frag)(C:Addr):Prop where
 pg:plainGet K C Str.empty=true
 hd:PySem.W.hasDictIn K C=true
 po:PySem.W.plainOver K C=true
 sa:findIn K (.ref C) "__setattr__"=some (some (.builtin "object.__setattr__"))
def VJ.get {K:Frag}{C:Addr}(c:VJ K C)(f:Str):plainGet K C f=true:=c.pg
section
variable {X:Cx}{σ:St}{H:Hp}{A:Around}{c:Value}{b:Bool}
inductive k7 (K:Frag)(H:Hp):V->Value->Prop where
 |non:k7 K H .non (.type "NoneType")
 |bl (x:Bool):k7 K H (.bl x) (.type "bool")
 |int (i:Int):k7 K H (.int i) (.type "int")
 |str (x:Str):k7 K H (.str x) (.type "str")
 |flt (x:UInt64):k7 K H (.flt x) (.type "float")
 |lst {a:Addr} {xs:List V} (e:H a=some (.lst xs)):k7 K H (.ref a) (.type "list")
 |frz {a:Addr} {o:Obj} {xs:List V} (e:H a=some (.frz o (.lst xs))):k7 K H (.ref a) (.type "list")
 |tup {a:Addr} {xs:List V} (e:H a=some (.tup xs)):k7 K H (.ref a) (.type "tuple")
 |dK {a:Addr} {kvs:List (Key×V)} (e:H a=some (.dK kvs)):k7 K H (.ref a) (.type "dict")
 |dT {a:Addr} {kvs:List (List Key×V)} (e:H a=some (.dT kvs)):k7 K H (.ref a) (.type "dict")
 |ins {a C dx:Addr} {fs:List (Str×V)} (e:H a=some (.ins C dx fs)) (cl:VJ K C) (ha:findIn K (.ref C) "__class__"=some (some (.builtin "object.__class__")))
   (hn:PySem.W.specialIn K (.builtin "object.__class__") "__get__"=some (some (.builtin "getset_descriptor.__get__"))) (htk:PySem.W.takesIn K (.builtin "object.__class__")=some true)
   (hm:mroIn K C (.type "object")=some true):k7 K H (.ref a) (.ref C)
def Hz {x:V}{t:Value}(I:Inv X pins σ H s)(r:RelV x u)(ty:k7 X.K H x t)(e:kitOne X.K t c=some b)(h:∀T,Q (.bool b) { s with toks:=T }):
  wpAny (model X.prog X.w) A (call (.builtin "isinstance") [u,c]) Q E s:=by
 cases ty with
 |non=>cases (show u=Value.none from r);exact bw PySem.W.kitx_none I.kIn True.intro e (λz=>nomatch z) h
 |bl y=>cases (show u=Value.bool y from r);exact bw PySem.W.kitx_bool I.kIn True.intro e (λz=>nomatch z) h
 |int i=>obtain⟨t,q⟩:=(show ∃t,u=Value.int i t from r);cases q;exact bw PySem.W.kitx_int I.kIn True.intro e (λz=>nomatch z) h
 |str y=>obtain⟨t,q⟩:=(show ∃t,u=Value.str y t from r);cases q;exact bw PySem.W.kitx_str I.kIn True.intro e (λz=>nomatch z) h
 |flt y=>obtain⟨t,q⟩:=(show ∃t,u=Value.float y t from r);cases q;exact bw PySem.W.kitx_float I.kIn True.intro e (λz=>nomatch z) h
 |@lst a xs d=>
  cases (show u=Value.ref a from r)
  obtain⟨_,_,n,_,f⟩:=(show jG X.prog X.w H s.heap a (.lst xs) from I.hok a _ d)
  exact bw kitx_list I.kIn ⟨_,f,rfl⟩ e (λz=>nomatch z) h
 |@frz a ob xs d=>
  cases (show u=Value.ref a from r)
  obtain⟨_,_,_,n,_,f⟩:=(show jG X.prog X.w H s.heap a (.frz ob (.lst xs)) from I.hok a _ d)
  exact bw kitx_list I.kIn ⟨_,f,rfl⟩ e (λz=>nomatch z) h
 |@tup a xs d=>
  cases (show u=Value.ref a from r)
  obtain⟨_,_,_,p⟩:=(show jG X.prog X.w H s.heap a (.tup xs) from I.hok a _ d)
  obtain⟨o,f,g,_⟩:=p;exact bw kitx_tuple I.kIn ⟨o,f,g.1⟩ e (λz=>nomatch z) h
 |@dK a kvs d=>
  cases (show u=Value.ref a from r)
  obtain⟨_,_,vs,_,p⟩:=(show jG X.prog X.w H s.heap a (.dK kvs) from I.hok a _ d)
  obtain⟨o,m,v,f,g,_⟩:=p;exact bw kitx_dict I.kIn ⟨o,f,g.1⟩ e (λz=>nomatch z) h
 |@dT a kvs d=>
  cases (show u=Value.ref a from r)
  obtain⟨_,_,xs,_,o,m,v,f,g,_⟩:=(show jG X.prog X.w H s.heap a (.dT kvs) from I.hok a _ d)
  exact bw kitx_dict I.kIn ⟨o,f,g.1⟩ e (λz=>nomatch z) h
 |@ins a C dx fs d cl l hn j hm=>
  cases (show u=Value.ref a from r)
  obtain⟨M,O,_⟩:=EV I.hok d;obtain⟨B,J,_⟩:=O.look;exact bw (PySem.W.kitx_own (cl.get _) cl.hd l hn j hm) I.kIn J e (λz=>nomatch z) h
end
structure jZ (k:Nat)(A:Around):Prop where
 hd:A.handled=none
 dp:A.depth+3 * k+5<recursionLimit
 un:A.units+16 * k+200<cLine
def jZ.mono {j k:Nat}{A:Around}(r:jZ k A)(h:j<=k):jZ j A:=⟨r.hd,by have:=r.dp;omega,by have:=r.un;omega⟩
theorem jZ.deeper {k:Nat}{A:Around}(r:jZ (k+1) A)(env:Env):jZ k (A.deeper env):=
 ⟨r.hd,by have:=r.dp;show A.depth+1+3 * k+5<_;omega,by have:=r.un;show A.units+3+16 * k+200<_;omega⟩
theorem jZ.depth {k:Nat}{A:Around}(r:jZ k A):A.depth<recursionLimit:=by have:=r.dp;omega
theorem jZ.units {k:Nat}{A:Around}(r:jZ k A):A.units+64<cLine:=by have:=r.un;omega
noncomputable def Nh:TA:=λ_ H Q=>Q [] H
noncomputable def OX (t:TE)(tr:TA):TA:=λσ H Q=>t σ H λx H1=>tr σ H1 λxs h=>Q (x::xs) h
section
variable {X:Cx}{es:bM}{te:TE}{t:TA}
def yt:PA X [] Nh:=λ_ _ _ _ H Q I h=>Calls.spliced_nil ⟨[],H,I,.nil,h⟩
def jK (f:PE X e te)(d:PA X es t)(c:starEach (e::es) X.env=(false,eval e X.env)::starEach es X.env:=by rfl):PA X (e::es) (OX te t):=by
 intro pos pins s σ H Q I h;rw[c];show wpAny _ _ (spliced ((false,eval e X.env)::backTo pos (starEach es X.env))) _ _ s;refine Calls.spliced_cons (zY (f pins s σ H _ I h) λu s1 ⟨x,H1,g,a,b⟩=>?_);exact zY (d pos pins s1 σ H1 _ g b) λus s2 ⟨xs,j,i,r,q⟩=>⟨x::xs,j,i,.cons a r,q⟩
def cF (t:TA):TE:=λσ H Q=>t σ H λxs H1=>xs.length<=sizeLine/\∀p,H1 p=none->Q (.ref p) (upd H1 p (.tup xs))
def cG (t:TA):TE:=λσ H Q=>t σ H λxs H1=>xs.length<=sizeLine/\∀p,H1 p=none->Q (.ref p) (upd H1 p (.lst xs))
def Bq {x1}(h:PA X es t):PE X (.Tuple es x1 pos) (cF t):=by
 intro pins s σ H Q I a;refine wpAny_Tuple_spliced (zY (h pos pins s σ H _ I a) λus s1 ⟨xs,H1,i,r,z,q⟩=>⟨by rw[<- r.length];exact z,?_⟩)
 have hf:H1 s1.heap.objs.size=none:=i.hok.fresh (ao _);refine⟨.ref s1.heap.objs.size,upd H1 s1.heap.objs.size (.tup xs),i.laid (t':=s1.toks) (λb u e=>af _ e) (ao _) ?_,rfl,q _ hf⟩;exact⟨z,us,r,⟨_,aA _ rfl,⟨rfl,rfl⟩,_,rfl⟩⟩
def CC (h:PA X es t):PE X (.List es pos) (cG t):=by
 intro pins s σ H Q I a;refine wpAny_List_spliced (zY (h pos pins s σ H _ I a) λus s1 ⟨xs,H1,i,r,z,q⟩=>⟨by rw[<- r.length];exact z,?_⟩)
 have hf:H1 s1.heap.objs.size=none:=i.hok.fresh (ao _);refine⟨.ref s1.heap.objs.size,upd H1 s1.heap.objs.size (.lst xs),i.laid (t':=s1.toks) (λb u e=>af _ e) (ao _) ?_,rfl,q _ hf⟩;exact⟨z,us,0,r,aA _ rfl⟩
end
abbrev Sp:=List V->Hp->VK->XK->Prop
abbrev k9:=List Env->Hp->Shared->XK->Value->Shared->Prop
structure Wk (P:Program)(w:World)(K:Frag)(mg:bO)(base:Heap)(A:Around)(outer:bP)(s:Shared)(H:Hp):Prop where
 frames:A.frames=some outer
 mod:Mod K mg base
 bs:∀b o,base.get? b=some o->s.heap.get? b=some o/\H b=none
 bsz:base.objs.size<=s.heap.objs.size
 funs:s.heap.FunFrames base outer
 frf:∀b∈w6 outer,H b=none
 hok:jI P w H s.heap
 bare:AllBare s.gens
inductive CE (outer:bP)(P:Program)(w:World)(H:Hp)(s:Shared)(Q:VK)(u:Value)(s':Shared):Prop
 |mk (v:V) (H':Hp) (os:s'.os=s.os) (b:AllBare s'.gens) (un:Un (w6 outer) [] H H' s.heap s'.heap) (hk:jI P w H' s'.heap) (r:RelV v u) (q:Q v H')
def CR (CX:k9)(outer:bP)(P:Program)(w:World)(H:Hp)(s:Shared)(Q:VK)(E:XK)(r:Result)(S:Shared):Prop:=
 match r with
 |.ok (.ret u)=>CE outer P w H s Q u S|.ok _=>False|.error e=>CX outer H s E e S
structure yR (P:Program)(w:World)(K:Frag)(mg:bO)(base:Heap)(CX:k9)(k:Nat)(f:Addr)(fd:FuncData)(ps:bK)(sp:Sp):Prop where
 len:∀vs H Q E,sp vs H Q E->vs.length=ps.length
 run:∀(A:Around)(outer:bP)(s:Shared)(H:Hp)(args:Args)(us:bG)(vs:List V)(Q:VK)(E:XK),jZ k A->Wk P w K mg base A outer s H->BindsTo s fd args (ps.zip us)->Vals vs us->sp vs H Q E->
  codeAny (model P w) A (.call (.ref f) args) (CR CX outer P w H s Q E) s
theorem yR.mono {K:Frag}{CX:k9}{j k:Nat}{f:Addr}{ps:bK}{sp:Sp}(F:yR P w K mg base CX j f fd ps sp)(h:j<=k):
  yR P w K mg base CX k f fd ps sp:=⟨F.len,λA outer s H args us vs Q E r=>F.run A outer s H args us vs Q E (r.mono h)⟩
def yR.imp {K:Frag}{CX:k9}{k:Nat}{f:Addr}{ps:bK}{sp S:Sp}(F:yR P w K mg base CX k f fd ps sp)
  (h:∀vs H Q E,S vs H Q E->sp vs H Q E):yR P w K mg base CX k f fd ps S:=
 ⟨λvs H Q E q=>F.len vs H Q E (h _ _ _ _ q),λA outer s H args us vs Q E r he b v a=>F.run A outer s H args us vs Q E r he b v (h _ _ _ _ a)⟩
section
variable {X:Cx}{σ:St}{H:Hp}{s':Shared}
def Inv.env0 (I:Inv X pins σ H s):Wk X.prog X.w X.K X.mg X.base X.A X.stack s H:=
 ⟨I.ok.frames,I.ok.mod,I.bs,a7 I.ok.bsz I.sz,I.stack,I.stkFree,I.hok,I.bare⟩
def Inv.after {Q:VK}(I:Inv X pins σ H s)(h:CE X.stack X.prog X.w H s Q u s'):EP X pins σ Q u s':=by
 obtain⟨v,c,os,bare,un,hok,r,q⟩:=h;obtain⟨a,g,d,t,o⟩:=s';obtain rfl:o=s.os:=os;exact⟨v,c,I.call (h':=a) (g':=g) (d':=d) (t':=t) (ch:=[]) un hok bare (λb z=>absurd z (by simp)),r,q⟩
end
noncomputable def Aq (sp:Sp)(d:List V)(E:XK)(t:TA):TE:=λσ H Q=>t σ H λvs H1=>sp (vs++d) H1 Q E
def Binds (K:Frag)(fd:FuncData)(ps:bK)(ds:bG):Prop:=
 ∀(s:Shared)(us:bG),K.In s.heap->(us++ds).length=ps.length->BindsTo s fd ⟨us,[]⟩ (ps.zip (us++ds))
def Binds.all {K:Frag}{ps:bK}(h:∀us:bG,us.length=ps.length->bindArgs fd ⟨us,[]⟩=pure (ps.zip us)):Binds K fd ps []:=λs us _ H=>by
 rw[append_nil]at H ⊢;exact .of_eq (h us H)
def Passes (CX:k9)(X:Cx)(E:XK):Prop:=∀(pins:bI)(σ:St)(H:Hp)(s:Shared)(e:Value)(s':Shared),Inv X pins σ H s->CX X.stack H s E e s'->X.xe e s'
section
variable {X:Cx}{CX:k9}{k:Nat}{f:Addr}{ps:bK}{sp:Sp}{dvs:List V}{ds:bG}{E:XK}{es:bM}{t:TA}
def BO {σ:St}{H:Hp}{Q:VK}{us:bG}{vs:List V}(F:yR X.prog X.w X.K X.mg X.base CX k f fd ps sp)(b:jZ k X.A)(c:Binds X.K fd ps ds)(hd:Vals dvs ds)(x:Passes CX X E)
  (I:Inv X pins σ H s)(r:Vals vs us)(h:sp (vs++dvs) H Q E):wpAny (model X.prog X.w) X.A (call (.ref f) us) (EP X pins σ Q) X.xe s:=by
 have a:Vals (vs++dvs) (us++ds):=r.append hd;have l:(us++ds).length=ps.length:=by rw[<- a.length];exact F.len _ _ _ _ h
 refine wpAny_call (codeAny_mono (F.run X.A X.stack s H ⟨us,[]⟩ (us++ds) (vs++dvs) Q E b I.env0 (c s us I.kIn l) a h) λr S q=>?_);cases r with
 |error e=>exact x pins σ H s e S I q|ok d=>
  cases d with
  |ret u=>exact I.after q|next=>exact False.elim q|brk=>exact False.elim q|cont=>exact False.elim q
def ER (F:yR X.prog X.w X.K X.mg X.base CX k f fd ps sp)(c:jZ k X.A)(g:Gl X x)(hm:X.mg x=some (.ref f))(d:keepIn X.K (.ref f)=true)(j:Binds X.K fd ps ds)(hd:Vals dvs ds)(a:Passes CX X E)
  (m:PA X (e::es) t)(b:(x==("__debug__":Str))=false:=by decide)(he:starEach (e::es) X.env=(false,eval e X.env)::starEach es X.env:=by rfl)(l:(backTo pos (starEach es X.env)).any (·.1)=false:=by rfl):
  PE X (.Call (.Name x p) (e::es) [] pos) (Aq sp dvs E t):=by
 intro pins s σ H Q I h;refine wpAny_Call_Name_kw (Ph I g hm ?_ b);refine PySem.W.callWith_K (h₀:=X.base) I.ok.mod.kin d (zY (m pos pins s σ H _ I h) λus s1 ⟨vs,H1,i,r,q⟩=>⟨i.kIn,?_⟩) he l;exact BO F c j hd a i r q
end
structure qv (N P:bK)(sc:Scope):Prop where
 kind:sc.kind=.function
 co:sc.isCoroutine=false
 gen:sc.isGenerator=false
 nd:N.Nodup
 pre:N.take P.length=P
 par:∀x∈P,sc.names.lookup x=some .local∨sc.names.lookup x=some .cell
 nofree:∀y∈sc.names,y.2≠.free
theorem Sy {kindOf:Str->Option NameKind}:∀{binds:List (Str×Value)}{m:bO},(∀v,(x,v)∉binds)->bindL kindOf binds m x=m x
 |[],_,_=>rfl|(n,v)::r,m,h=>by
  unfold bindL;rw[Sy λw hw=>h w (aL _ hw)]
  split
  ·have:x≠n:=by rintro rfl;exact h v aK
   simp[this]
  ·rfl
theorem S6 {kindOf:Str->Option NameKind}:∀{binds:List (Str×Value)}{m:bO},(∀v,(x,v)∉binds)->bindC kindOf binds m x=m x
 |[],_,_=>rfl|(n,v)::r,m,h=>by
  unfold bindC;rw[S6 λw hw=>h w (aL _ hw)]
  split
  ·rfl
  ·have:x≠n:=by rintro rfl;exact h v aK
   simp[this]
theorem SN {kindOf:Str->Option NameKind}{v:Value}:∀{P:bK}{vs:bG}{i:Nat}{m:bO},P.Nodup->P[i]? =some x->vs[i]? =some v->kindOf x=some .local->
  bindL kindOf (P.zip vs) m x=some v
 |[],_,_,_,_,h,_,_=>by simp at h|_::_,[],_,_,_,_,h,_=>by simp at h|p::P,w::vs,0,m,nd,h1,H,a=>by
  simp at h1 H;subst h1;subst H;show bindL kindOf ((p,w)::P.zip vs) m p=_;unfold bindL;rw[Sy λv b=>(List.nodup_cons.mp nd).1 (of_mem_zip b).1,ag a];simp
 |p::P,w::vs,i+1,m,nd,h1,H,a=>by
  show bindL kindOf ((p,w)::P.zip vs) m x=_;unfold bindL;exact SN (i:=i) (List.nodup_cons.mp nd).2 (by simpa using h1) (by simpa using H) a
theorem Sr {kindOf:Str->Option NameKind}{v:Value}:∀{P:bK}{vs:bG}{i:Nat}{m:bO},P.Nodup->P[i]? =some x->vs[i]? =some v->kindOf x≠some .local->
  bindC kindOf (P.zip vs) m x=some v
 |[],_,_,_,_,h,_,_=>by simp at h|_::_,[],_,_,_,_,h,_=>by simp at h|p::P,w::vs,0,m,nd,h1,H,a=>by
  simp at h1 H;subst h1;subst H;show bindC kindOf ((p,w)::P.zip vs) m p=_;unfold bindC;rw[S6 λv b=>(List.nodup_cons.mp nd).1 (of_mem_zip b).1,aj a];simp
 |p::P,w::vs,i+1,m,nd,h1,H,a=>by
  show bindC kindOf ((p,w)::P.zip vs) m x=_;unfold bindC;exact Sr (i:=i) (List.nodup_cons.mp nd).2 (by simpa using h1) (by simpa using H) a
noncomputable def start (N:bK)(vs:List V):St:=vs.map some++List.replicate (N.length-vs.length) none
noncomputable def ZC (CX:k9)(P:Program)(w:World)(K:Frag)(mg:bO)(base:Heap)(N:bK)(qual:Str)(scope:Scope)(f:Addr)(cd:Value)(A:Around)(outer:bP)(s:Shared)(H:Hp)(E:XK):Cx where
 prog:=P
 w:=w
 K:=K
 mg:=mg
 base:=base
 A:=A.deeper (envOfC qual scope s.heap.objs.size f cd)
 N:=N
 s0:=s
 H0:=H
 env:=envOfC qual scope s.heap.objs.size f cd
 outer:=outer
 stack:=envOfC qual scope s.heap.objs.size f cd::outer
 ex:=[]
 calm:=true
 fn:=λ_=>true
 pn:=[]
 xe:=λe a=>wpAny (model P w) (A.deeper (envOfC qual scope s.heap.objs.size f cd)) (leaving (envOfC qual scope s.heap.objs.size f cd) e) (λ_ S=>CX outer H s E e S) (λb S=>CX outer H s E b S) a
def RH (h:sc.names.lookup x=some .cell):∃c,(cellsFrom n sc.names []).lookup x=some c:=by
 have q:=cellsFrom_some sc.names n [] (.inl h);exact Option.isSome_iff_exists.mp q
def Hg {CX:k9}{K:Frag}{ps:bK}{qual:Str}{f:Addr}{cd:Value}{A:Around}{outer:bP}{s1:Shared}{H:Hp}{E:XK}{us:bG}{vs:List V}
  (S:qv N ps scope)(hd:A.handled=none)(g:Wk P w K mg base A outer s H)(M:vs.length=ps.length)(r:Vals vs us)
  (x:InCallC s s.heap.objs.size (bindL (envOfC qual scope s.heap.objs.size f cd).kindOf (ps.zip us) λ_=>none) (cellsFrom (s.heap.objs.size+1) scope.names []) (bindC (envOfC qual scope s.heap.objs.size f cd).kindOf (ps.zip us) λ_=>none) s1):
  Inv (ZC CX P w K mg base N qual scope f cd A outer s H E) [] (start N vs) H s1:=by
 have J:ps.length<=N.length:=by have:=congrArg List.length S.pre;rw[bj]at this;omega
 obtain⟨B,T,rfl,D⟩:=x.done;have j:∀b:Addr,b∉(ZC CX P w K mg base N qual scope f cd A outer s H E).ex:=λb z=>absurd (show b∈([]:bH) from z) (by simp)
 refine⟨⟨g.mod,S.kind,rfl,rfl,ao _,λy z c B d=>?_,λy l=>?_,λy c _ h=>?_,λ_=>hd,Around.frames_deeper g.frames,.inr ⟨rfl,rfl⟩,λb z=>absurd z (j b),g.bs,g.bsz,λb _ _=>j b,λb z=>absurd z (j b),g.funs,g.frf⟩,
  rfl,g.bare,Un.kept D,⟨_,x.toInCall.ns,λi y v B d Q=>?_⟩,λy c h=>⟨_,x.cell y c h⟩,g.hok.fresh (ao _),λy c h=>?_,λp o=>absurd (show p∈([]:bI) from o) (by simp),g.hok.kept D,?_⟩
 ·exact name_of_addr x.apart (PySem.mem_of_lookup B) (PySem.mem_of_lookup d)
 ·have l:scope.names.lookup y=some .cell∨scope.names.lookup y=some .free:=l
  rcases l with l|l
  ·exact RH l
  ·exact absurd rfl (S.nofree _ (PySem.mem_of_lookup l))
 ·exact le_of_lt (x.above y c (PySem.mem_of_lookup h))
 ·have t:i<vs.length:=by
   unfold start at d
   by_cases t:i<vs.length
   ·exact t
   ·rw[ax (by simpa using t)]at d
    rw[List.getElem?_replicate]at d
    split at d<;>cases d
  have L:vs[i]? =some v:=by
   unfold start at d;rw[ah (by simpa using t),ak]at d
   cases e:vs[i]? with
   |none=>rw[e]at d;cases d|some a=>rw[e]at d;cases d;rfl
  obtain⟨u,C,I⟩:=r.get L;have o:ps[i]? =some y:=by
   rw[<- S.pre,List.getElem?_take_of_lt (by omega)];exact B
  have m:ps.Nodup:=by rw[<- S.pre];exact S.nd.sublist (List.take_sublist _ _)
  refine⟨u,I,?_⟩;rcases S.par y (List.mem_of_getElem? o) with k|k
  ·exact .inl ⟨k,SN m o C k⟩
  ·obtain⟨c,e⟩:=RH (n:=s.heap.objs.size+1) k
   refine .inr ⟨.inl k,c,e,?_⟩;have q:=x.cell y c e;rw[Sr m o C (by show scope.names.lookup y≠_;rw[k];decide)]at q
   exact q
 ·exact g.hok.fresh (le_of_lt (x.above y c (PySem.mem_of_lookup h)))
 ·unfold start
  show _=N.length;rw[aE,ae,length_replicate];omega
def AA {CX:k9}{K:Frag}{k:Nat}{f:Addr}{name qual:Str}{params:Arguments}{D kV doc pm c ct L:Value}{an C:bS}
  {ps:bK}{sp:Sp}(M:K.lookup f=some ⟨L,C,.func (fnOf name qual params body scope D kV doc pm an c ct),osl⟩)(B:codeIn K c qual=true)(S:qv N ps scope)
  (len:∀vs H Q E,sp vs H Q E->vs.length=ps.length)
  (g:∀(A:Around)(outer:bP)(s:Shared)(H:Hp)(vs:List V)(Q:VK)(E:XK),jZ k (A.deeper (envOfC qual scope s.heap.objs.size f c))->sp vs H Q E->
   ∃t,yU (ZC CX P w K mg base N qual scope f c A outer s H E) body t/\t { nx:=λ_ h=>Q .non h,rt:=Q } (start N vs) H):
  yR P w K mg base CX (k+1) f (fnOf name qual params body scope D kV doc pm an c ct) ps sp:=by
 refine⟨len,λA outer s H args us vs Q E z j Z r p=>?_⟩;have Y:=len _ _ _ _ p;have X:K.In s.heap:=j.mod.kin.keeps λb o e=>(j.bs b o e).1;have lim:s.heap.NoLimit:=j.mod.nolimit.keeps λb o e=>(j.bs b o e).1;have d:∀y∈ps.zip us,scope.names.lookup y.1=some .local∨(scope.names.lookup y.1=some .cell/\((cellsFrom (s.heap.objs.size+1) scope.names []).lookup y.1).isSome=true):=λ⟨n,v⟩ T=>by
  rcases S.par n (of_mem_zip T).1 with q|q
  ·exact .inl q
  ·exact .inr ⟨q,cellsFrom_some _ _ _ (.inl q)⟩
 refine codeAny_call_function z.depth (X _ _ M) rfl S.co S.gen rfl (PySem.W.codeRec_of X B) (Z _ _ _ _ ?_);refine wpAny_newFunctionEnv_cells S.kind d λenv he s1 x=>?_;subst he;refine⟨lim.keeps x.toInCall.keep,codeAny_func ?_⟩;obtain⟨t,ht,U⟩:=g A outer s H vs Q E (z.deeper _) p;have I:Inv (ZC CX P w K mg base N qual scope f c A outer s H E) [] (start N vs) H s1:=Hg S z.hd j Y r x;refine wpAny_mono (ht [] s1 (start N vs) H _ I U) (λfl l i=>?_) λe l i=>i;have fin:∀{a:St}{h:Hp}{v:V}{u:Value},Inv (ZC CX P w K mg base N qual scope f c A outer s H E) [] a h l->RelV v u->Q v h->CE outer P w H s Q u l:=
  λ {a h v u} J m q=>⟨v,h,J.os,J.bare,J.base,J.hok,m,q⟩
 cases fl with
 |ret u=>
  obtain⟨v,a,h,J,m,q⟩:=i;exact fin J m q
 |next=>
  obtain⟨a,h,J,q⟩:=i;exact fin (v:=V.non) (u:=Value.none) J rfl q
 |brk=>
  obtain⟨_,_,_,q⟩:=i;exact False.elim q
 |cont=>
  obtain⟨_,_,_,q⟩:=i;exact False.elim q
section
variable {X:Cx}{es:bM}{t:TA}{id T:String}{r:List V->Hp->VK->Prop}
noncomputable def Vz (r:List V->Hp->VK->Prop)(t:TA):TE:=λσ H Q=>t σ H λvs H1=>r vs H1 Q
def Km (c:yv X (.builtin id) r)(g:Gl X x)(hm:X.mg x=none)(v:bootBuiltins x=some (.builtin id))(d:PA X (e::es) t)(hn:x ≠ "__name__":=by decide)(b:(x==("__debug__":Str))=false:=by decide)
  (he:starEach (e::es) X.env=(false,eval e X.env)::starEach es X.env:=by rfl)(l:(backTo pos (starEach es X.env)).any (·.1)=false:=by rfl):PE X (.Call (.Name x p) (e::es) [] pos) (Vz r t):=by
 intro pins s σ H Q I h;refine wpAny_Call_Name_kw (gM I g hm v ?_ hn b);exact PyProof.Rows.callWith_builtin1 (zY (d pos pins s σ H _ I h) λus s1 ⟨vs,H1,i,a,q⟩=>c pins s1 σ H1 vs us Q i a q) he l
def J2 (c:yv X (.type T) r)(g:Gl X x)(hm:X.mg x=none)(v:bootBuiltins x=some (.type T))(d:PA X (e::es) t)(hn:x ≠ "__name__":=by decide)(b:(x==("__debug__":Str))=false:=by decide)
  (he:starEach (e::es) X.env=(false,eval e X.env)::starEach es X.env:=by rfl)(l:(backTo pos (starEach es X.env)).any (·.1)=false:=by rfl):PE X (.Call (.Name x p) (e::es) [] pos) (Vz r t):=by
 intro pins s σ H Q I h;refine wpAny_Call_Name_kw (gM I g hm v ?_ hn b);exact PyProof.Rows.callWith_type1 (zY (d pos pins s σ H _ I h) λus s1 ⟨vs,H1,i,a,q⟩=>c pins s1 σ H1 vs us Q i a q) he l
end
end L2
variable {X:L2.Cx}{o:L2.HO}{H:L2.Hp}{kvs:List (L2.Key×L2.V)}{vs xs ys:List L2.V}{r:List L2.V->L2.Hp->L2.VK->Prop}{σ:L2.St}{v:L2.V}
namespace HT
open PySem PyProof.Rows
section
open PySem.SeqAt
open PySem.AutoSeq1 (wpAny_loadPart')
open PySem.MeetsSeq PySem.MeetsSeq2 PySem.MeetsSeq3
end
section
variable {prog:Program}{A:Around}
def DF {t:Addr}{vs ws:bG}(ht:IsTup s.heap t vs.toArray)(a:IsTup s.heap b ws.toArray)(v:vs≠[])
  (g:ws=[]->Q (.ref t) s)(f:ws≠[]->Q (.ref s.heap.objs.size) { s with heap:=s.heap.push { cls:=.type "tuple",data:=.seq (vs++ws).toArray } })
  (z:vs.length+ws.length<=sizeLine):wpAny (model prog w) A (binaryOp .Add (.ref t) (.ref b)) Q E s:=by
 obtain⟨⟨cls,D,data,l⟩,o,c,n,hd⟩:=id ht;obtain⟨⟨C,d,data2,S⟩,h,H,N,hd2⟩:=id a;simp only at c hd H hd2;subst c hd H hd2;have e:vs.toArray++ws.toArray=(vs++ws).toArray:=by simp
 by_cases hw:ws=[]
 ·exact concat_meets ⟨_,o,rfl⟩ ⟨_,h,rfl⟩ noFill_tuple_add seq_tuple_add slot_tuple_add entry_tuple_add (args_tuple_add_2 _ _)
   (tuple_addW1 t b vs.toArray ws.toArray n N D d l S (by simpa using v) (by simp[hw])) ⟨o,h,g hw⟩
 ·refine concat_meets ⟨_,o,rfl⟩ ⟨_,h,rfl⟩ noFill_tuple_add seq_tuple_add slot_tuple_add entry_tuple_add (args_tuple_add_2 _ _)
   (tuple_addW2 t b vs.toArray ws.toArray n N D d l S (by simpa using v) (by simpa using hw) (by rw[az,az];exact z)) ⟨o,h,?_⟩
  rw[e];exact f hw
noncomputable def qj (n d:Nat):Option Int->Nat
 |none=>d|some v=>if v<0 then(v+(n:Int)).toNat else min v.toNat n
def EA (n d:Nat):qj n d none=d:=rfl
def DK (n d k:Nat):qj n d (some (k:Int))=min k n:=by
 show(if (k:Int)<0 then((k:Int)+(n:Int)).toNat else min (k:Int).toNat n)=min k n;rw[aj (by omega),aB]
def Bc (n d:Nat)(hd:d<=n)(o:bN):qj n d o<=n:=by
 cases o with
 |none=>exact hd|some v=>
  show(if v<0 then(v+(n:Int)).toNat else min v.toNat n)<=n
  by_cases h:v<0
  ·rw[ag h];omega
  ·rw[aj h];exact Nat.min_le_right _ _
def Pe (v:Int)(n d:Nat):(if v<0 then max (v+(n:Int)) 0 else min v (n:Int))=((qj n d (some v):Nat):Int):=by
 show(if v<0 then max (v+(n:Int)) 0 else min v (n:Int))=(((if v<0 then(v+(n:Int)).toNat else min v.toNat n):Nat):Int)
 by_cases h:v<0
 ·simp only[ag h];omega
 ·simp only[aj h];omega
def Ii (lo h:bN)(n:Nat):Builtin.Slice.sliceAdjust lo h 1 (n:Int)=(((qj n 0 lo:Nat):Int),((qj n n h:Nat):Int)):=by
 have H:¬((1:Int)<0):=by omega
 unfold Builtin.Slice.sliceAdjust;simp only[H,if_false];refine Prod.ext ?_ ?_
 ·cases lo with
  |none=>rfl|some v=>exact Pe v n 0
 ·cases h with
  |none=>rfl|some v=>exact Pe v n n
def Ia (i j:Nat):Builtin.Slice.slicePlaces (i:Int) (j:Int) 1=j-i:=by
 unfold Builtin.Slice.slicePlaces;have h:(1:Int) > 0:=by omega
 simp only[h,if_true,Int.ediv_one]
 split<;>omega
def So {v:Value}{o:bN}{Q:Option Int->Shared->Prop}(p:IsPart v o)(h:Q o s):wpAny (model prog w) A (Builtin.Slice.slicePartIndex v) Q E s:=by
 cases p with
 |none=>exact slicePart_none h|int i t=>exact slicePart_int h
def Ud {S:Addr}{l v:Value}{lo i:bN}{Q:Int×Int×Nat->Shared->Prop}(b:s.heap.IsSliceOf S l v .none)(p:IsPart l lo)(pu:IsPart v i)
  (h:Q (((qj n 0 lo:Nat):Int),1,qj n n i-qj n 0 lo) s):wpAny (model prog w) A (Builtin.Slice.sliceApplied (.ref S) (pure (n:Int))) Q E s:=by
 obtain⟨os,H,c,a⟩:=id b;unfold Builtin.Slice.sliceApplied Builtin.Slice.sliceFields;refine bU (bU (wpAny_field H a (x:=l) rfl (bU (wpAny_field H a (x:=v) rfl (bU (wpAny_field H a (x:=.none) rfl (bV ?_)))))));refine bU (slicePart_none ?_);show wpAny _ _ (if ((1:Int)==0)=true then _ else _) _ _ s;rw[aj (by decide)]
 refine bU (So p (bU (So pu (bU (bV ?_)))));show wpAny _ _ (match Builtin.Slice.sliceAdjust lo i 1 (n:Int) with|(lo,i)=>pure (lo,(1:Int),Builtin.Slice.slicePlaces lo i 1)) _ _ s
 rw[Ii lo i n];show wpAny _ _ (pure (((qj n 0 lo:Nat):Int),(1:Int),Builtin.Slice.slicePlaces ((qj n 0 lo:Nat):Int) ((qj n n i:Nat):Int) 1)) _ _ s;rw[Ia];exact bV h
def Fv (xs:Array Value)(i k:Nat):((List.range k).filterMap λ(m:Nat)=>xs[((i:Int)+(m:Int) * 1).toNat]?).toArray=((xs.toList.drop i).take k).toArray:=by
 have e:(λ(m:Nat)=>xs[((i:Int)+(m:Int) * 1).toNat]?)=λm=>xs[i+m]?:=by
  funext m
  have:((i:Int)+(m:Int) * 1).toNat=i+m:=by omega
  rw[this]
 rw[e]
 have:=pick_run xs i k
 rw[List.filterMap_map]at this;have E:((λx=>xs[x]?) ∘ λx=>i+x)=λm=>xs[i+m]?:=rfl;rw[E]at this;rw[this]
def NZ {t S:Addr}{l v:Value}{lo i:bN}(ht:IsTup s.heap t items)(d:s.heap.IsSliceOf S l v .none)(p:IsPart l lo)(pu:IsPart v i)
  (hw:¬(qj items.size 0 lo=0/\qj items.size items.size i=items.size))
  (h:Q (.ref s.heap.objs.size) { s with heap:=s.heap.push { cls:=.type "tuple",data:=.seq ((items.toList.drop (qj items.size 0 lo)).take (qj items.size items.size i-qj items.size 0 lo)).toArray } })
  (z:items.size<=sizeLine):wpAny (model prog w) A (getItem (.ref t) (.ref S)) Q E s:=by
 have H:sizeOk (.seq ((items.toList.drop (qj items.size 0 lo)).take (qj items.size items.size i-qj items.size 0 lo)).toArray):=by
  show((items.toList.drop (qj items.size 0 lo)).take (qj items.size items.size i-qj items.size 0 lo)).toArray.size<=sizeLine;rw[az,bj,bC,length_toList];omega
 have j:qj items.size items.size i<=items.size:=Bc _ _ (ao _) i;obtain⟨os,a,b,e⟩:=id d;have c:s.TypeIs (.ref S) "slice":=⟨os,a,b⟩;unfold getItem
 try with_reducible refine wpAny_holding ?_
 first|refine bU (bV ?_)|skip
 refine bU (wpAny_sequenceKey ht.typeIs (by decide) ?_)
 refine bU (wpAny_callSpecial?_slot (name:=Str.ofString "__getitem__") ht.typeIs PyProof.Rows.slot_tuple_getitem
  (wpAny_call_entry PyProof.Rows.slot_tuple_getitem ht.typeIs entry_tuple_getitem ?_ (args_tuple_getitem _ _)))
 show wpAny _ _ (Builtin.Tuple.tupleItemsOf (.ref t) >>= _) _ _ s;refine bU (tupleItemsOf_ ht ?_);refine bU (wpAny_typeOf c ?_);rw[ag (by decide)]
 refine bU (Ud d p pu ?_);have o:¬((((qj items.size 0 lo:Nat):Int)==0&&(1:Int)==1&&(qj items.size items.size i-qj items.size 0 lo)==items.size)=true):=by
  intro q;rw[aq,aq]at q;have g:((qj items.size 0 lo:Nat):Int)=0:=eq_of_beq q.1.1;have f:qj items.size items.size i-qj items.size 0 lo=items.size:=eq_of_beq q.2;exact hw ⟨by omega,by omega⟩
 show wpAny _ _ (if (((qj items.size 0 lo:Nat):Int)==0&&(1:Int)==1&&(qj items.size items.size i-qj items.size 0 lo)==items.size)=true then _ else _) _ _ s;rw[aj o,Fv]
 first
  |exact bU (m:=Builtin.Tuple.tupleExact _) (wpAny_newObj_type (bV ⟨_,rfl,bV h⟩) H)
  |exact bU (m:=Builtin.Tuple.tupleExact _) (wpAny_newObj_type (bU (bV (bV ⟨_,rfl,bV h⟩))) H)
  |exact bU (bU (m:=Builtin.Tuple.tupleExact _) (wpAny_newObj_type (bV (bV ⟨_,rfl,bV h⟩)) H))
  |exact bU (bU (m:=Builtin.Tuple.tupleExact _) (wpAny_newObj_type (bV ⟨_,rfl,bV h⟩) H))
end
end HT
namespace L2
open PySem PySem.Spec PyProof.Rows
abbrev TO:=St->Hp->(Option Int->Hp->Prop)->Prop
def PO (X:Cx)(e:Option Expr)(t:TO):Prop:=
 ∀(pins:bI)(s:Shared)(σ:St)(H:Hp)(Q:Option Int->Hp->Prop),Inv X pins σ H s->t σ H Q->
  wpAny (model X.prog X.w) X.A (evalPart e X.env) (λu S=>∃o h,Inv X pins σ h S/\IsPart u o/\Q o h) X.xe s
noncomputable def EI:TO:=λ_ H Q=>Q none H
noncomputable def AB (t:TE):TO:=λσ H Q=>t σ H λx H1=>∃i,x=.int i/\Q (some i) H1
section
variable {te:TE}{lo hi:Option Expr}{tl th:TO}{p2:Pos}
def ET:PO X none EI:=by
 intro pins s σ H Q I h;rw[evalPart_none];exact bV ⟨none,H,I,.none,h⟩
def Ce (h:PE X e te):PO X (some e) (AB te):=by
 intro pins s σ H Q I hw;rw[evalPart_some];refine zY (h pins s σ H _ I hw) λu s1 ⟨x,H1,b,r,a⟩=>?_;obtain⟨i,rfl,q⟩:=a;obtain⟨t,rfl⟩:=r;exact⟨some i,H1,b,.int i t,q⟩
def YG (X:Cx)(r:V->Option Int->Option Int->Hp->VK->Prop):Prop:=
 ∀(pins:bI)(s:Shared)(σ:St)(H:Hp)(x:V)(v l u:Value)(lo hi:bN)(S:Addr)(Q:VK),Inv X pins σ H s->RelV x v->s.heap.IsSliceOf S l u .none->IsPart l lo->IsPart u hi->r x lo hi H Q->
  ∃T id,typeLookup (.type T) "__getitem__"=pure (some (.builtin id))/\s.TypeIs v T/\wpAny (model X.prog X.w) X.A (getItem v (.ref S)) (EP X pins σ Q) X.xe s
noncomputable def cH (r:V->Option Int->Option Int->Hp->VK->Prop)(e:TE)(t T:TO):TE:=λσ H Q=>e σ H λx H1=>t σ H1 λl a=>T σ a λu h=>r x l u h Q
def Eu {r:V->Option Int->Option Int->Hp->VK->Prop}(n:YG X r)(he:PE X e te)(o:PO X lo tl)(m:PO X hi th):PE X (.Subscript e (.Slice lo hi none p2) pos) (cH r te tl th):=by
 intro pins s σ H Q I h;refine Subscript_ (zY (he pins s σ H _ I h) λv s1 ⟨x,H1,C,f,j⟩=>?_);refine wpAny_Slice (zY (o pins s1 σ H1 _ C j) λc s2 ⟨l,D,B,p,i⟩=>zY (m pins s2 σ D _ B i) λa s3 ⟨u,d,z,pu,g⟩=>?_);rw[evalPart_none];refine bV ?_;have y:Inv X pins σ d { s3 with heap:=s3.heap.push { cls:=.type "slice",data:=.fields #[c,a,.none] } }:=z.kept (t':=s3.toks) λb ob q=>af _ q
 obtain⟨T,id,hT,ht,t⟩:=n pins { s3 with heap:=s3.heap.push { cls:=.type "slice",data:=.fields #[c,a,.none] } } σ d x v c a l u s3.heap.objs.size Q y f (Heap.IsSliceOf.new ..) p pu g
 show wpAny (model X.prog X.w) X.A (subscriptTail e (.Slice lo hi none p2) v (.ref s3.heap.objs.size)) (EP X pins σ Q) X.xe { s3 with heap:=s3.heap.push { cls:=.type "slice",data:=.fields #[c,a,.none] } }
 exact tail_any (ops:=[.ref s3.heap.objs.size,v]) ht hT t (by with_unfolding_all rfl)
noncomputable def wY (xs:List V)(lo h:bN):List V:=(xs.drop (HT.qj xs.length 0 lo)).take (HT.qj xs.length xs.length h-HT.qj xs.length 0 lo)
def TZ (xs:List V)(lo h:bN):(wY xs lo h).length<=xs.length:=by
 unfold wY;rw[bj,bC];omega
def cI (K:Frag):V->Option Int->Option Int->Hp->VK->Prop:=λx lo h H Q=>∃a xs,x=.ref a/\qA K H a xs/\
 ¬(HT.qj xs.length 0 lo=0/\HT.qj xs.length xs.length h=xs.length)/\∀p,H p=none->Q (.ref p) (upd H p (.tup (wY xs lo h)))
def C0:YG X (cI X.K):=by
 intro pins s σ H x v l u lo c S Q I d f p pu h;obtain⟨a,xs,rfl,e,hw,q⟩:=h;cases d;obtain⟨i,r,ht,z⟩:=I.tuple e;have hlen:i.toArray.size=xs.length:=by rw[az];exact r.length.symm
 refine⟨"tuple",_,PyProof.Rows.slot_tuple_getitem.lookup,ht.typeIs,?_⟩;refine HT.NZ ht f p pu (by rw[hlen];exact hw) ?_ (by rw[hlen];exact z)
 rw[hlen];refine⟨.ref s.heap.objs.size,_,I.laid (t':=s.toks) (o:=.tup (wY xs lo c)) (λb ob q=>af _ q) (ao _) ?_,rfl,q _ (I.hok.fresh (ao _))⟩;exact⟨a7 (TZ xs lo c) z,_,(r.drop (HT.qj xs.length 0 lo)).take (HT.qj xs.length xs.length c-HT.qj xs.length 0 lo),Zu.new _ _⟩
def OK (K:Frag):R2:=λx y H Q=>∃a b xs Y,x=.ref a/\y=.ref b/\qA K H a xs/\qA K H b Y/\xs≠[]/\xs.length+Y.length<=sizeLine/\
 (Y=[]->Q (.ref a) H)/\(Y≠[]->∀p,H p=none->Q (.ref p) (upd H p (.tup (xs++Y))))
def Vals.nil_iff {us:bG}(r:Vals xs us):us=[]↔xs=[]:=by
 cases r with
 |nil=>simp|cons _ _=>simp
def Cn:qP X (binaryOp .Add) (OK X.K):=by
 intro pins s σ H x y v u Q I f e h;obtain⟨a,b,xs,Y,rfl,rfl,t,n,m,d,j,g⟩:=h;cases f;cases e;obtain⟨l,c,P,_⟩:=I.tuple t;obtain⟨i,r,p,_⟩:=I.tuple n;refine HT.DF P p (λz=>m (c.nil_iff.mp z)) (λz=>⟨.ref a,H,I,rfl,j (r.nil_iff.mp z)⟩) (λz=>?_) (by rw[<- c.length,<- r.length];exact d)
 refine⟨.ref s.heap.objs.size,_,I.laid (t':=s.toks) (o:=.tup (xs++Y)) (λb ob q=>af _ q) (ao _) ?_,rfl,g (λw=>z (r.nil_iff.mpr w)) _ (I.hok.fresh (ao _))⟩;exact⟨by rw[aE];exact d,_,c.append r,Zu.new _ _⟩
end
noncomputable def wC (n:Nat)(i:Int):Option Nat:=if 0<=i then(if i<n then some i.toNat else none) else if -(n:Int)<=i then some (i+n).toNat else none
def kN (xs:List α)(i:Int):Option α:=(wC xs.length i).bind λj=>xs[j]?
def Pg {i:Int}{j:Nat}(h:wC n i=some j):seqIndex? i n=some j/\j<n/\-(n:Int)<=i/\i<n:=by
 unfold wC at h
 by_cases h0:0<=i
 ·rw[ag h0]at h
  by_cases h1:i<n
  ·rw[ag h1]at h
   have e:i.toNat=j:=aD h;exact⟨by rw[seqIndex_of h0 h1,e],by omega,by omega,h1⟩
  ·rw[aj h1]at h;cases h
 ·rw[aj h0]at h
  by_cases h1:-(n:Int)<=i
  ·rw[ag h1]at h
   have e:(i+n).toNat=j:=aD h;exact⟨by rw[seqIndex_neg (by omega) h1,e],by omega,h1,by omega⟩
  ·rw[aj h1]at h;cases h
def Xn {xs:List α}{i:Int}{v:α}(h:kN xs i=some v):∃j,seqIndex? i xs.length=some j/\xs[j]? =some v/\j<xs.length/\-(xs.length:Int)<=i/\i<xs.length:=by
 unfold kN at h;cases e:wC xs.length i with
 |none=>rw[e]at h;cases h|some j=>
  rw[e]at h;obtain⟨c,b,a,H⟩:=Pg e;exact⟨j,c,h,b,a,H⟩
def KQ {xs:List α}{j:Nat}{v:α}(h:xs[j]? =some v):kN xs (j:Int)=some v:=by
 have H:j<xs.length:=(bY.mp h).1;have e:wC xs.length (j:Int)=some j:=by
  unfold wC;rw[ag (by omega),ag (by omega)];simp
 unfold kN;rw[e];exact h
def R9 (b:Expr):Prop:=∀o i,subscripted b false o i=operate [o,i] (getItem o i)
def Zf (X:Cx)(r:R2):Prop:=
 ∀(value slice:Expr)(pins:bI)(s:Shared)(σ:St)(H:Hp)(x y:V)(v u:Value)(Q:VK),Inv X pins σ H s->RelV x v->RelV y u->r x y H Q->
  subscripted slice false v u=operate [v,u] (getItem v u)->wpAny (model X.prog X.w) X.A (subscriptTail value slice v u) (EP X pins σ Q) X.xe s
def Jz (X:Cx)(id:String)(r:V->List V->Hp->VK->Prop):Prop:=
 ∀(pins:bI)(s:Shared)(σ:St)(H:Hp)(x:V)(xs:List V)(v:Value)(us:bG)(Q:VK),Inv X pins σ H s->RelV x v->Vals xs us->r x xs H Q->
  wpAny (model X.prog X.w) X.A (call (.builtin id) (v::us)) (EP X pins σ Q) X.xe s
section
variable {a b:Expr}{ta tb:TE}
def Zf.or {r c:R2}(h:Zf X r)(h':Zf X c):Zf X (λx y H Q=>r x y H Q∨c x y H Q):=by
 intro value slice pins s σ H x y v u Q I b a q d;rcases q with q|q
 ·exact h value slice pins s σ H x y v u Q I b a q d
 ·exact h' value slice pins s σ H x y v u Q I b a q d
def cJ {r:R2}(f:Zf X r)(i:PE X a ta)(g:PE X b tb)(e:R9 b):PE X (.Subscript a b pos) (YE r ta tb):=by
 intro pins s σ H Q I h;exact Subscript_ (Vg i g I h λv u s2 x y l j d c q=>f a b pins s2 σ l x y v u Q j d c q (e _ _))
def Nd (K:Frag):R2:=λx y H Q=>∃p xs i v,x=.ref p/\y=.int i/\qV K H p xs/\kN xs i=some v/\Q v H
def O1 (K:Frag):R2:=λx y H Q=>∃p xs i v,x=.ref p/\y=.int i/\qA K H p xs/\kN xs i=some v/\Q v H
def O2:R2:=λx y H Q=>∃z i c,x=.str z/\y=.int i/\z.length<=sizeLine/\kN z.cps.toList i=some c/\Q (.str ⟨#[c]⟩) H
def EH:Zf X (Nd X.K):=by
 intro value slice pins s σ H x y v u Q I g f h e;obtain⟨p,xs,i,z,rfl,rfl,l,he,q⟩:=h;cases g;obtain⟨t,rfl⟩:=f;obtain⟨c,r,P,B⟩:=I.list l;obtain⟨j,a,A,C,o,n⟩:=Xn he;obtain⟨w,E,b⟩:=r.get A;have m:=r.length;have hn:=Ja;have fin:EP X pins σ Q w s:=⟨z,H,I,b,q⟩
 by_cases h0:0<=i
 ·have d:i.toNat=j:=by
   rw[seqIndex_of h0 n]at a;exact aD a
  exact item_listR P.isList h0 (by omega) (by rw[d];simpa using E) fin e
 ·have d:(i+(c.toArray.size:Int)).toNat=j:=by
   rw[seqIndex_neg (by omega) o]at a
   rw[az,<- m];exact aD a
  exact subscriptTail_builtinR (x:=w) P.isList.typeIs slot_list_getitem.lookup
   (wpAny_getItem_list_neg (Q:=λr S=>r=w/\EP X pins σ Q r S) P.isList (by omega) (by rw[az]<;>omega) (by omega) (by rw[d];simpa using E) ⟨rfl,fin⟩) e
def Cs:Zf X (O1 X.K):=by
 intro value slice pins s σ H x y v u Q I c b h e;obtain⟨p,xs,i,z,rfl,rfl,f,he,q⟩:=h;cases c;obtain⟨t,rfl⟩:=b;obtain⟨d,r,P,n⟩:=I.tuple f;obtain⟨j,m,g,B,A,o⟩:=Xn he;obtain⟨w,E,a⟩:=r.get g;have l:=r.length;have hn:=Ja;have fin:EP X pins σ Q w s:=⟨z,H,I,a,q⟩;exact subscriptTail_builtinR (x:=w) P.typeIs slot_tuple_getitem.lookup
  (getItem_tuple (j:=j) (Q:=λr S=>r=w/\EP X pins σ Q r S) P (by omega) (by omega) (by rw[az,<- l];exact m) (by simpa using E) ⟨rfl,fin⟩) e
def BF:Zf X O2:=by
 intro value slice pins s σ H x y v u Q I b r h d;obtain⟨z,i,c,rfl,rfl,n,he,q⟩:=h;obtain⟨t,rfl⟩:=b;obtain⟨t',rfl⟩:=r;obtain⟨j,a,g,o,f,e⟩:=Xn he;have l:z.cps.toList.length=z.length:=by simp[Str.length]
 rw[l]at a f e;have hn:=Ja;exact tail_any (typeIs_str s z t) slot_str_getitem.lookup (getItem_str (c:=c) (by
  have m:decide (i < -(2 ^ 63:Int))=false:=aJ (by omega)
  have E:decide (i ≥ 2 ^ 63)=false:=aJ (by omega)
  rw[m,E,Bool.or_false]) (by rw[a];simpa using g) ⟨.str ⟨#[c]⟩,H,I.tok _,⟨_,rfl⟩,q⟩) d
def Nu (K:Frag):R2:=λx y H Q=>Nd K x y H Q∨O1 K x y H Q∨O2 x y H Q
def CN:Zf X (Nu X.K):=EH.or (Cs.or BF)
def Ir (i:bG)(n j:Nat)(u:Value):Obj.mapSeq (·.setIfInBounds j u) { cls:=.type "list",data:=.seq i.toArray n }={ cls:=.type "list",data:=.seq (i.set j u).toArray n }:=by
 simp[Obj.mapSeq]
theorem Inv.lst {pins:bI}{σ:St}{H:Hp}{s:Shared}{p:Addr}{xs:List V}(I:Inv X pins σ H s)(h:H p=some (.lst xs)):
  ∃(i:bG) (n:Nat),Vals xs i/\s.heap.get? p=some { cls:=.type "list",data:=.seq i.toArray n }/\xs.length<=sizeLine:=by
 obtain⟨z,i,n,r,e⟩:=I.hok p _ h;exact⟨i,n,r,e,z⟩
def Inv.lstUpd {p:Addr}{its':bG}{N:Nat}{f:Obj->Obj}(I:Inv X pins σ H s)(h:H p=some (.lst xs))
  (o:s.heap.get? p=some { cls:=.type "list",data:=.seq its.toArray n })(hf:f { cls:=.type "list",data:=.seq its.toArray n }={ cls:=.type "list",data:=.seq its'.toArray N })(r:Vals ys its')(z:ys.length<=sizeLine)(t:Nat):
  Inv X pins σ (upd H p (.lst ys)) { s with heap:=s.heap.update p f,toks:=t }:=by
 have e:(s.heap.update p f).get? p=some { cls:=.type "list",data:=.seq its'.toArray N }:=by
  rw[Heap.get?_update_self f o (by rw[hf]<;>rfl),hf]
 refine I.write (x:=p) (e:=p) (by rw[h];trivial) (.inl rfl) (λb u a q=>(Heap.get?_update_other _ _ (Ne.symm a)).trans q) ⟨_,e⟩ ?_
 exact⟨z,its',N,r,e⟩
def OH:V->V->V->Hp->(Hp->Prop)->Prop:=λo i v H Q=>∃p xs k j,o=.ref p/\i=.int k/\H p=some (.lst xs)/\wC xs.length k=some j/\Q (upd H p (.lst (xs.set j v)))
def set_list:Ww X OH:=by
 intro pins s σ H o i v A B u Q I ro x w h;obtain⟨p,xs,k,j,rfl,rfl,e,y,q⟩:=h;cases ro;obtain⟨t,rfl⟩:=x;obtain⟨a,n,r,c,z⟩:=I.lst e;obtain⟨b,C,g,f⟩:=Pg y;have l:=r.length;have hn:=Ja;have m:Inv X pins σ (upd H p (.lst (xs.set j v))) { s with heap:=s.heap.update p (Obj.mapSeq (·.setIfInBounds j u)) }:=
  I.lstUpd e c (Ir a n j u) (r.set w j) (by rw[List.length_set];exact z) s.toks
 by_cases h0:0<=k
 ·have d:k.toNat=j:=by
   rw[seqIndex_of h0 f]at b;exact aD b
  exact PySem.W.ki_setAt c h0 (by omega) (by rw[az,<- l];exact f) (by rw[d];exact⟨_,m,q⟩)
 ·have d:(k+(a.toArray.size:Int)).toNat=j:=by
   rw[seqIndex_neg (by omega) g]at b
   rw[az,<- l];exact aD b
  exact PySem.W.ki_setBack c (by omega) (by rw[az,<- l];exact g) (by omega) (by rw[d];exact⟨_,m,q⟩)
def LH (lo H:bN)(n:Nat):(sliceBounds lo H none n).1=((HT.qj n 0 lo:Nat):Int)/\(sliceBounds lo H none n).2.1=((HT.qj n n H:Nat):Int)/\(sliceBounds lo H none n).2.2=1:=by
 refine⟨?_,?_,rfl⟩
 ·cases lo with
  |none=>simp[sliceBounds,HT.qj]|some i=>
   simp only[sliceBounds,HT.qj,getD_none,show(1:Int) > 0 by decide,if_true]
   by_cases h:i<0
   ·simp only[h,if_true]<;>omega
   ·simp only[h,if_false]<;>omega
 ·cases H with
  |none=>simp[sliceBounds,HT.qj]|some i=>
   simp only[sliceBounds,HT.qj,getD_none,show(1:Int) > 0 by decide,if_true]
   by_cases h:i<0
   ·simp only[h,if_true]<;>omega
   ·simp only[h,if_false]<;>omega
def ML (i:bG)(lo h:bN):slicePick i.toArray lo h none=((i.drop (HT.qj i.length 0 lo)).take (HT.qj i.length i.length h-HT.qj i.length 0 lo)).toArray:=by
 obtain⟨b,a,H⟩:=LH lo h i.toArray.size;unfold slicePick;rw[b,a,H];simp only[sliceRange_one,pick_run,az]<;>rfl
def Nc (K:Frag):V->Option Int->Option Int->Hp->VK->Prop:=λx lo h H Q=>∃a xs,x=.ref a/\qV K H a xs/\∀p,H p=none->Q (.ref p) (upd H p (.lst (wY xs lo h)))
def D0:YG X (Nc X.K):=by
 intro pins s σ H x v l u lo i S Q I c f p pu h;obtain⟨a,xs,rfl,e,q⟩:=h;cases c;obtain⟨d,r,ht,z⟩:=I.list e;have hlen:=r.length;refine⟨"list",_,slot_list_getitem.lookup,ht.isList.typeIs,?_⟩;refine wpAny_getItem_list_slice ht.isList f p pu .none (by simp) ?_ (by rw[az]<;>omega)
 rw[ML,<- hlen];refine⟨.ref s.heap.objs.size,_,I.laid (t':=s.toks) (o:=.lst (wY xs lo i)) (λb ob q=>af _ q) (ao _) ?_,rfl,q _ (I.hok.fresh (ao _))⟩;exact⟨a7 (TZ xs lo i) z,_,0,(r.drop (HT.qj xs.length 0 lo)).take (HT.qj xs.length xs.length i-HT.qj xs.length 0 lo),aA _ rfl⟩
noncomputable def ki:V->Bool
 |.non=>true|.bl _=>true|.int _=>true|.str _=>true|_=>false
noncomputable def wd:V->V->Bool
 |.non,.non=>true|.bl a,.bl b=>a==b|.bl a,.int b=>(if a then 1 else 0)==b|.int a,.bl b=>a==(if b then 1 else 0)|.int a,.int b=>a==b|.str a,.str b=>a==b|_,_=>false
def CY {A:Around}{y x:V}{v:Value}(c:RelV y u)(r:RelV x v)(d:ki y=true)(f:ki x=true):SeqAt.EqAt A s u v (wd y x):=by
 cases y with
 |non=>
  cases c;cases x with
  |non=>cases r;exact SeqAt.EqAt.same _|bl b=>cases r;exact SeqAt.EqAt.none_bool b|int b=>obtain⟨t,rfl⟩:=r;exact SeqAt.EqAt.none_int b t|str b=>obtain⟨t,rfl⟩:=r;exact SeqAt.EqAt.none_str b t|_=>exact absurd (show false=true from f) ay
 |bl a=>
  cases c;cases x with
  |non=>cases r;exact SeqAt.EqAt.bool_none a|bl b=>cases r;exact SeqAt.EqAt.bool_bool a b|int b=>obtain⟨t,rfl⟩:=r;exact SeqAt.EqAt.bool_int a b t|str b=>obtain⟨t,rfl⟩:=r;exact SeqAt.EqAt.bool_str a b t|_=>exact absurd (show false=true from f) ay
 |int a=>
  obtain⟨t',rfl⟩:=c;cases x with
  |non=>cases r;exact SeqAt.EqAt.int_none a t'|bl b=>cases r;exact SeqAt.EqAt.int_bool a t' b|int b=>obtain⟨t,rfl⟩:=r;exact SeqAt.EqAt.int_int a t' b t|str b=>obtain⟨t,rfl⟩:=r;exact SeqAt.EqAt.int_str a t' b t|_=>exact absurd (show false=true from f) ay
 |str a=>
  obtain⟨t',rfl⟩:=c;cases x with
  |non=>cases r;exact SeqAt.EqAt.str_none a t'|bl b=>cases r;exact SeqAt.EqAt.str_bool a t' b|int b=>obtain⟨t,rfl⟩:=r;exact SeqAt.EqAt.str_int a t' b t|str b=>obtain⟨t,rfl⟩:=r;exact SeqAt.EqAt.str_str a t' b t|_=>exact absurd (show false=true from f) ay
 |_=>exact absurd (show false=true from d) ay
def wA (x:V)(u:Value):Bool:=match u with
 |.none=>wd .non x|.bool b=>wd (.bl b) x|.int i _=>wd (.int i) x|.str z _=>wd (.str z) x|_=>false
def XJ {x y:V}(r:RelV y u)(f:ki y=true):wA x u=wd y x:=by
 cases y with
 |non=>cases r;rfl|bl b=>cases r;rfl|int i=>obtain⟨t,rfl⟩:=r;rfl|str z=>obtain⟨t,rfl⟩:=r;rfl|_=>exact absurd (show false=true from f) ay
theorem Xz {x:V}:∀{xs:List V}{us:bG},Vals xs us->xs.all ki=true->us.any (wA x)=xs.any λy=>wd y x
 |_,_,.nil,_=>rfl|y::xs,u::us,.cons r t,f=>by
  rw[all_cons,aq]at f;rw[any_cons,any_cons,XJ r f.1,Xz t f.2]
theorem J5 {A:Around}{x:V}{v:Value}(a:RelV x v)(b:ki x=true):∀{xs:List V}{us:bG},Vals xs us->xs.all ki=true->∀u∈us,SeqAt.EqAt A s u v (wA x u)
 |_,_,.nil,_=>λu h=>by cases h|y::xs,u::us,.cons r t,f=>λU h=>by
  rw[all_cons,aq]at f;rcases b0.mp h with rfl|h
  ·rw[XJ r f.1];exact CY r a f.1 b
  ·exact J5 a b t f.2 U h
def WO (x:V)(xs:List V):Bool:=xs.any λy=>wd y x
def NB (K:Frag)(neg:Bool):R2:=λx y H Q=>∃p xs,y=.ref p/\(qV K H p xs∨qA K H p xs)/\ki x=true/\xs.all ki=true/\Q (.bl (if neg then !WO x xs else WO x xs)) H
def HC:qP X (compareOp .In) (NB X.K false):=by
 intro pins s σ H x y v u Q I b c h;obtain⟨p,xs,rfl,a,f,fs,q⟩:=h;cases c;rcases a with a|a
 ·obtain⟨i,r,P,z⟩:=I.list a
  refine SeqAt.in_listAt (wA x) P.isList (λw hw=>J5 b f r fs w (by simpa using hw)) ⟨.bl _,H,I,rfl,?_⟩
  rw[show i.toArray.any (wA x)=i.any (wA x) by simp,Xz r fs]
  exact q
 ·obtain⟨i,r,P,z⟩:=I.tuple a
  refine SeqAt.in_tupleAt (wA x) P (λw hw=>J5 b f r fs w (by simpa using hw)) ⟨.bl _,H,I,rfl,?_⟩
  rw[show i.toArray.any (wA x)=i.any (wA x) by simp,Xz r fs]
  exact q
def Ly:yv X (.builtin "len") (λxs H Q=>∃p y,xs=[.ref p]/\(qV X.K H p y∨qA X.K H p y)/\Q (.int y.length) H):=by
 intro pins s σ H xs us Q I r h;obtain⟨p,y,rfl,a,q⟩:=h;obtain⟨u,rfl,x⟩:=vals1 r;cases x;have hn:=Ja;rcases a with a|a
 ·obtain⟨i,b,P,z⟩:=I.list a
  have hlen:=b.length;exact Calls.call_len_list P.isList (by simp only[az]<;>omega) ⟨.int y.length,H,I.tok _,⟨s.toks+1,by rw[az,hlen]⟩,q⟩
 ·obtain⟨i,b,P,z⟩:=I.tuple a
  have hlen:=b.length;exact len_tuple P (by simp only[az]<;>omega) ⟨.int y.length,H,I.tok _,⟨s.toks+1,by rw[az,hlen]⟩,q⟩
def Lz:yv X (.type "list") (λxs H Q=>∃p y,xs=[.ref p]/\(qV X.K H p y∨qA X.K H p y)/\∀l,H l=none->Q (.ref l) (upd H l (.lst y))):=by
 intro pins s σ H xs us Q I r h;obtain⟨p,y,rfl,d,q⟩:=h;obtain⟨u,rfl,x⟩:=vals1 r;cases x;have fin:∀(its:bG),Vals y its->y.length<=sizeLine->∀(h':Heap)(c:Nat),(∀b o',s.heap.get? b=some o'->h'.get? b=some o')->
   h'.get? s.heap.objs.size=some { cls:=.type "list",dict:=none,data:=.seq its.toArray c,slots:=#[] }->EP X pins σ Q (.ref s.heap.objs.size) { s with heap:=h' }:=λits a z h' c kp e=>
  ⟨.ref s.heap.objs.size,_,I.laid (t':=s.toks) kp (ao _) (show jG X.prog X.w _ h' _ (.lst y) from ⟨z,its,c,a,e⟩),rfl,q _ (I.hok.fresh (ao _))⟩
 rcases d with d|d
 ·obtain⟨its,a,P,z⟩:=I.list d
  have hlen:=a.length;obtain⟨o,f,g,n,hd⟩:=P.isList;exact call_list_seq p (.inl rfl) f g hd (λh' c kp e=>fin its a z h' c kp e) (by simp only[az]<;>omega)
 ·obtain⟨its,a,P,z⟩:=I.tuple d
  have hlen:=a.length;obtain⟨o,f,g,n,hd⟩:=P;exact call_list_seq p (.inr rfl) f g hd (λh' c kp e=>fin its a z h' c kp e) (by simp only[az]<;>omega)
def MZ:yv X (.type "tuple") (λxs H Q=>∃p y,xs=[.ref p]/\((qV X.K H p y/\∀l,H l=none->Q (.ref l) (upd H l (.tup y)))∨(qA X.K H p y/\Q (.ref p) H))):=by
 intro pins s σ H xs us Q I r h;obtain⟨p,y,rfl,h⟩:=h;obtain⟨u,rfl,x⟩:=vals1 r;cases x;rcases h with ⟨c,q⟩|⟨c,q⟩
 ·obtain⟨i,a,P,z⟩:=I.list c
  have hlen:=a.length;refine call_tuple_list P.isList (λh' kp=>?_) (by simp only[az]<;>omega)
  have d:Inv X pins σ H { s with heap:=h' }:=I.kept (t':=s.toks) kp
  have f:Inv X pins σ (upd H h'.objs.size (.tup y)) { s with heap:=h'.push { cls:=.type "tuple",data:=.seq i.toArray } }:=
   d.laid (t':=s.toks) (λb o e=>af _ e) (ao _) (show jG X.prog X.w _ _ _ (.tup y) from ⟨z,i,a,Zu.new _ _⟩)
  exact⟨.ref h'.objs.size,_,f,rfl,q _ (d.hok.fresh (ao _))⟩
 ·obtain⟨i,a,P,z⟩:=I.tuple c
  exact call_tuple_same P ⟨.ref p,H,I,rfl,q⟩
def WQ (K:Frag)(T:String)(x:V)(H:Hp):Prop:=match x with
 |.str _=>T = "str"
 |.int _=>T = "int"
 |.ref p=>(T = "list" /\ ∃xs,qV K H p xs)∨(T = "tuple" /\ ∃o,K.lookup p=some o/\o.cls=.type "tuple" /\ o.dict=none)∨
   (T = "dict" /\ ((∃kvs,H p=some (.dK kvs))∨∃kvs,H p=some (.dT kvs)))∨(T = "set" /\ ∃S n,H p=some (.set S n))
 |_=>False
def C4 {T:String}{x:V}{v:Value}(I:Inv X pins σ H s)(r:RelV x v)(ty:WQ X.K T x H):
  s.TypeIs v T/\∀a,v=.ref a->∃ob,s.heap.get? a=some ob/\ob.dict=none:=by
 cases x with
 |str z=>
  obtain⟨t,rfl⟩:=r;cases (show T = "str" from ty)
  exact⟨typeIs_str s z t,λ_ e=>nomatch e⟩
 |int i=>
  obtain⟨t,rfl⟩:=r;cases (show T = "int" from ty)
  exact⟨typeIs_int s i t,λ_ e=>nomatch e⟩
 |ref p=>
  cases r;rcases ty with ⟨rfl,xs,q⟩|⟨rfl,o,h,d,hd⟩|⟨rfl,h⟩|⟨rfl,S,n,h⟩
  ·obtain⟨b,_,P,_⟩:=I.list q
   refine⟨P.isList.typeIs,λa e=>?_⟩;cases e;obtain⟨o,n,e,c,hd,_⟩:=P;exact⟨o,e,hd⟩
  ·refine⟨⟨o,I.kIn p o h,d⟩,λa e=>?_⟩
   cases e;exact⟨o,I.kIn _ o h,hd⟩
  ·have z:∃o,s.heap.get? p=some o/\o.ExactDict:=by
    rcases h with ⟨kvs,h⟩|⟨kvs,h⟩
    ·obtain⟨_,_,_,_,o,_,_,e,ex,_⟩:=I.hok p _ h
     exact⟨o,e,ex⟩
    ·obtain⟨_,_,_,_,o,_,_,e,ex,_⟩:=I.hok p _ h
     exact⟨o,e,ex⟩
   obtain⟨o,e,ex⟩:=z;refine⟨⟨o,e,ex.1⟩,λa E=>?_⟩;cases E;exact⟨o,e,ex.2.1⟩
  ·obtain⟨o,_,_,_,e,ex,_⟩:=I.hok p _ h
   refine⟨⟨o,e,ex.1⟩,λa E=>?_⟩;cases E;exact⟨o,e,ex.2.1⟩
 |_=>exact False.elim ty
noncomputable def cK (K:Frag)(T:String)(r:V->List V->Hp->VK->Prop)(to:TE)(t:TA):TE:=λσ H Q=>to σ H λx H1=>WQ K T x H1/\t σ H1 λxs h=>r x xs h Q
variable {o:Expr}{es:bM}{to:TE}{t:TA}{name:Str}{T id:String}{r:V->List V->Hp->VK->Prop}
def OT (p:PlainAttrs T)(slot:Slot T name id)(y:typeOf (.builtin id)=pure (.type "method_descriptor"))(hm:Jz X id r)(j:PE X o to)(l:PA X (e::es) t)
  (b:attributeBase o name X.env (eval o X.env)=eval o X.env:=by rfl)
  (w:((backTo cpos (starEach (e::es) X.env)).all (λx=>!x.1)&&(backToKw cpos (keywordEach [] X.env)).all (λx=>x.1.isSome)
   && decide ((e::es).length+([]:bR).length+(if ([]:bR).isEmpty then 0 else 1)<30))=true:=by rfl)
  (a:(apos.endLine==cpos.line)=true:=by rfl)(g:starEach (e::es) X.env=(false,eval e X.env)::starEach es X.env:=by rfl)(n:(backTo cpos (starEach es X.env)).any (·.1)=false:=by rfl):
  PE X (.Call (.Attribute o name apos) (e::es) [] cpos) (cK X.K T r to t):=by
 intro pins s σ H Q I h;refine wpAny_Call_method_late b w a rfl (zY (j pins s σ H _ I h) λv s1 ⟨x,H1,i,c,ty,f⟩=>?_);obtain⟨u,m⟩:=C4 i c ty;refine⟨T,id,p,slot,y,u,m,?_⟩;have A:=l cpos pins s1 σ H1 _ i f;rw[g]at A ⊢;refine Calls.callWith_builtin (by show(false || (backTo cpos (starEach es X.env)).any (·.1))=false;rw[n]<;>rfl) (Calls.evalArgs_plain ?_)
 exact zY A λus s2 ⟨vs,B,z,d,q⟩=>hm pins s2 σ B x vs v us Q z c d q
end
def VI (X:Cx)(id:String)(r:V->List V->Hp->VK->Prop):Prop:=
 ∀(pins:bI)(s:Shared)(σ:St)(H:Hp)(x:V)(xs:List V)(v:Value)(us:bG)(Q:VK),Inv X pins σ H s->RelV x v->Vals xs us->r x xs H Q->
  wpAny (model X.prog X.w) X.A (call (.builtin id) (v::us)) (EP X pins σ Q) X.xe s
def Vals.one {x:V}{us:bG}(h:Vals [x] us):∃u,us=[u]/\RelV x u:=by
 cases h with
 |cons r t=>cases t;exact⟨_,rfl,r⟩
def Vals.two {x y:V}{us:bG}(h:Vals [x,y] us):∃u v,us=[u,v]/\RelV x u/\RelV y v:=by
 cases h with
 |cons r t=>exact(Vals.one t).elim λv e=>⟨_,v,by rw[e.1],r,e.2⟩
theorem Vals.eraseIdx:∀{xs:List V}{us:bG}(i:Nat),Vals xs us->Vals (xs.eraseIdx i) (us.eraseIdx i)
 |_,_,_,.nil=>.nil|_,_,0,.cons _ t=>t|_,_,i+1,.cons r t=>.cons r (Vals.eraseIdx i t)
theorem Vals.rep {us:bG}(h:Vals xs us):∀k:Nat,Vals (List.replicate k xs).flatten (List.replicate k us).flatten
 |0=>.nil|k+1=>by
  rw[a8,a8,a6,a6];exact Vals.append h (Vals.rep h k)
theorem Rc:∀(l:List α)(i:Nat),(l.eraseIdx i).length<=l.length
 |[],_=>ao _|_::_,0=>Nat.le_succ _|_::r,i+1=>Nat.succ_le_succ (Rc r i)
theorem foldl_rep (i:bG):∀(k:Nat)(acc:bG),
  List.foldl (λx1 x2=>x1++x2) acc.toArray (List.replicate k i.toArray)=(acc++(List.replicate k i).flatten).toArray
 |0,acc=>by simp|k+1,acc=>by
  have e:acc.toArray++i.toArray=(acc++i).toArray:=by simp
  have E:(acc++i)++(List.replicate k i).flatten=acc++(List.replicate (k+1) i).flatten:=by
   rw[a8,a6,aQ]
  rw[<- E,<- foldl_rep i k (acc++i),<- e,a8,List.foldl_cons]
section
variable {l:Addr}
def Inv.lset {its':bG}{f:Array Value->Array Value}(I:Inv X pins σ H s)(c:H l=some (.lst xs))
  (e:s.heap.get? l=some { cls:=.type "list",data:=.seq its.toArray n })(hf:f its.toArray=its'.toArray)(v:Vals ys its')(h:ys.length<=sizeLine):
  Inv X pins σ (upd H l (.lst ys)) { s with heap:=s.heap.update l (Obj.mapSeq f),toks:=t' }:=by
 have q:=PySem.IsL.update e f;rw[hf]at q;refine I.write (x:=l) (e:=l) (by rw[c];exact trivial) (.inl rfl) (λB u b a=>(Heap.get?_update_other s.heap (Obj.mapSeq f) (Ne.symm b)).trans a) ⟨_,q⟩ ?_
 exact⟨h,its',_,v,q⟩
def Inv.lnew (I:Inv X pins σ H s)(v:Vals ys its)(h:ys.length<=sizeLine):
  Inv X pins σ (upd H s.heap.objs.size (.lst ys)) { s with heap:=s.heap.push { cls:=.type "list",data:=.seq its.toArray },toks:=t' }:=
 I.laid (λ_ _ q=>af _ q) (ao _) ⟨h,its,0,v,aA _ rfl⟩
theorem Inv.fresh (I:Inv X pins σ H s):H s.heap.objs.size=none:=I.hok.fresh (ao _)
def Inv.lstM (I:Inv X pins σ H s)(h:H l=some (.lst xs)):xs.length<=sizeLine/\∃(i:bG) (n:Nat),Vals xs i/\xs.length=i.length/\s.heap.get? l=some { cls:=.type "list",data:=.seq i.toArray n }:=by
 obtain⟨z,i,n,r,e⟩:=I.hok l _ h;exact⟨z,i,n,r,r.length,e⟩
def Ri (h:n<=sizeLine):Builtin.List.listTooLong n=false:=by
 unfold Builtin.List.listTooLong;exact aJ (by omega)
end
section
def DB:V->List V->Hp->VK->Prop:=λx vs H Q=>∃l xs y,x=.ref l/\vs=[y]/\H l=some (.lst xs)/\xs.length<sizeLine/\Q .non (upd H l (.lst (xs++[y])))
def Sz:VI X "list.append" DB:=by
 intro pins s σ H x vs v us Q I b c h;obtain⟨l,xs,y,rfl,rfl,a,f,q⟩:=h;cases b;obtain⟨u,rfl,d⟩:=c.one;obtain⟨z,i,n,r,g,e⟩:=I.lstM a;refine call_meets F.slot_list_append ⟨_,e,rfl⟩ F.entry_list_append (F.args_list_append_2 _ _) (PySem.list_append l i.toArray n u (by rw[az];omega)) ⟨e,?_⟩
 refine⟨.non,_,I.lset (its':=i++[u]) a e (by simp) (r.append (.cons d .nil)) ?_,rfl,q⟩
 rw[aE,aZ];omega
def Dx:V->List V->Hp->VK->Prop:=λx vs H Q=>∃l b xs zs,x=.ref l/\vs=[.ref b]/\H l=some (.lst xs)/\H b=some (.lst zs)/\xs.length+zs.length<=sizeLine/\Q .non (upd H l (.lst (xs++zs)))
def IU:VI X "list.extend" Dx:=by
 intro pins s σ H x vs v us Q I f j h;obtain⟨l,b,xs,zs,rfl,rfl,d,B,t,q⟩:=h;cases f;obtain⟨u,rfl,m⟩:=j.one;cases m;obtain⟨z,a,n,r,w,e⟩:=I.lstM d;obtain⟨Z,i,N,o,p,E⟩:=I.lstM B;have c:a.toArray.size+i.toArray.size<=sizeLine:=by rw[az,az];omega
 have g:¬(!a.toArray.isEmpty&&Builtin.List.listTooLong (a.toArray.size+i.toArray.size))=true:=by
  rw[Ri c,Bool.and_false];exact ay
 refine call_meets F.slot_list_extend ⟨_,e,rfl⟩ F.entry_list_extend (F.args_list_extend_2 _ _)
  (AutoSeq1.list_extend_list_list_0 l a.toArray n b i.toArray N g (by rw[az];omega) (by omega)) ⟨e,E,?_⟩
 refine⟨.non,_,I.lset (its':=a++i) d e (by simp) (r.append o) ?_,rfl,q⟩
 rw[aE];omega
def C3:V->List V->Hp->VK->Prop:=λx vs H Q=>∃l xs i k y,x=.ref l/\vs=[.int i]/\H l=some (.lst xs)/\-(2 ^ 63)<=i/\i<2 ^ 63/\seqIndex? i xs.length=some k/\xs[k]? =some y/\Q y (upd H l (.lst (xs.eraseIdx k)))
def Eb:VI X "list.pop" C3:=by
 intro pins s σ H x vs v us Q I d f h;obtain⟨l,xs,i,k,y,rfl,rfl,c,A,p,o,j,q⟩:=h;cases d;obtain⟨u,rfl,g⟩:=f.one;obtain⟨t,rfl⟩:=g;obtain⟨z,a,n,r,m,e⟩:=I.lstM c;obtain⟨w,hw,b⟩:=r.get j;refine call_meets F.slot_list_pop ⟨_,e,rfl⟩ F.entry_list_pop (F.args_list_pop_2 _ _)
  (MeetsSeq.list_pop_at l a.toArray n i t k w (fitsIndex_both A p) (by rw[az,<- m];exact o) (by rw[<- Array.getElem?_toList];exact hw) (by rw[az];omega)) ⟨e,?_⟩
 refine⟨y,_,I.lset (its':=a.eraseIdx k) c e ?_ (r.eraseIdx k) ?_,b,q⟩
 ·show a.toArray.eraseIdxIfInBounds k=(a.eraseIdx k).toArray
  rw[List.eraseIdxIfInBounds_toArray]
 ·have:=Rc xs k
  omega
def O9:R2:=λx y H Q=>∃l b xs zs,x=.ref l/\y=.ref b/\H l=some (.lst xs)/\H b=some (.lst zs)/\xs.length+zs.length<=sizeLine/\∀p,H p=none->Q (.ref p) (upd H p (.lst (xs++zs)))
def Ba:qP X (binaryOp .Add) O9:=by
 intro pins s σ H x y v u Q I d c h;obtain⟨l,b,xs,zs,rfl,rfl,j,B,o,q⟩:=h;cases d;cases c;obtain⟨z,a,n,r,p,e⟩:=I.lstM j;obtain⟨Z,i,N,f,g,m⟩:=I.lstM B;refine PySem.P.add_list e m ?_ (by rw[az,az];omega)
 have E:a.toArray++i.toArray=(a++i).toArray:=by simp
 rw[E];exact⟨.ref _,_,I.lnew (t':=s.toks) (r.append f) (by rw[aE];omega),rfl,q _ I.fresh⟩
def OZ:R2:=λx y H Q=>∃l k xs,x=.ref l/\y=.int k/\H l=some (.lst xs)/\-(2 ^ 63)<=k/\k<2 ^ 63/\xs.length * k.toNat<=sizeLine/\
 ∀p,H p=none->Q (.ref p) (upd H p (.lst (List.replicate k.toNat xs).flatten))
def len_rep (xs:List α)(k:Nat):(List.replicate k xs).flatten.length=k * xs.length:=by
 induction k with
 |zero=>simp|succ k i=>rw[a8,a6,aE,i,Nat.succ_mul,add_comm]
def Bv:qP X (binaryOp .Mult) OZ:=by
 intro pins s σ H x y v u Q I f d h;obtain⟨l,k,xs,rfl,rfl,o,B,A,c,q⟩:=h;cases f;obtain⟨t,rfl⟩:=d;obtain⟨z,i,n,r,j,e⟩:=I.lstM o;have hlen:i.toArray.size * k.toNat<=sizeLine:=by rw[az,<- j];exact c
 have p:¬i.toArray.size * k.toNat > (2 ^ 63-1)/8:=by
  have:(sizeLine:Nat)<=(2 ^ 63-1)/8:=by decide
  omega
 have b:¬(!Builtin.List.listFitsIndex k)=true:=by
  rw[fitsIndex_both B A];exact ay
 have g:¬Builtin.List.listTooLong (i.toArray.size * k.toNat)=true:=by
  rw[Ri hlen];exact ay
 have w:List.foldl (λx1 x2=>x1++x2) #[] (List.replicate (if i.toArray.isEmpty=true then 0 else k.toNat) i.toArray)=(List.replicate k.toNat i).flatten.toArray:=by
  have f0:∀m:Nat,List.foldl (λx1 x2=>x1++x2) #[] (List.replicate m i.toArray)=(List.replicate m i).flatten.toArray:=λm=>by
   have:=foldl_rep i m []
   rw[bA]at this;exact this
  rw[f0];cases i with
  |nil=>simp|cons a C=>rw[aj (by simp)]
 refine wpAny_binaryOp_repeat_ref (T := "list") (U := "int") (by decide) ⟨_,e,rfl⟩ (λS=>typeIs_int S k t) noFill_list_mul F.fills_int_mul F.slot_int_rmul repeat_list F.slot_int_index.lookup
  (call_meets F.slot_int_rmul (typeIs_int s k t) F.entry_int_rmul (F.args_int_rmul_2 _ _) (int___rmul___int_list k t l i.toArray n)
   ⟨e,rfl,⟨_,e,rfl⟩,call_meets F.slot_list_mul ⟨_,e,rfl⟩ F.entry_list_mul (F.args_list_mul_2 _ _) (AutoListH.list___mul___list_int_3 l i.toArray n k t b p g) ⟨e,?_⟩⟩)
 rw[w];exact⟨.ref _,_,I.lnew (t':=s.toks) (r.rep k.toNat) (by rw[len_rep,mul_comm];exact c),rfl,q _ I.fresh⟩
end
section
set_option maxRecDepth 100000 in
end
end L2
namespace Att
open PySem PySem.W PySem.Calls PyProof.Rows
def Mc {P:Params}:∀(ns:bF)(vs:bG),WellAll P h vs (ns.map WData.int)->IntsAre vs ns:=by
 intro ns
 induction ns with
 |nil=>
  intro vs w;rw[map_nil]at w;cases w;exact .nil
 |cons n ns i=>
  intro vs w;rw[aS]at w;cases w with
  |cons a b=>
   cases a;exact .cons _ _ (i _ b)
def IJ {l:OpenLaw}(hn:l.most=some n){P:Params}{args:List WData}{vals:bG}
  (H:l.row.toRowW.claim.pre args=true)(f:WellAll P h vals args):
  ∃a vs ns,vals=[Value.ref a]/\args=[WData.list (ns.map WData.int)]/\h.get? a=some { cls:=.type "list",data:=.seq vs.toArray }/\IntsAre vs ns/\ns.length<=n:=by
 have g:WShape.hasAll [] args [.list .int]=true:=(pre_splitW H).1;have i:l.pre.holds [] { args:=args }=true:=(pre_splitW H).2;obtain⟨d,r,rfl,s,p⟩:=hasAllW_cons g;obtain rfl:=hasAllW_nil p;obtain⟨xs,rfl,m⟩:=hasW_list s;obtain⟨ns,rfl⟩:=items_int m;have hlen:ns.length<=n:=by
  unfold OpenLaw.pre at i;have e:(WTm.not (.lt (.lit (.int (n:Int))) (.len (.arg 0)))).holds [] { args:=[.list (ns.map .int)] }=true:=by
   have e:=(holds_andW i).1;rw[hn]at e;exact e
  have c:=condW_of e (w_not (w_lt w_lit (w_len_list (w_arg rfl))));rw[ae]at c;refine Nat.le_of_not_lt λq=>?_;have Q:(n:Int)<((ns.length:Nat):Int):=by omega
  first
   |(rw[aw Q]at c;exact absurd c (by decide))
   |(simp at c;omega)
 cases f with
 |cons j w=>
  cases w;cases j with
  |list o b=>exact⟨_,_,ns,rfl,rfl,o,Mc ns _ b,hlen⟩
def HQ (l:OpenLaw)(args:List WData):l.row.toRowW.claim.post args (.bool true) args=true:=
 postW_of (r:=l.row.toRowW) (X:=(true==true))
  (show WShape.has [] (.bool true) .bool=true by first|rfl|decide|simp[WShape.has,WShape.arms,WShape.armsAll])
  (show(WTm.eq .res (.lit (.bool true))).value [] { args:=args,res:=some (.bool true),after:=args }=some (.bool (true==true)) from w_eq_bool (w_res rfl) w_lit) rfl
def L4 {l:OpenLaw}{q:Program}{loose:bK}{d:DefRec}
  (hn:l.most=some n)(i:d.params.defaults=[])
  (call:∀(w:World)(S s:Shared)(mg m:bO)(b:Addr)(o:Obj)(pm cd doc:Value)(a:Addr)(vs:bG)(ns:bF),
   Ground q loose [] XP w S mg m s.heap->YP w s.heap->
   s.heap.get? b=some o->o.data=.func (docDef d.name d.params d.body d.scope pm cd doc)->s.heap.CodeRec cd d.name->mg d.name=some (.ref b)->
   s.heap.get? a=some { cls:=.type "list",data:=.seq vs.toArray }->IntsAre vs ns->ns.length<=n->s.gens=#[]->
   codeAny (model l.prog w) callerA (.call (.ref b) ⟨[.ref a],[]⟩) (λr c=>r=.ok (.ret (.bool true))/\OldK s.heap c.heap/\c.os=s.os/\AllBare c.gens) s):
  WalkO q loose XP YP l.row.toRowW d [] (λf vs=>PySem.call f vs):=by
 intro w S s mg m G Y b o pm cd doc C kV u hd j D g x args vals as h y p e v;obtain rfl:C=.none:=Dflts.none D i;obtain rfl:kV=.none:=Dflts.noKw D;obtain⟨a,vs,ns,rfl,rfl,H,hints,hlen⟩:=IJ hn h e;refine enter_call (codeAny_mono (call w S s mg m b o pm cd doc a vs ns G Y u (fd_plain hd) j g H hints hlen x) λr c t=>?_);obtain⟨rfl,B,A,z⟩:=t;exact⟨.inl ⟨.bool true,.bool true,[],rfl,λ_=>rfl,.bool true,HQ l _,λ_=>⟨List.Pairwise.nil,λ_ hm=>(nomatch hm)⟩⟩,B,A,z⟩
end Att
namespace L2
open PySem PySem.Spec PyProof.Rows
theorem S7:∀{vs:bG}{ns:bF},IntsAre vs ns->Vals (ns.map V.int) vs
 |_,_,.nil=>.nil|_,_,.cons n t h=>.cons ⟨t,rfl⟩ (S7 h)
def Wy (H:Hp):Prop:=∀b,H b=none∨∃o xs,H b=some (.frz o (.lst xs))
def FO {K:Frag}{M:bO}{CX:k9}{k:Nat}{I:Addr}{sp:Sp}{S:Shared}{vs:bG}
  (KX:K.In S.heap)(j:S.heap.Ns mainGlobals mg)(c:S.heap.Ns builtinsNs M)(D:∀x:Str,x ≠ "__name__" -> M x=bootBuiltins x)(p:S.heap.NoLimit)(hg:S.gens=#[])
  (y:S.heap.get? a=some { cls:=.type "list",data:=.seq vs.toArray })(T:IntsAre vs ns)(Q:ns.length<=sizeLine)(hr:jZ k callerA)
  (F:∀base:Heap,K.In base->base.Ns mainGlobals mg->yR P w K mg base CX k I fd [x] sp)(g:∀(s:Shared)(u:Value),BindsTo s fd ⟨[u],[]⟩ [(x,u)])
  (B:∀H:Hp,Wy H->qV K H a (ns.map V.int)->sp [.ref a] H (λv _=>v=.bl true) λ_ _ _=>False)
  (X:∀H e f,CX [] H S (λ_ _ _=>False) e f->False):
  codeAny (model P w) callerA (.call (.ref I) ⟨[.ref a],[]⟩) (λr f=>r=.ok (.ret (.bool true))/\OldK S.heap f.heap/\f.os=S.os/\AllBare f.gens) S:=by
 have L:=S7 T;have l:=T.length;have core:∀H:Hp,Wy H->qV K H a (ns.map V.int)->jI P w H S.heap->(∀b,H b≠none->b=a)->(H a≠none->K.lookup a=none)->
   codeAny (model P w) callerA (.call (.ref I) ⟨[.ref a],[]⟩) (λr f=>r=.ok (.ret (.bool true))/\OldK S.heap f.heap/\f.os=S.os/\AllBare f.gens) S:=by
  intro H U hS hok Y hK;have base_of:∀{b:Addr}{o:Obj},S.heap.get? b=some o->H b=none->(gZ S.heap H).get? b=some o:=λe n=>FA e n;have A:∀{b:Addr}{o:Obj}{es:Array DictEntry}{E:Nat},S.heap.get? b=some o->o.data=.dict es E->H b=none:=λ {b o es E} e d=>by
   cases q:H b with
   |none=>rfl|some u=>
    have J:b=a:=Y b (by rw[q];simp)
    subst J;rw[y]at e;cases e;have d':Data.seq vs.toArray _=Data.dict es E:=d;cases d'
  have N:∀{b:Addr}{m:bO},S.heap.Ns b m->(gZ S.heap H).Ns b m:=λ {b m} ⟨o,es,E,e,d,r⟩=>⟨o,es,E,base_of e (A e d),d,r⟩;have t:K.In (gZ S.heap H):=λb o e=>base_of (KX b o e) (by
   cases q:H b with
   |none=>rfl|some u=>
    have J:b=a:=Y b (by rw[q];simp)
    subst J;rw[hK (by rw[q];simp)]at e;cases e)
  have hM:Mod K mg (gZ S.heap H):=⟨t,N j,⟨M,N c,D⟩,let ⟨mc,h1,h2⟩:=p;⟨mc,N h1,h2⟩⟩
  have e0:Wk P w K mg (gZ S.heap H) callerA [] S H:=⟨rfl,hM,λb o e=>E5 e,Nat.le_of_eq (Hu _ _),trivial,λb c=>absurd (show b∈([]:bH) from c) (by simp),hok,.of_eq hg⟩
  refine codeAny_mono ((F _ t (N j)).run callerA [] S H ⟨[.ref a],[]⟩ [.ref a] [.ref a] _ _ hr e0 (g S (.ref a)) (.cons rfl .nil) (B H U hS)) λr f h=>?_;cases r with
  |error e=>exact(X H e f h).elim|ok fl=>
   cases fl with
   |next=>exact False.elim h|brk=>exact False.elim h|cont=>exact False.elim h|ret u=>
    obtain⟨v,H',os,bare,un,i,r',q⟩:=h;have q':v=.bl true:=q;subst q';obtain rfl:u=Value.bool true:=r';refine⟨rfl,OldK.of_keep λb o e=>?_,os,bare⟩;cases q:H b with
    |none=>exact un.keep b o e q (by intro z;exact absurd (show b∈([]:bH) from z) (by simp)) (by simp)|some u=>
     rcases U b with z|⟨ob,xs,z⟩
     ·rw[q]at z;cases z
     ·have z2:=un.frzs b ob _ z
      obtain⟨e1,_⟩:=hok b _ z;obtain⟨e2,_⟩:=i b _ z2;rw[e]at e1;cases e1;exact e2
 cases C:K.lookup a with
 |some o=>
  have e:=KX a o C;rw[y]at e;cases e;refine core (λ_=>none) (λ_=>.inl rfl) (.inr ⟨_,vs.toArray,_,C,rfl,rfl,rfl,by rw[az,l];exact Q,by simpa using L⟩) (λb u z=>by have Z:(none:Option HO)=some u:=z;cases Z) (λb z=>absurd rfl z) λz=>absurd rfl z
 |none=>
  refine core (λb=>if b=a then some (.frz { cls:=.type "list",data:=.seq vs.toArray } (.lst (ns.map V.int))) else none) (λb=>?_) (.inl (.inr ⟨{ cls:=.type "list",data:=.seq vs.toArray },ag rfl⟩)) (λb u z=>?_) (λb z=>?_) λ_=>C
  ·by_cases c:b=a
   ·exact .inr ⟨_,_,ag c⟩
   ·exact .inl (aj c)
  ·by_cases c:b=a
   ·have Z:=(ag c).symm.trans z
    cases Z;subst c;exact⟨y,by rw[ae];exact Q,vs,_,L,y⟩
   ·have Z:=(aj c).symm.trans z
    cases Z
  ·by_cases c:b=a
   ·exact c
   ·exact absurd (aj c) z
noncomputable abbrev Ny {K:Frag}(_:K.In h):Frag:=K
def Dk {l:PySem.W.OpenLaw}{k:Nat}{q:Program}{loose:bK}{d:DefRec}{K:Params->Frag}{CX:World->k9}{sp:World->Sp}
  (hn:l.most=some n)(m:n<=sizeLine)(t:d.params.defaults=[])(A:jZ k callerA)
  (E:∀(w:World)(h:Heap),YP w h->(K w.params).In h)
  (F:∀(w:World)(mg:bO)(c:Addr)(h:Heap),(K w.params).In h->h.Ns mainGlobals mg->mg d.name=some (.ref c)->
   ∃fd:FuncData,(∀(s:Shared)(u:Value),BindsTo s fd ⟨[u],[]⟩ [(x,u)])/\
    ∀base:Heap,(K w.params).In base->base.Ns mainGlobals mg->yR l.prog w (K w.params) mg base (CX w) k c fd [x] (sp w))
  (p:∀(w:World)(H:Hp)(a:Addr)(ns:bF),ns.length<=n->Wy H->qV (K w.params) H a (ns.map V.int)->sp w [.ref a] H (λv _=>v=.bl true) λ_ _ _=>False)
  (X:∀(w:World)(H:Hp)(s:Shared)(e:Value)(i:Shared),CX w [] H s (λ_ _ _=>False) e i->False):
  PySem.W.WalkO q loose XP YP l.row.toRowW d [] (λf vs=>PySem.call f vs):=by
 refine Att.L4 hn t λw y S mg M c o pm cd doc a vs ns G Y N hd C r j hints hlen B=>?_;have z:=E w _ Y;obtain⟨fd,D,L⟩:=F w mg c _ z G.T.g r;exact FO z G.T.g G.T.b G.T.builtins G.T.nolimit B j hints (a7 hlen m) A L D (λH J I=>p w H a ns hlen J I) λH e i=>X w H S e i
noncomputable def QW (s:Stmt):Arguments:=match s with
 |.FunctionDef _ a _ _ _ _ _ _ _ _=>a|_=>{ posonlyargs:=[],args:=[],vararg:=none,kwonlyargs:=[],kw_defaults:=[],kwarg:=none,defaults:=[] }
noncomputable def gK (s:Stmt):bT:=match s with
 |.FunctionDef _ _ b _ _ _ _ _ _ _=>b|_=>[]
noncomputable def qh (s:Stmt):Scope:=match s with
 |.FunctionDef _ _ _ _ _ _ sc _ _ _=>sc|_=>{ kind:=.function,names:=[],isGenerator:=false,isCoroutine:=false }
noncomputable abbrev wB:k9:=λ_ _ _ _ _ _=>False
noncomputable abbrev E0:XK:=λ_ _ _=>False
def cL:Passes wB X E0:=λ_ _ _ _ _ _ _ h=>h.elim
structure gx (K:Frag)(x qual:Str)(st:Stmt)(f:Addr)(fd:FuncData):Prop where
 ex:∃(oc:Value) (od:bS) (kV doc pm:Value) (an:bS) (cdv ct:Value) (osl:Array (Option Value)),
  fd=fnOf x qual (QW st) (gK st) (qh st) .none kV doc pm an cdv ct/\K.lookup f=some ⟨oc,od,.func fd,osl⟩/\codeIn K cdv qual=true
 kp:keepIn K (.ref f)=true
section
variable {K:Frag}
def gx.ok {qual:Str}{st:Stmt}{f:Addr}{ps:bK}{k:Nat}{sp:Sp}(F:gx K x qual st f fd)(S:qv N ps (qh st))(len:∀vs H Q E,sp vs H Q E->vs.length=ps.length)
  (y:∀(c:Value)(A:Around)(outer:bP)(s:Shared)(H:Hp)(vs:List V)(Q:VK)(E:XK),jZ k (A.deeper (envOfC qual (qh st) s.heap.objs.size f c))->sp vs H Q E->
   ∃t,yU (ZC wB P w K mg base N qual (qh st) f c A outer s H E).nox (gK st) t/\t { nx:=λ_ a=>Q .non a,rt:=Q } (start N vs) H):yR P w K mg base wB (k+1) f fd ps sp:=by
 obtain⟨e,b,kV,doc,pm,an,c,ct,o,rfl,l,d⟩:=F.ex;refine AA l d S len λA outer s H vs Q E r p=>?_;obtain⟨t,h,q⟩:=y c A outer s H vs Q E r p;exact⟨t,h.nox,q⟩
def gx.binds {qual:Str}{st:Stmt}{f:Addr}{ps:bK}(F:gx K x qual st f fd)
  (h:∀(kV doc pm:Value)(an:bS)(c ct:Value)(us:bG),us.length=ps.length->bindArgs (fnOf x qual (QW st) (gK st) (qh st) .none kV doc pm an c ct) ⟨us,[]⟩=pure (ps.zip us)):Binds K fd ps []:=by
 obtain⟨a,d,kV,doc,pm,an,c,ct,o,rfl,l,H⟩:=F.ex;exact .all (h kV doc pm an c ct)
def BE {qual:Str}{st:Stmt}{f:Addr}{a:Value}{o an:bS}{kV doc pm C ct:Value}(l:K.lookup f=some ⟨a,o,.func (fnOf x qual (QW st) (gK st) (qh st) .none kV doc pm an C ct),osl⟩)
  (c:codeIn K C qual=true)(k:keepIn K (.ref f)=true):gx K x qual st f (fnOf x qual (QW st) (gK st) (qh st) .none kV doc pm an C ct):=⟨⟨a,o,kV,doc,pm,an,C,ct,osl,rfl,l,c⟩,k⟩
end
def AF {A:Around}{k:Nat}(h:jZ k A):A.units+1<cLine:=Nat.lt_of_le_of_lt (Nat.add_le_add_left (by decide:1<=64) _) h.units
section
variable {κ:Type}[DecidableEq κ]
noncomputable def yS (kvs:List (κ×V))(k:κ):Option V:=(kvs.find? λK=>decide (K.1=k)).map (·.2)
noncomputable def putK (kvs:List (κ×V))(k:κ)(v:V):List (κ×V):=
 if (kvs.any λK=>decide (K.1=k))=true then kvs.map (λK=>if K.1=k then(K.1,v) else K) else kvs++[(k,v)]
def Kw {p:κ×V}{r:List (κ×V)}{k:κ}(e:p.1=k):yS (p::r) k=some p.2:=by simp[yS,find?_cons,e]
def Kn {p:κ×V}{r:List (κ×V)}{k:κ}(e:¬p.1=k):yS (p::r) k=yS r k:=by simp[yS,find?_cons,e]
theorem Rz (k:κ):∀kvs:List (κ×V),(kvs.any λK=>decide (K.1=k))=(yS kvs k).isSome
 |[]=>rfl|p::r=>by
  rw[any_cons]
  by_cases e:p.1=k
  ·simp only[Kw e,aw e,Bool.true_or,isSome_some]
  ·rw[Kn e,aJ e,Bool.false_or];exact Rz k r
def LX (kvs:List (κ×V))(k:κ)(v:V):(putK kvs k v).length<=kvs.length+1:=by
 unfold putK
 split
 ·rw[ae];omega
 ·rw[aE,bD,List.length_nil];omega
def FV {kvs:List (κ×V)}{k:κ}(v:V)(h:yS kvs k=none):putK kvs k v=kvs++[(k,v)]:=by
 unfold putK;rw[Rz,h];exact aj (by decide)
def KV.val {kvs:List (κ×V)}{vs:List (κ×Value)}(r:KV kvs vs)(k:κ):g9 (yS kvs k) (valueAt vs k):=by
 unfold KV at r
 induction r with
 |nil=>exact True.intro|@cons p q ps Q h t i=>
  obtain⟨H,a⟩:=h
  by_cases e:p.1=k
  ·have E:q.1=k:=H.symm.trans e
   have b:valueAt (q::Q) k=some q.2:=by simp[valueAt,find?_cons,E]
   rw[Kw e,b];exact a
  ·have E:¬q.1=k:=λz=>e (H.trans z)
   have b:valueAt (q::Q) k=valueAt Q k:=by simp[valueAt,find?_cons,E]
   rw[Kn e,b];exact i
theorem KV.any {kvs:List (κ×V)}{vs:List (κ×Value)}(r:KV kvs vs)(k:κ):(kvs.any λK=>decide (K.1=k))=vs.any λK=>decide (K.1=k):=by
 unfold KV at r
 induction r with
 |nil=>rfl|cons h t i=>rw[any_cons,any_cons,i,h.1]
def KV.repl {kvs:List (κ×V)}{vs:List (κ×Value)}(r:KV kvs vs)(k:κ){y:V}(a:RelV y u):
  KV (kvs.map λK=>if K.1=k then(K.1,y) else K) (vs.map λK=>if K.1=k then(K.1,u) else K):=by
 unfold KV at r ⊢
 induction r with
 |nil=>exact .nil|@cons p q ps Q h t i=>
  rw[aS,aS];refine .cons ?_ i;obtain⟨H,b⟩:=h
  by_cases e:p.1=k
  ·rw[ag e,ag (H.symm.trans e)];exact⟨H,a⟩
  ·rw[aj e,aj (λz=>e (H.trans z))];exact⟨H,b⟩
def KV.put {kvs:List (κ×V)}{vs:List (κ×Value)}(r:KV kvs vs)(k:κ){y:V}(a:RelV y u):KV (putK kvs k y) (stored vs k u):=by
 unfold putK stored;rw[r.any k]
 by_cases e:(vs.any λK=>decide (K.1=k))=true
 ·rw[ag e,ag e];exact r.repl k a
 ·rw[aj e,aj e];exact Paired.snoc r ⟨rfl,a⟩
theorem KV.length {kvs:List (κ×V)}{vs:List (κ×Value)}(r:KV kvs vs):kvs.length=vs.length:=Paired.length r
end
def X2 {k:Key}(r:RelV (kV k) u):(yL P w).is k u=true:=by
 cases k with
 |inl i=>obtain⟨t,e⟩:=(show ∃t,u=Value.int i t from r);subst e;exact L1 P w i t|inr x=>obtain⟨t,e⟩:=(show ∃t,u=Value.str x t from r);subst e;exact LY P w x t
theorem SV:∀{ks:List Key}{us:bG},Vals (ks.map kV) us->ItemsAre (yL P w) ks us
 |[],_,r=>by rw[map_nil]at r;cases r;exact .nil|k::ks,_,r=>by
  rw[aS]at r;cases r with
  |cons h t=>exact .cons (X2 h) (SV t)
abbrev KT (H:Hp):List (List Key×V)->List (List Key×Addr×Value)->Prop:=Paired λp q=>p.1=q.1/\H q.2.1=some (.tup (p.1.map kV))/\RelV p.2 q.2.2
def KT.val {kvs:List (List Key×V)}{xs:List (List Key×Addr×Value)}(r:KT H kvs xs)(k:List Key):g9 (yS kvs k) ((atKey xs k).map (·.2)):=by
 induction r with
 |nil=>exact True.intro|@cons p q ps Q h t i=>
  obtain⟨a,_,c⟩:=h
  by_cases e:p.1=k
  ·have E:q.1=k:=a.symm.trans e
   have b:atKey (q::Q) k=some q.2:=by simp[atKey,find?_cons,E]
   rw[Kw e,b];exact c
  ·have E:¬q.1=k:=λz=>e (a.trans z)
   have b:atKey (q::Q) k=atKey Q k:=by simp[atKey,find?_cons,E]
   rw[Kn e,b];exact i
section
def OY {u:HO}(ok:jI P w H h)(e:Rd H a u):jG P w H h a u:=e.ok ok
def Va (ok:jI P w H h)(e:Rd H a (.dK kvs)):kvs.length<=sizeLine/\(a==sysModules)=false/\∃vs,KV kvs vs/\h.DictOf (yL P w) a vs:=
 show jG P w H h a (.dK kvs) from OY ok e
def OQ (ok:jI P w H h)(e:H a=some (.dK kvs)):kvs.length<=sizeLine/\(a==sysModules)=false/\∃vs,KV kvs vs/\h.DictOf (yL P w) a vs:=Va ok (.inl e)
def PN {ks:List Key}(ok:jI P w H h)(e:H a=some (.tup (ks.map kV))):(tupleKind (yL P w)).is h ks a:=by
 obtain⟨_,i,r,o,d,c,n,b⟩:=(show jG P w H h a (.tup (ks.map kV)) from ok a _ e)
 exact⟨o,i.toArray,n,d,c.1,b,by simpa using SV r⟩
def OE {kvs:List (List Key×V)}(ok:jI P w H h)(e:Rd H a (.dT kvs)):kvs.length<=sizeLine/\(a==sysModules)=false/\
  ∃xs,KT H kvs xs/\h.DictOfH (tupleKind (yL P w)) a xs:=by
 obtain⟨z,y,xs,r,o,E,s,n,j,g,f,d⟩:=(show jG P w H h a (.dT kvs) from OY ok e)
 refine⟨z,y,xs,r,o,E,s,n,j,g,f,λx b=>?_,d⟩;have all:∀{l:List (List Key×V)}{m:List (List Key×Addr×Value)},KT H l m->∀x∈m,(tupleKind (yL P w)).is h x.1 x.2.1:=by
  intro l m q
  induction q with
  |nil=>intro x b;exact nomatch b
  |@cons p q ps Q c t i=>
   intro x b;rcases b0.mp b with e|b
   ·subst e
    exact PN ok (by rw[<- c.1];exact c.2.1)
   ·exact i x b
 exact all r x b
end
def Jl (H:Hp)(a:Addr)(y:V)(r:Option V):Prop:=
 (∃kvs k,Rd H a (.dK kvs)/\y=kV k/\r=yS kvs k)∨∃kvs k b,Rd H a (.dT kvs)/\y=.ref b/\H b=some (.tup (k.map kV))/\r=yS kvs k
theorem Jl.k {k:Key}(e:H a=some (.dK kvs)):Jl H a (kV k) (yS kvs k):=.inl ⟨kvs,k,.inl e,rfl,rfl⟩
section
variable {y:V}{o:Option V}{A:Around}
def Inv.big (I:Inv X pins σ H s):sysModules<s.heap.objs.size:=by
 have h:mainGlobals<s.heap.objs.size:=(I.mod.glob.keeps I.bk).lt;exact Nat.lt_trans (by decide) h
def Hi (j:A.units+1<cLine)(I:Inv X pins σ H s)(g:Jl H a y (some v))(i:RelV y u)(h:∀c S,Inv X pins σ H S->RelV v c->Q c S):
  wpAny (model X.prog X.w) A (getItem (.ref a) u) Q E s:=by
 rcases g with ⟨kvs,k,e,f,l⟩|⟨kvs,k,b,e,f,n,l⟩
 ·subst f
  obtain⟨z,hd,vs,rel,D⟩:=Va I.hok e;obtain⟨c,hw,r⟩:=g9.some_of (v:=v) (o:=valueAt vs k) (by rw[l];exact rel.val k)
  exact wpAny_getItem_of (X2 i) D.mapOf hw (h c _ (I.tok _) r)
 ·subst f
  cases (show u=Value.ref b from i)
  obtain⟨z,hd,xs,rel,D⟩:=OE I.hok e;obtain⟨c,hw,r⟩:=g9.some_of (v:=v) (o:=(atKey xs k).map (·.2)) (by rw[l];exact rel.val k)
  obtain⟨p,m,d⟩:=Option.map_eq_some_iff.mp hw;refine wpAny_getItem_heap (tupleKind_room_in1 j) (PN I.hok n) D m ?_;rw[d];exact h c _ (I.tok _) r
def D4 {h':Heap}{ob:HO}(I:Inv X pins σ H s)(m:YM (H a))(h:Heap.SameBut a s.heap h')(he:∃q,h'.get? a=some q)(new:jG X.prog X.w (upd H a ob) h' a ob):
  Inv X pins σ (upd H a ob) { s with heap:=h',toks:=t' }:=
 I.write (x:=a) (e:=a) m (.inl rfl) (λb q c z=>(h.2 b c).trans z) he new
def B8 {H:Hp}{h':Heap}{vs:List (Key×Value)}(z:kvs.length<=sizeLine)(hd:(a==sysModules)=false)(rel:KV kvs vs)(d:h'.DictOf (yL P w) a vs):
  jG P w H h' a (.dK kvs):=⟨z,hd,vs,rel,d⟩
end
def Vq (i:Expr):Prop:=∀o I,subscripted i false o I=operate [o,I] (getItem o I)
def Dp {prog:Program}{A:Around}{value slice:Expr}{T id:String}
  (l:typeLookup (.type T) "__getitem__"=pure (some (.builtin id)))(e:Vq slice)
  (h:wpAny (model prog w) A (eval value env) (λo b=>wpAny (model prog w) A (eval slice env) (λi S=>S.TypeIs o T/\wpAny (model prog w) A (getItem o i) Q E S) E b) E s):
  wpAny (model prog w) A (eval (.Subscript value slice pos) env) Q E s:=by
 refine Subscript_ (wpAny_mono h (λo b d=>wpAny_mono d (λi S H=>?_) λ_ _ x=>x) λ_ _ x=>x);obtain⟨hT,H⟩:=H;unfold subscriptTail;refine bU ?_;rw[getitemInPython_of_ne hT.not_modules];refine bU (wpAny_specialOf hT l ?_);have fin:wpAny (model prog w) A (subscripted slice false o i) (λr a=>wpAny (model prog w) A (letTemporaryGo value o r >>= λ_=>pure r) Q E a) E S:=by
  rw[e o i];exact wpAny_operating (wpAny_mono H (λr a c=>bU (wpAny_letTemporaryGo (bV c))) λ_ _ x=>x)
 first
  |exact bV (bU fin)
  |exact bU (bV (bU fin))
  |exact bU fin
def LI {y:V}{o:Option V}(I:Inv X pins σ H s)(g:Jl H a y o):s.TypeIs (.ref a) "dict":=by
 rcases g with ⟨kvs,k,e,_,_⟩|⟨kvs,k,b,e,_,_,_⟩
 ·obtain⟨_,_,vs,_,d⟩:=Va I.hok e
  exact d.typeIs
 ·obtain⟨_,_,xs,_,d⟩:=OE I.hok e
  exact d.typeIs
noncomputable def cM (td ty:TE):TE:=λσ H Q=>td σ H λx H1=>ty σ H1 λy h=>∃a v,x=.ref a/\Jl h a y (some v)/\Q v h
section
variable {o i:Expr}{td ty:TE}
def D3 (f:X.A.units+1<cLine)(l:PE X o td)(m:PE X i ty)(j:Vq i):PE X (.Subscript o i pos) (cM td ty):=by
 intro pins s σ H Q I h;refine Dp PySem.F.slot_dict_getitem.lookup j (zY (l pins s σ H _ I h) λu s1 ⟨x,H1,p,d,e⟩=>zY (m pins s1 σ H1 _ p e) λz s2 ⟨y,t,b,c,a,v,ex,g,q⟩=>?_);subst ex;obtain rfl:u=Value.ref a:=d;exact⟨LI b g,Hi f b g c λw s3 n r=>⟨v,t,n,r,q⟩⟩
end
def Fo (h:Heap)(b:sysModules<h.objs.size):jG P w H (h.push { cls:=.type "dict",data:=.dict #[] }) h.objs.size (.dK []):=
 ⟨zero_le _,beq_eq_false_iff_ne.mpr (Ne.symm (aT b)),[],.nil,Heap.DictOf.new h⟩
def CL:TE:=λ_ H Q=>∀p,H p=none->Q (.ref p) (upd H p (.dK []))
section
def FI:PE X (.Dict [] [] pos) CL:=λpins s σ H Q I h=>
 wpAny_Dict_empty ⟨.ref s.heap.objs.size,_,I.laid (a:=s.heap.objs.size) (o:=.dK []) (t':=s.toks) (λ_ _ q=>af _ q) (ao _) (Fo s.heap I.big),rfl,h _ (I.hok.fresh (ao _))⟩
end
noncomputable def wR (env:Env):List (Str×NameKind)->List (Str×Addr)->List (Str×Addr)
 |[],acc=>acc|(n,k)::r,acc=>wR env r (if k==.free then(n,(env.cells.lookup n).getD 0)::acc else acc)
def Fd (f:Str×NameKind->List (Str×Addr)->Sem (ForInStep (bQ)))
  (hf:∀n k r,f (n,k) r=if (k==NameKind.free)=true then(do let c <- cellOf env n;pure (ForInStep.yield ((n,c)::r))) else pure (ForInStep.yield r)):
  ∀(names:List (Str×NameKind))(acc:bQ),(∀y∈names,y.2=.free->∃c,env.cells.lookup y.1=some c)->(forIn names acc f:Sem (bQ))=pure (wR env names acc):=by
 intro names
 induction names with
 |nil=>intro acc _;rfl|cons y r i=>
  intro acc b;obtain⟨n,k⟩:=y;rw[forIn_cons,hf];unfold wR;have h:=i (if k==.free then(n,(env.cells.lookup n).getD 0)::acc else acc) (λy g=>b y (aL _ g))
  by_cases a:k=.free
  ·subst a
   obtain⟨c,d⟩:=b (n,.free) aK rfl;have e:cellOf env n=pure c:=by unfold cellOf;rw[d]
   have H:List.lookup n env.cells=some c:=d;simp only[e,H,Option.getD_some,beq_self_eq_true,if_true]at h ⊢;exact h
  ·have j:(k==NameKind.free)=false:=by simpa using a
   simp only[j,Bool.false_eq_true,if_false]at h ⊢;exact h
def Ih (h:∀y∈scope.names,y.2=.free->∃c,env.cells.lookup y.1=some c):closureFor scope env=pure (wR env scope.names []):=by
 unfold closureFor;dsimp only;rw[Fd _ (λn k r=>rfl) scope.names [] h]
 rfl
theorem QO {n:Str}{c:Addr}:∀(names:List (Str×NameKind))(acc:bQ),(n,c)∈wR env names acc->(n,c)∈acc∨((n,NameKind.free)∈names/\c=(env.cells.lookup n).getD 0)
 |[],acc,h=>.inl h|(x,k)::r,acc,h=>by
  unfold wR at h;rcases QO r _ h with h|⟨d,a⟩
  ·by_cases H:k=.free
   ·subst H
    simp only[beq_self_eq_true,if_true]at h;rcases b0.mp h with e|h
    ·cases e;exact .inr ⟨aK,rfl⟩
    ·exact .inl h
   ·have b:(k==NameKind.free)=false:=by simpa using H
    simp only[b,Bool.false_eq_true,if_false]at h;exact .inl h
  ·exact .inr ⟨aL _ d,a⟩
theorem Se {n:Str}:∀(names:List (Str×NameKind))(acc:bQ),((n,NameKind.free)∈names∨(acc.lookup n).isSome=true)->((wR env names acc).lookup n).isSome=true
 |[],acc,h=>by
  rcases h with h|h
  ·cases h
  ·exact h
 |(x,k)::r,acc,h=>by
  unfold wR;refine Se r _ ?_;rcases h with h|h
  ·rcases b0.mp h with e|h
   ·cases e
    right
    simp
   ·exact .inl h
  ·right
   by_cases H:(k==NameKind.free)=true
   ·rw[ag H,lookup_cons]
    cases a:n==x
    ·exact h
    ·rfl
   ·rw[aj H];exact h
theorem GA {n:Str}{c:Addr}:∀(names:List (Str×NameKind))(k:Nat)(acc:bQ),(n,c)∈cellsFrom k names acc->(n,c)∈acc∨(k<=c/\(n,NameKind.cell)∈names)
 |[],_,_,h=>.inl h|(x,q)::r,k,acc,h=>by
  unfold cellsFrom at h
  by_cases a:(q==NameKind.cell)=true
  ·rw[ag a]at h
   have H:q=.cell:=by simpa using a
   rcases GA r _ _ h with h|⟨d,b⟩
   ·rcases b0.mp h with e|h
    ·cases e;subst H;exact .inr ⟨ao _,aK⟩
    ·exact .inl h
   ·exact .inr ⟨by omega,aL _ b⟩
  ·rw[aj a]at h
   rcases GA r _ _ h with h|⟨d,b⟩
   ·exact .inl h
   ·exact .inr ⟨d,aL _ b⟩
theorem GD:∀(names:List (Str×NameKind))(k:Nat)(acc:bQ),(∀n c,(n,c)∈acc->c<k)->(∀n N c,(n,c)∈acc->(N,c)∈acc->n=N)->∀n N c,(n,c)∈cellsFrom k names acc->(N,c)∈cellsFrom k names acc->n=N
 |[],_,_,_,hi,n,N,c,h,h'=>hi n N c h h'|(x,q)::r,k,acc,l,hi,n,N,c,h,h'=>by
  unfold cellsFrom at h h'
  by_cases a:(q==NameKind.cell)=true
  ·rw[ag a]at h h'
   refine GD r (k+1) ((x,k)::acc) (λm d hm=>?_) (λm M d hm H=>?_) n N c h h'
   ·rcases b0.mp hm with e|hm
    ·cases e;exact br _
    ·exact bb (l m d hm)
   ·rcases b0.mp hm with e|hm
    ·rcases b0.mp H with E|H
     ·cases e;cases E;rfl
     ·cases e;exact absurd (l M _ H) (aW _)
    ·rcases b0.mp H with E|H
     ·cases E;exact absurd (l m _ hm) (aW _)
     ·exact hi m M d hm H
  ·rw[aj a]at h h'
   exact GD r k acc l hi n N c h h'
theorem Gm {n:Str}{c:Addr}:∀(names:List (Str×NameKind))(h:Heap)(acc:bQ),(n,c)∈cellsFrom h.objs.size names acc->(n,c)∈acc∨(pushCells h names).IsCell c none
 |[],_,_,q=>.inl q|(x,k)::r,h,acc,q=>by
  unfold cellsFrom at q;unfold pushCells
  by_cases H:(k==NameKind.cell)=true
  ·rw[ag H]at q ⊢
   have:=Gm r (h.push { cls:=.type "cell",data:=.cell none }) ((x,h.objs.size)::acc) (by rw[bg];exact q)
   rcases this with z|z
   ·rcases b0.mp z with e|z
    ·cases e
     exact .inr ⟨_,pushCells_keeps r _ _ _ (aA _ rfl),rfl⟩
    ·exact .inl z
   ·exact .inr z
  ·rw[aj H]at q ⊢
   exact Gm r h acc q
def NV {M:Model}{A:Around}{globals:Addr}{cl:bQ}{qual:Str}{Q:Env->Shared->Prop}
  (h:Q { scope,locals:=s.heap.objs.size,globals,cells:=cellsFrom (s.heap.objs.size+1) scope.names cl,qual,func:=none,code:=env.code,frame:=env.frame,builtins:=env.builtins }
   { s with heap:=pushCells (s.heap.push { cls:=.type "dict",data:=.dict #[] }) scope.names }):
  wpAny M A (newFunctionEnv scope globals cl [] qual none .none (some env)) Q E s:=by
 simp only[newFunctionEnv,isSome_some,if_true];refine bU (wpAny_alloc ?_);refine bU (wpAny_layCells _ (λname kind cells=>by cases H:kind==NameKind.cell<;>simp[H]) _ _ _ _ ?_)
 rw[show({ s with heap:=s.heap.push { cls:=.type "dict",data:=.dict #[] } }:Shared).heap.objs.size=s.heap.objs.size+1 from bg ..]
 rw[forIn_nil];exact bU (bV (bV h))
def jM (X:Cx)(N:bK)(scope:Scope)(s:Shared)(H:Hp)(fp:bH)(xe:bL):Cx where
 prog:=X.prog
 w:=X.w
 K:=X.K
 mg:=X.mg
 base:=X.base
 A:=X.A
 N:=N
 s0:=s
 H0:=H
 env:={ scope:=relabel scope X.env,locals:=s.heap.objs.size,globals:=X.env.globals,cells:=cellsFrom (s.heap.objs.size+1) scope.names (wR X.env scope.names []),qual:=X.env.qual,func:=none,code:=X.env.code,frame:=X.env.frame,builtins:=X.env.builtins }
 outer:=X.stack
 stack:=X.stack
 ex:=fp
 fn:=λx=>scope.names.lookup x==some .local || scope.names.lookup x==some .cell
 calm:=X.calm
 pn:=[]
 xe:=xe
structure gm (X:Cx)(scope:Scope):Prop where
 kind:scope.kind=.function
 nd:(scope.names.map (·.1)).Nodup
 free:∀y∈scope.names,y.2=.free->X.env.kindOf y.1=some .cell∨X.env.kindOf y.1=some .free
theorem QD {k:α}:∀{l:List (Str×α)},(l.map (·.1)).Nodup->(x,k)∈l->l.lookup x=some k
 |(y,q)::r,nd,h=>by
  rw[aS,List.nodup_cons]at nd;rw[lookup_cons];rcases b0.mp h with e|h
  ·cases e;simp
  ·have ne:(x==y)=false:=by
    rw[beq_eq_false_iff_ne];intro e
    apply nd.1
    rw[<- e];exact List.mem_map_of_mem (f:=(·.1)) h
   rw[ne];exact QD nd.2 h
def Gn {k:NameKind}(h:(relabel scope env).names.lookup x=some k):scope.names.lookup x=some k∨(k=.cell/\scope.names.lookup x=some .free/\env.kindOf x=some .cell):=by
 unfold relabel at h;dsimp only at h;generalize scope.names=names at h ⊢
 induction names with
 |nil=>cases h|cons y r i=>
  obtain⟨n,q⟩:=y;rw[aS]at h;have split:(if (q==NameKind.free&&env.scope.kind==.function&&env.kindOf n==some .cell)=true then(n,NameKind.cell) else(n,q)).1=n:=by split<;>rfl
  rw[lookup_cons]at h ⊢;dsimp only at h;rw[split]at h;cases a:x==n with
  |false=>rw[a]at h;exact i h|true=>
   rw[a]at h;have e:x=n:=aU.mp a;subst e
   by_cases H:(q==NameKind.free&&env.scope.kind==.function&&env.kindOf x==some .cell)=true
   ·rw[ag H]at h
    simp only[aq,aU]at H;cases h
    right
    exact⟨rfl,by rw[H.1.1],H.2⟩
   ·rw[aj H]at h
    left
    exact h
section
def Inv.capt (I:Inv X pins σ H s)(S:gm X scope)(h:(x,NameKind.free)∈scope.names):∃c,X.env.cells.lookup x=some c:=I.ok.has x (S.free _ h rfl)
def J7 (I:Inv X pins σ H s)(S:gm X scope){c:Addr}(h:(x,c)∈cellsFrom (s.heap.objs.size+1) scope.names (wR X.env scope.names [])):
  ((x,NameKind.free)∈scope.names/\X.env.cells.lookup x=some c/\c<s.heap.objs.size)∨((x,NameKind.cell)∈scope.names/\s.heap.objs.size<c/\∀h0:Heap,h0.objs.size=s.heap.objs.size+1->(pushCells h0 scope.names).IsCell c none):=by
 rcases GA _ _ _ h with b|⟨b,d⟩
 ·left
  rcases QO _ _ b with z|⟨z,e⟩
  ·cases z
  ·obtain⟨C,a⟩:=I.capt S z
   rw[a]at e;have E:c=C:=e;subst E;obtain⟨v,q⟩:=I.cell x c a;exact⟨z,a,q.lt⟩
 ·right
  refine⟨d,b,λh0 f=>?_⟩;have h':=h;rw[<- f]at h';rcases Gm _ h0 _ h' with z|z
  ·exfalso
   rcases QO _ _ z with z|⟨z,e⟩
   ·cases z
   ·obtain⟨C,a⟩:=I.capt S z
    rw[a]at e;have E:c=C:=e;subst E;obtain⟨v,q⟩:=I.cell x c a;exact aW _ (aH (bb q.lt) b)
  ·exact z
def Fe {xe:bL}{f:St}(I:Inv X pins σ H s)(S:gm X scope)(hf:∀b∈fp,kz X pins H b)(A:∀b∈fp,b<s.heap.objs.size)(hl:f.length=N.length)
  (hs:∀(j:Nat)(x:Str)(v:V),N[j]? =some x->f[j]? =some (some v)->(x,NameKind.free)∈scope.names/\∃i:Nat,X.N[i]? =some x/\σ[i]? =some (some v)):
  Inv (jM X N scope s H fp xe) [] f H { s with heap:=pushCells (s.heap.push { cls:=.type "dict",data:=.dict #[] }) scope.names }:=by
 have M:∀b o,s.heap.get? b=some o->(pushCells (s.heap.push { cls:=.type "dict",data:=.dict #[] }) scope.names).get? b=some o:=λb o e=>pushCells_keeps _ _ _ _ (af _ e);have T:(s.heap.push { cls:=.type "dict",data:=.dict #[] }).objs.size=s.heap.objs.size+1:=bg ..;have l:∀{x:Str}{c:Addr},(jM X N scope s H fp xe).env.cells.lookup x=some c->(x,c)∈cellsFrom (s.heap.objs.size+1) scope.names (wR X.env scope.names []):=λh=>PySem.mem_of_lookup h;have L:∀{x:Str},((jM X N scope s H fp xe).env.kindOf x=some .cell∨(jM X N scope s H fp xe).env.kindOf x=some .free)->∃c,(jM X N scope s H fp xe).env.cells.lookup x=some c:=λ {x} h=>by
  refine Option.isSome_iff_exists.mp (cellsFrom_some _ _ _ ?_);have two:scope.names.lookup x=some .cell∨scope.names.lookup x=some .free:=by
   rcases h with h|h
   ·rcases Gn h with z|⟨_,z,_⟩
    ·exact .inl z
    ·exact .inr z
   ·rcases Gn h with z|⟨z,_⟩
    ·exact .inr z
    ·cases z
  rcases two with z|z
  ·exact .inl z
  ·exact .inr (Se _ _ (.inl (PySem.mem_of_lookup z)))
 have exP:∀b∈fp,∀x c,(jM X N scope s H fp xe).env.cells.lookup x=some c->c≠b:=λb a x c e=>by
  rcases J7 I S (l e) with ⟨_,q,_⟩|⟨_,q,_⟩
  ·exact(hf b a).2.2.2.2.1 x c q
  ·intro z;subst z;exact aW _ (Nat.lt_trans q (A _ a))
 refine⟨⟨I.ok.mod,S.kind,I.ok.glob,I.ok.blt,ao _,λx y c h1 J=>?_,λx h=>L h,λx c g h=>?_,I.ok.hd,I.ok.frames,.inl rfl,λb a=>⟨?_,exP b a⟩,I.bs,a7 I.ok.bsz I.sz,λb o e a=>?_,λb a z=>?_,I.stack,I.stkFree⟩,
  rfl,I.bare,Un.kept M,⟨λ_=>none,?_,λj x v h1 J h3=>?_⟩,λx c e=>?_,I.fresh,λx c e=>?_,λp hp=>?_,I.hok.kept M,hl⟩
 ·refine GD _ _ _ (λn c h=>?_) (λn n' c h h'=>?_) x y c (l h1) (l J)
  ·rcases QO _ _ h with z|⟨z,e⟩
   ·cases z
   ·obtain⟨c',D⟩:=I.capt S z
    rw[D]at e;have P:c=c':=e;subst P;obtain⟨v,q⟩:=I.cell n c D;exact bb q.lt
  ·rcases QO _ _ h with z|⟨z,e⟩
   ·cases z
   ·rcases QO _ _ h' with Z|⟨Z,P⟩
    ·cases Z
    ·obtain⟨d,hd⟩:=I.capt S z
     obtain⟨d',B⟩:=I.capt S Z;rw[hd]at e;rw[B]at P;have K:c=d:=e;have e2:c=d':=P;subst K;subst e2;exact I.ok.inj _ _ _ hd B
 ·rcases J7 I S (l h) with ⟨z,_,_⟩|⟨_,z,_⟩
  ·exfalso
   have K:=QD S.nd z;have t:(scope.names.lookup x==some .local || scope.names.lookup x==some .cell)=true:=g;rw[K]at t;cases t
  ·exact le_of_lt z
 ·exact aT (A b a)
 ·obtain⟨_,_,_,E,_⟩:=hf b a
  rcases E with E|E
  ·exact I.ok.noex b o e E
  ·exact absurd (aH (aI e) (a7 I.ok.bsz E)) (aW _)
 ·obtain⟨_,J,h3,_⟩:=hf b a
  rcases b0.mp (I.stkSub b z) with e|e
  ·exact J e
  ·exact h3 e
 ·exact(Heap.Ns.new s.heap (.type "dict")).keeps (pushCells_keeps _ _)
 ·obtain⟨g,i,K,e2⟩:=hs j x v h1 J
  obtain⟨m,hn,Y⟩:=I.loc;have Q:WT X.env.scope x:=.inr (S.free _ g rfl);obtain⟨u,r,lk⟩:=Y i x v K e2 Q;refine⟨u,r,.inr ?_⟩;have w:(jM X N scope s H fp xe).env.kindOf x=some .cell∨(jM X N scope s H fp xe).env.kindOf x=some .free:=by
   rcases h3 with z|z|z
   ·exfalso
    rcases Gn z with Z|⟨Z,_⟩
    ·rw[QD S.nd g]at Z;cases Z
    ·cases Z
   ·exact .inl z
   ·exact .inr z
  refine⟨w,?_⟩;obtain⟨c,D⟩:=L w;refine⟨c,D,?_⟩;rcases J7 I S (l D) with ⟨_,q,_⟩|⟨q,_,_⟩
  ·rcases lk with ⟨z,_⟩|⟨_,c',C,cell⟩
   ·exfalso
    rcases S.free _ g rfl with k|k<;>(rw[k]at z;cases z)
   ·rw[q]at C;cases C
    exact cell.keeps M
  ·exfalso
   have a1:=QD S.nd g;have a2:=QD S.nd q;rw[a1]at a2;cases a2
 ·rcases J7 I S (l e) with ⟨_,q,_⟩|⟨_,_,q⟩
  ·obtain⟨v,z⟩:=I.cell x c q
   exact⟨v,z.keeps M⟩
  ·exact⟨_,q _ T⟩
 ·rcases J7 I S (l e) with ⟨_,q,_⟩|⟨_,q,_⟩
  ·exact I.freeC x c q
  ·exact I.hok.fresh (le_of_lt q)
 ·have U:p∈([]:bI):=hp
  cases U
end
abbrev wa:=Addr->St->Hp->(St->Hp->Prop)->Prop
noncomputable def Yz (elt:Expr)(gens:List Comprehension)(sc:Scope)(pos:Pos)(d:Nat)(acc:Value)(env:Env)(k:Sem Fin):Sem Fin:=
 match gens[d+1]? with
 |some g'=>do
  let x <- eval g'.iter env
  standAt g'.iter.pos
  let x <- foldedSetIterable g'.iter env x
  let _ <- runOwn (.compStart (.ListComp elt gens sc pos) (d+1) (<- holding [x] (pyIter x)) acc env) env
  k
 |none=>do
  (do let _ <- call (.builtin "list.append") [acc,<- eval elt env])
  k
theorem EY {iter:Expr}{d:Nat}{it acc:Value}(h:gens[d]? =some ⟨tg,iter,ifs,0⟩)(H:∀g',gens[d+1]? =some g'->g'.is_async=0):
  compTurn (.ListComp elt gens sc pos) d it acc env=(do
   standAt iter.pos
   match <- pyNext it with
   |none=>pure (.done .next)|some v=>
    letOwnedTupleGo tg it v
    assign tg env v
    let mut ok:=true
    for c in ifs do
     if ok then ok <- isTrue c env (eval c env)
    if ok then Yz elt gens sc pos d acc env (again (.compLoop (.ListComp elt gens sc pos) d it acc env))
    else again (.compLoop (.ListComp elt gens sc pos) d it acc env)):=by
 unfold compTurn Yz;dsimp only;rw[h];cases hn:gens[d+1]? with
 |none=>rfl|some g'=>
  obtain⟨t',i,f,a⟩:=g';have e:a=0:=H _ hn;subst e
  rfl
def g8 (X:Cx)(ifs:bM)(t:TT):Prop:=
 ∀(pins:bI)(s:Shared)(σ:St)(H:Hp)(Q:Bool->Hp->Prop),Inv X pins σ H s->t σ H Q->
  wpAny (model X.prog X.w) X.A (forIn ifs true λc r=>if r=true then do let ok <- isTrue c X.env (eval c X.env);pure (ForInStep.yield ok) else pure (ForInStep.yield r)) (TP X pins σ Q) X.xe s
noncomputable def A8:TT:=λ_ H Q=>Q true H
def FW:g8 X [] A8:=λpins s σ H Q I h=>wpAny_tests_nil ⟨H,I,h⟩
def Fb {c:Expr}{t:TT}(h:PT X c t):g8 X [c] t:=λpins s σ H Q I hw=>wpAny_tests_one (h pins s σ H Q I hw)
def kQ (X:Cx)(elt:Expr)(gens:List Comprehension)(sc:Scope)(pos:Pos)(d:Nat)(t:wa):Prop:=
 ∀(pins:bI)(s:Shared)(σ:St)(H:Hp)(D:Addr)(Q:St->Hp->Prop)(k:Sem Fin)(Q':Fin->Shared->Prop)(E:bL),Inv X pins σ H s->t D σ H Q->
  (∀S a h,Inv X pins a h S->Q a h->wpAny (model X.prog X.w) X.A k Q' E S)->wpAny (model X.prog X.w) X.A (Yz elt gens sc pos d (.ref D) X.env k) Q' E s
def Aw (t:TE):wa:=λD σ H Q=>t σ H λy H1=>∃Y,H1 D=some (.lst Y)/\Y.length<sizeLine/\Q σ (upd H1 D (.lst (Y++[y])))
def Yu (J:It)(g:TG)(ti:TT)(tm:wa):wa:=λD σ H Q=>∃W:Nat->Nat->St->Hp->Prop,(∃m,W 0 m σ H)/\∀i m σ H,W i m σ H->
 (J.stop i H/\Q σ H)∨(J.go i H/\∃N:St->Hp->Prop,(∀c h,N c h->∃M,M<m/\W (i+1) M c h)/\∀x h,J.yld i H x h->g x σ h λa H1=>ti a H1 λb d=>if b=true then tm D a d N else N a d)
def cN (w:TI)(g:TG)(ti:TT)(tm:wa):wa:=λD σ H Q=>w σ H λJ H1=>Yu J g ti tm D σ H1 Q
section
variable {iter:Expr}{d:Nat}
def Q9 (h:∀e s,X.xe e s->False){t:Sem α}{Q':α->Shared->Prop}{S:Shared}(H:wpAny (model X.prog X.w) X.A t Q' X.xe S):wpAny (model X.prog X.w) X.A t Q' E S:=
 wpAny_mono H (λ_ _ z=>z) λe S z=>(h e S z).elim
def Er {t:TE}(x:∀e s,X.xe e s->False)(he:PE X elt t)(g:gens[d+1]? =none):kQ X elt gens sc pos d (Aw t):=by
 intro pins s σ H D Q k Q' E I h b;unfold Yz;rw[g];refine bU (bU (Q9 x (zY (he pins s σ H _ I h) λu s1 ⟨y,H1,f,r,Y,c,z,a⟩=>?_)));refine bU (Q9 x (zY (Sz pins s1 σ H1 (.ref D) [y] (.ref D) [u] (λ_ l=>Q σ l) f rfl (.cons r .nil) ⟨D,Y,y,rfl,rfl,c,z,a⟩) λ_ s2 ⟨_,j,i,_,q⟩=>?_));exact bV (b s2 σ j i q)
def EL {g:TG}{ti:TT}{tm:wa}(Z:∀e s,X.xe e s->False)(hc:X.calm=true)(hg:gens[d]? =some ⟨tg,iter,ifs,0⟩)(ha:∀g',gens[d+1]? =some g'->g'.is_async=0)(P:PG X tg g)(hi:g8 X ifs ti)(hm:kQ X elt gens sc pos d tm)
  {Q:St->Hp->Prop}{J:It}{it:Addr}{C:Nat->Heap->Prop}(T:Turn X.prog X.w X.K tg J fp it C)(I:Inv X pins σ H s)(st:C 0 s.heap)(hf:∀b∈fp,kz X pins H b)
  (h:Yu J g ti tm D σ H Q){R:Result->Shared->Prop}(hR:∀z a c,Inv X pins a c z->Q a c->R (.ok .next) z):
  codeAny (model X.prog X.w) X.A (.compLoop (.ListComp elt gens sc pos) d (.ref it) (.ref D) X.env) R s:=by
 obtain⟨W,⟨m0,w0⟩,turn⟩:=h;have S:∀{c:Hp},(∀b∈fp,c b=none)->∀b∈fp,kz X pins c b:=λhn b l=>⟨hn b l,(hf b l).2⟩;refine codeAny_loop rfl (λn z=>∃i a c,Inv X pins a c z/\C i z.heap/\(∀b∈fp,c b=none)/\W i n a c) (λn s3 hI=>?_) m0 ⟨0,σ,H,I,st,λb l=>(hf b l).1,w0⟩;show wpAny _ X.A ((compTurn (.ListComp elt gens sc pos) d (.ref it) (.ref D) X.env).onRaise (λx=>do noteFrame x X.env;theTreesLotGoes x)) _ _ s3
 refine wpAny_noted ?_;rw[EY hg ha];refine bU (wpAny_standAt ?_);obtain⟨i,j,E,I3,w8,B,w3⟩:=hI;rcases turn i n j E w3 with ⟨stop,qn⟩|⟨go,N,hN,step⟩
 ·refine bU (zY (T.done X rfl rfl rfl hc i pins s3 j E _ I3 (S B) w8 stop) λr s4 ⟨M,I4⟩=>?_)
  subst M;exact bV (hR s4 j E I4 qn)
 ·refine bU (zY (T.item X rfl rfl rfl hc i pins s3 j E _ I3 (S B) w8 go) λr s4 ⟨u,M,h4⟩=>?_)
  subst M;refine bU (zY h4 λ_ s5 ⟨x,H5,I5,r5,y5,p,U⟩=>?_);have Y:=I5.pinned (S U) (T.obj _ _ p);have back:∀{f:St}{q:Hp}{t:Shared},Inv X (pins++Yl fp s5.heap) f q t->N f q->∃m,m<n/\∃i a c,Inv X pins a c t/\C i t.heap/\(∀b∈fp,c b=none)/\W i m a c:=λ {f q t} v n7=>by
   obtain⟨m',hm,w7⟩:=hN f q n7;refine⟨m',hm,i+1,f,q,v.unpinned,T.keep _ _ _ p λb l o e=>(v.pin (b,o) (aN _ (aN _ (Kj l e)))).1,λb l=>?_,w7⟩;obtain⟨o,e,d⟩:=T.obj _ _ p b l;exact(v.pin (b,o) (aN _ (aN _ (Kj l e)))).2.1
  refine bU (Q9 Z (zY (P _ s5 j H5 x u _ Y r5 (step x H5 y5)) λ_ s6 ⟨y,H6,I6,q6⟩=>?_));refine bU (Q9 Z (zY (hi _ s6 y H6 _ I6 q6) λok t ⟨q,v,L⟩=>?_));cases ok with
  |false=>exact bV ⟨rfl,back v L⟩|true=>
   rw[ag rfl]at L;exact hm _ t y q D _ _ _ _ v L λs8 σ8 H8 I8 q8=>bV ⟨rfl,back I8 q8⟩
def OW {g:TG}{ti:TT}{tm:wa}(i:∀e s,X.xe e s->False)(m:X.calm=true)(c:gens[d]? =some ⟨tg,iter,ifs,0⟩)(o:∀g',gens[d+1]? =some g'->g'.is_async=0)(t:PG X tg g)(j:g8 X ifs ti)(hm:kQ X elt gens sc pos d tm)
  {Q:St->Hp->Prop}{J:It}{it:Addr}{n:Nat->Heap->Prop}(T:Turn X.prog X.w X.K tg J fp it n)(I:Inv X pins σ H s)(st:n 0 s.heap)(hf:∀b∈fp,kz X pins H b)
  (h:Yu J g ti tm D σ H Q){R:Result->Shared->Prop}(p:∀S a f,Inv X pins a f S->Q a f->R (.ok .next) S):
  codeAny (model X.prog X.w) X.A (.compStart (.ListComp elt gens sc pos) d (.ref it) (.ref D) X.env) R s:=by
 have loop:=EL i m c o t j hm T I st hf h p;refine codeAny_of_tree ?_;show wpAny _ _ ((compStart (.ListComp elt gens sc pos) d (.ref it) (.ref D) X.env).onRaise (λx=>do noteFrame x X.env;standAt theWindowsPlace)) _ _ s
 refine wpAny_notedAt ?_;unfold compStart;have l:(clausesOf (.ListComp elt gens sc pos))[d]? =some ⟨tg,iter,ifs,0⟩:=c;rw[l];show wpAny _ _ (ask >>= _) _ _ s;refine bU (wpAny_askSetting (wpAny_ite ?_))
 split
 ·first
   |exact bU (bV (bV (And.intro rfl loop)))
   |exact bV (And.intro rfl loop)
 ·first
   |exact bU (wpAny_rule (bU (wpAny_standAt (bU (T.self _ 0 s _ _ st (bV (And.intro rfl loop)))))))
   |(refine bU (wpAny_rule ?_);show wpAny _ _ (standAt iter.pos >>= _) _ _ s;exact bU (wpAny_standAt (bU (T.self _ 0 s _ _ st (bV (And.intro rfl loop))))))
def Ef {w:TI}{g:TG}{ti:TT}{tm:wa}(b:∀e s,X.xe e s->False)(n:X.calm=true)(c:gens[d+1]? =some ⟨tg,iter,ifs,0⟩)(o:∀g',gens[d+2]? =some g'->g'.is_async=0)(hw:PI X tg iter w)(t:PG X tg g)(m:g8 X ifs ti)(hm:kQ X elt gens sc pos (d+1) tm)
  (j:∀x,foldedSetIterable iter X.env x=pure x:=by intro _;rfl):kQ X elt gens sc pos d (cN w g ti tm):=by
 intro pins s σ H D Q k Q' E I h l;unfold Yz;rw[c];refine bU (Q9 b (zY (hw pins s σ H _ I h) λv s1 r=>?_));refine bU (wpAny_standAt (bU (wpAny_of_eq (j v) ?_)));refine bU (wpAny_holding (Q9 b (zY r λi s2 p=>?_)));obtain⟨it,fp,A,J,B,e,u,T,wH,f2,q⟩:=p;subst e;refine bU (wpAny_runOwn (OW b n c o t m hm T u wH f2 q λS a z y f=>?_));exact l S a z y f
end
noncomputable def gr (nl:Nat)(cap:bJ)(σ:St):St:=List.replicate nl none++cap.map λi=>(σ[i]?).join
noncomputable def Zx (M N:bK)(scope:Scope)(nl:Nat)(cap:bJ):Bool:=
 N.length==nl+cap.length&&(List.range cap.length).all λk=>match N[nl+k]?,M[cap.getD k 0]? with
  |some x,some y=>x==y&&scope.names.any λz=>z.1==x&&z.2==NameKind.free|_,_=>false
def Fi {M:bK}{nl:Nat}(h:Zx M N scope nl cap=true):(gr nl cap σ).length=N.length/\
  ∀(j:Nat)(x:Str)(v:V),N[j]? =some x->(gr nl cap σ)[j]? =some (some v)->(x,NameKind.free)∈scope.names/\∃i:Nat,M[i]? =some x/\σ[i]? =some (some v):=by
 unfold Zx at h;rw[aq,aU]at h;obtain⟨n,m⟩:=h;refine⟨by unfold gr;simp[n],λj x v r E=>?_⟩
 unfold gr at E
 by_cases b:j<nl
 ·rw[ah (by simpa using b),List.getElem?_replicate]at E
  split at E<;>cases E
 ·rw[ax (by simpa using b),length_replicate,ak]at E
  cases c:cap[j-nl]? with
  |none=>rw[c]at E;cases E|some i=>
   rw[c]at E;have e:(σ[i]?).join=some v:=aD E;have f:j-nl<cap.length:=(bY.mp c).1;have H:=b2.mp m (j-nl) (bX.mpr f);have p:nl+(j-nl)=j:=by omega
   rw[p,r]at H;have q:cap.getD (j-nl) 0=i:=by rw[aa,c];rfl
   rw[q]at H;cases hm:M[i]? with
   |none=>rw[hm]at H;cases H|some y=>
    rw[hm]at H;rw[aq,aU]at H;obtain⟨l,g⟩:=H;subst l;obtain⟨z,d,a⟩:=List.any_eq_true.mp g;rw[aq,aU,aU]at a;refine⟨?_,i,hm,?_⟩
    ·obtain⟨t,Z⟩:=z
     obtain⟨a1,a2⟩:=a;cases a1;cases a2;exact d
    ·cases s:σ[i]? with
     |none=>rw[s]at e;cases e|some o=>rw[s]at e;cases o with
      |none=>cases e|some w=>cases e;rfl
noncomputable abbrev yx:Value->Shared->Prop:=λ_ _=>False
def Wg (K:Frag)(w:TI)(g:TG)(ti:TT)(tm:wa)(nl:Nat)(cap:bJ):TE:=λσ H Q=>w σ H λJ h=>∀D,h D=none->K.lookup D=none->Yu J g ti tm D (gr nl cap σ) (upd h D (.lst [])) λ_ a=>Q (.ref D) a
section
variable {iter:Expr}{wi:TI}{g:TG}{ti:TT}{tm:wa}{nl:Nat}
def Pp (hc:X.calm=true)(S:gm X sc)(B:Zx X.N N sc nl cap=true)(ha:∀g',gs[0]? =some g'->g'.is_async=0)(hw:PI X tg iter wi)
  
  (hin:∀s H fp,Inv X pins σ H s->(∀b∈fp,kz X pins H b)->PG (jM X N sc s H fp yx) tg g/\g8 (jM X N sc s H fp yx) ifs ti/\kQ (jM X N sc s H fp yx) elt (⟨tg,iter,ifs,0⟩::gs) sc pos 0 tm)
  {Q:VK}(I:Inv X pins σ H s)(h:Wg X.K wi g ti tm nl cap σ H Q)
  {use:Option (Value->Sem Unit)}{Q':bL}
  (t:∀(D C:Addr)(l:Shared)(r:Hp)(m:bO),Inv X pins σ r l->Q (.ref D) r->l.heap.Ns C m->r C=none->C≠X.env.locals->X.s0.heap.objs.size<=C->(∀x c,X.env.cells.lookup x=some c->c≠C)->(∀q∈X.pn++pins,q.1≠C)->
   compPost (model X.prog X.w) X.A X.xe use Q' (.ref D) C (.ok .next) l)
  (hs:∀x,foldedSetIterable iter X.env x=pure x:=by intro _;rfl):
  wpAny (model X.prog X.w) X.A (comprehension (.ListComp elt (⟨tg,iter,ifs,0⟩::gs) sc pos) sc X.env p (newList []) false (eval iter X.env) use) Q' X.xe s:=by
 have j:∀y∈sc.names,y.2=.free->∃c,X.env.cells.lookup y.1=some c:=λy Z e=>I.ok.has _ (S.free y Z e);refine wpAny_comprehension_free (use:=use) rfl hs (Ih j) S.kind (λy Z e=>by
  obtain⟨y1,y2⟩:=y;have e':y2=.local:=e;subst e';exact QD S.nd Z) ?_
 refine zY (hw pins s σ H _ I h) λv s1 h1=>zY h1 λitv s2 h2=>?_;obtain⟨it,fp,tn,J,P,e,I2,T,wH,f2,q2⟩:=h2;subst e;refine wpAny_newObj_type ?_;have hD:P s2.heap.objs.size=none:=I2.fresh;have hKD:X.K.lookup s2.heap.objs.size=none:=by
  cases ek:X.K.lookup s2.heap.objs.size with
  |none=>rfl|some o=>exact absurd (aI (I2.kIn _ _ ek)) (aW _)
 have Y:=q2 _ hD hKD;generalize hs3:({ s2 with heap:=s2.heap.push { cls:=.type "list",data:=.seq ([]:bG).toArray } }:Shared)=s3
 have f:s3={ s2 with heap:=s2.heap.push { cls:=.type "list",data:=.seq ([]:bG).toArray } }:=hs3.symm
 have i:Inv X pins σ (upd P s2.heap.objs.size (.lst [])) s3:=by
  rw[f];exact I2.laid (t':=s2.toks) (λb u e=>af _ e) (ao _) ⟨by simp,[],0,.nil,aA _ rfl⟩
 have E:∀b∈fp,∃o,s2.heap.get? b=some o:=λb a=>let ⟨o,e,_⟩:=T.obj 0 _ wH b a;⟨o,e⟩
 have U:s3.heap.objs.size=s2.heap.objs.size+1:=by rw[f];exact bg ..
 have w8:tn 0 s3.heap:=T.keep _ _ _ wH λb a o e=>by rw[f];exact af _ e
 have L:∀b∈fp,b<s3.heap.objs.size:=λb a=>by
  obtain⟨o,e⟩:=E b a;rw[U];exact bb (aI e)
 have M:∀b∈fp,kz X pins (upd P s2.heap.objs.size (.lst [])) b:=λb a=>by
  obtain⟨o,e⟩:=E b a;refine⟨?_,(f2 b a).2⟩;rw[qF (aT (aI e))];exact(f2 b a).1
 generalize upd P s2.heap.objs.size (.lst [])=H3 at i M Y;generalize s2.heap.objs.size=D at Y ⊢;refine NV ?_;obtain⟨cl,cs⟩:=Fi B (σ:=σ);have I4:=Fe (xe:=yx) i S M L cl cs;obtain⟨hgt,hi,hm⟩:=hin s3 H3 fp i M;refine OW (X:=jM X N sc s3 H3 fp yx) (gens:=⟨tg,iter,ifs,0⟩::gs) (d:=0) (λ_ _ z=>z) hc rfl ha hgt hi hm T I4 (T.keep _ _ _ w8 λb a o e=>pushCells_keeps _ _ _ _ (af _ e)) (λb a=>?_) Y λl σ' r n q'=>?_
 ·obtain⟨g1,g2,g3,g4,g5,g6⟩:=M b a
  refine⟨g1,aT (L b a),λz=>?_,.inl a,(I4.ok.exf b a).2,λp hp=>absurd (show p∈([]:bI) from hp) (by simp)⟩
  rcases b0.mp (i.stkSub b z) with e|e
  ·exact g2 e
  ·exact g3 e
 ·have I5:Inv X pins σ r l:=i.call' n.os n.base n.hok n.bare λb a=>by
   obtain⟨g1,g2,g3,g4,g5,g6⟩:=M b a;exact⟨g4,g2,g5,g6⟩
  obtain⟨m,hn,_⟩:=n.loc;refine t D _ l r m I5 q' hn n.free (ne_of_gt i.lt) i.sz (λx c e z=>?_) λq hq z=>?_
  ·obtain⟨v,w⟩:=i.cell x c e
   exact aW _ (aH w.lt (by rw[z];exact ao _))
  ·exact aW _ (aH (aI (i.pin q hq).1) (by rw[z];exact ao _))
def Ds (f:X.calm=true)(S:gm X sc)(p:Zx X.N N sc nl cap=true)(j:∀g',gs[0]? =some g'->g'.is_async=0)(hw:PI X tg iter wi)
  (n:∀s H fp,PG (jM X N sc s H fp yx) tg g/\g8 (jM X N sc s H fp yx) ifs ti/\kQ (jM X N sc s H fp yx) elt (⟨tg,iter,ifs,0⟩::gs) sc pos 0 tm)
  (d:∀x,foldedSetIterable iter X.env x=pure x:=by intro _;rfl):PE X (.ListComp elt (⟨tg,iter,ifs,0⟩::gs) sc pos) (Wg X.K wi g ti tm nl cap):=by
 intro pins s σ H Q I h;rw[eval_ListComp];refine Pp (use:=none) f S p j hw (λs H fp _ _=>n s H fp) I h (λD C c y m w q hn v u t r l=>?_) d;exact⟨m,hn,λh' a=>⟨.ref D,y,w.turned (t':=c.toks) (λb o i e=>(a.2 b i).trans e) v u (.inr t) r l,rfl,q⟩⟩
def Ik {p:Pos}{c:Pos}(T:X.N.Nodup)(l:X.N[i]? =some x)(t:X.env.scope.names.lookup x=some .local)
  (w:swapsWith (.ListComp elt (⟨tg,iter,ifs,0⟩::gs) sc pos) (some (.Name x p)) c.line X.env=pure true)
  (M:X.calm=true)(S:gm X sc)(d:Zx X.N N sc nl cap=true)(Q:∀g',gs[0]? =some g'->g'.is_async=0)(hw:PI X tg iter wi)
  (n:∀s H fp,PG (jM X N sc s H fp yx) tg g/\g8 (jM X N sc s H fp yx) ifs ti/\kQ (jM X N sc s H fp yx) elt (⟨tg,iter,ifs,0⟩::gs) sc pos 0 tm)
  (J:∀x,foldedSetIterable iter X.env x=pure x:=by intro _;rfl):PS X (.Assign [.Name x p] (.ListComp elt (⟨tg,iter,ifs,0⟩::gs) sc pos) c) (Wq (Wg X.K wi g ti tm nl cap) (Wb i)):=by
 intro pins s σ H D I h;rw[exec_Assign_Name_used _ _ _ _ w];refine bU (wpAny_standAt (bU ?_));show wpAny _ X.A (do let _ <- comprehension (.ListComp elt (⟨tg,iter,ifs,0⟩::gs) sc pos) sc X.env _ (newList []) false (eval iter X.env) (some (assign (.Name x p) X.env))) _ _ s
 refine bU (wpAny_mono (Pp (use:=some (assign (.Name x p) X.env)) (Q':=λ_ j=>SP X pins D .next j) M S d Q hw (λs H fp _ _=>n s H fp) I h (λB C j H' m I' q hn Z y Y u U=>?_) J) (λ_ j L=>bV (bV L)) λ_ _ e=>e);show wpAny _ X.A (assign (.Name x p) X.env (.ref B)) _ _ _;refine wpAny_assign_Name (SY I' T l (.inl t) (v:=.ref B) rfl (λs2 I2 ⟨a,E,ea⟩=>?_) (.inr t));have r:C≠a:=by
  rcases ea with e|e
  ·rw[e];exact y
  ·exactλz=>u x a e z.symm
 refine⟨m,hn.sameBut E r,λh' f=>⟨_,H',I2.turned (t':=s2.toks) (λb o P e=>(f.2 b P).trans e) Z y (.inr Y) u U,q⟩⟩
end
end L2
namespace Mi
open PySem PySem.Spec PyProof.Rows L2
inductive W where
 |non|bl (b:Bool)|int (i:Int)|str (x:Str)|tup (xs:List W)|ref (n:Nat)
 |clo (k:Nat) (xs:List W) (P:Obj->Addr->Obj->List V->Prop)
 |xc (x:Str)
inductive O where
 |lst (xs:List W)|ro (xs:List W)|dct (kvs:List (Key×W))
 |td (kvs:List (List Int×W))
 |tr (kvs:List (List Int×W))
 |tab (q:Str) (P:Addr)
noncomputable def O.mut:O->Bool
 |.ro _=>false|.tr _=>false|_=>true
noncomputable abbrev Hx:=List O
noncomputable abbrev En:=List (Option W)
inductive R (α:Type) where
 |ok (a:α) (A:Hx)|exc (x:Str) (A:Hx)|bad
noncomputable def R.bind {β:Type}(r:R α)(f:α->Hx->R β):R β:=match r with
 |.ok a A=>f a A|.exc x A=>.exc x A|.bad=>.bad
def R.post (r:R α)(P:α->Hx->Prop)(E:Str->Hx->Prop):Prop:=match r with
 |.ok a A=>P a A|.exc x A=>E x A|.bad=>False
noncomputable def R.nox (r:R α):R α:=match r with
 |.ok a A=>.ok a A|.exc _ _=>.bad|.bad=>.bad
section
variable {β:Type}{r:R α}{f:α->Hx->R β}{P Q:α->Hx->Prop}{P':β->Hx->Prop}{E F:Str->Hx->Prop}
def zS {a:α}{A:Hx}:(R.ok a A).bind f=f a A:=rfl
def qg:(r.bind f).post P' E↔r.post (λa A=>(f a A).post P' E) E:=by cases r<;>exact Iff.rfl
def qB (h:r.post P E)(H:∀a A,P a A->Q a A)(b:∀x A,E x A->F x A):r.post Q F:=by
 cases r with
 |ok a A=>exact H _ _ h|exc x A=>exact b _ _ h|bad=>exact h
end
abbrev Ev:=En->Hx->R W
inductive zaV (K:Frag)(H:Hp)(R:List V->Prop)(v:V):Prop
 |mk (a:Addr) (vs:List V) (e:v=.ref a) (h:qA K H a vs) (r:R vs)
inductive za4 (H:Hp)(P:Obj->Addr->Obj->List V->Prop)(R:List V->Prop)(v:V):Prop
 |mk (a:Addr) (ob:Obj) (u:HO) (c:Addr) (oc:Obj) (uc:HO) (vs:List V) (e:v=.ref a) (h1:H a=some (.frz ob u)) (h2:H c=some (.frz oc uc)) (p:P ob c oc vs) (r:R vs)
inductive za0 (R:V->Prop)(Rs:List V->Prop)(vs:List V):Prop
 |mk (v:V) (r:List V) (e:vs=v::r) (h:R v) (t:Rs r)
mutual
noncomputable def RV (K:Frag)(φ:bH)(H:Hp):W->V->Prop
 |.non,v=>v=.non|.bl b,v=>v=.bl b|.int i,v=>v=.int i|.str x,v=>v=.str x|.tup ws,v=>zaV K H (zL K φ H ws) v|.ref n,v=>∃a,v=.ref a/\φ[n]? =some a|.clo _ ws P,v=>za4 H P (zL K φ H ws) v|.xc x,v=>∃a o u C,v=.ref a/\H a=some (.frz o u)/\o.cls=.ref C/\nsIn K mainGlobals x=some (some (.ref C))
noncomputable def zL (K:Frag)(φ:bH)(H:Hp):List W->List V->Prop
 |[],vs=>vs=[]|w::ws,vs=>za0 (RV K φ H w) (zL K φ H ws) vs
end
structure Le (K:Frag)(φ:bH)(H:Hp)(φ':bH)(H':Hp):Prop where
 ex:∀(n:Nat)(a:Addr),φ[n]? =some a->φ'[n]? =some a
 tp:∀a vs,qA K H a vs->qA K H' a vs
 fr:∀a o,H a=some o->(∀n:Nat,φ[n]?≠some a)->H' a=some o
 nw:∀(n:Nat)(a:Addr),φ'[n]? =some a->φ[n]? =some a∨H a=none
 st:∀a,H' a=none->H a=none
 fz:∀a o u,H a=some (.frz o u)->H' a=some (.frz o u)
def Le.refl {K φ H}:Le K φ H φ H:=⟨λ_ _ h=>h,λ_ _ h=>h,λ_ _ h _=>h,λ_ _ h=>.inl h,λ_ h=>h,λ_ _ _ h=>h⟩
def Le.trans {K φ H φ1 H1 φ2 H2}(a:Le K φ H φ1 H1)(b:Le K φ1 H1 φ2 H2):Le K φ H φ2 H2 where
 ex:=λn x h=>b.ex n x (a.ex n x h)
 tp:=λn x h=>b.tp n x (a.tp n x h)
 fr:=λc o h n=>b.fr c o (a.fr c o h n) λk e=>by
  rcases a.nw k c e with e|e
  ·exact n k e
  ·rw[h]at e;cases e
 nw:=λn c e=>by
  rcases b.nw n c e with e|e
  ·exact a.nw n c e
  ·exact .inr (a.st c e)
 st:=λc e=>a.st c (b.st c e)
 fz:=λc o u h=>b.fz c o u (a.fz c o u h)
def Le.off {K φ H φ' H'}(l:Le K φ H φ' H')(h:H D=some o)(n:∀k:Nat,φ[k]?≠some D):H' D=some o/\∀k:Nat,φ'[k]?≠some D:=
 ⟨l.fr D o h n,λk e=>by
  rcases l.nw k D e with e|e
  ·exact n k e
  ·rw[h]at e;cases e⟩
section
variable {K:Frag}{φ':bH}{H':Hp}
structure Zd (K:Frag)(φ:bH)(H:Hp)(φ':bH)(H':Hp):Prop where
 ex:∀(n:Nat)(a:Addr),φ[n]? =some a->φ'[n]? =some a
 tp:∀a vs,qA K H a vs->qA K H' a vs
 fz:∀a o u,H a=some (.frz o u)->H' a=some (.frz o u)
mutual
theorem RV.monoW (l:Zd K φ H φ' H'):∀{w:W}{v:V},RV K φ H w v->RV K φ' H' w v
 |.non,_,h=>h|.bl _,_,h=>h|.int _,_,h=>h|.str _,_,h=>h|.tup ws,_,⟨a,vs,e,t,r⟩=>⟨a,vs,e,l.tp _ _ t,zL.monoW l r⟩|.ref n,_,⟨a,e,f⟩=>⟨a,e,l.ex _ _ f⟩|.clo _ ws P,_,⟨a,ob,u,c,g,U,vs,e,d,b,i,r⟩=>⟨a,ob,u,c,g,U,vs,e,l.fz _ _ _ d,l.fz _ _ _ b,i,zL.monoW l r⟩|.xc x,_,⟨a,o,u,C,e,d,b⟩=>⟨a,o,u,C,e,l.fz _ _ _ d,b⟩
theorem zL.monoW (l:Zd K φ H φ' H'):∀{ws:List W}{vs:List V},zL K φ H ws vs->zL K φ' H' ws vs
 |[],_,h=>h|w::ws,_,⟨v,r,e,h,t⟩=>⟨v,r,e,RV.monoW l h,zL.monoW l t⟩
end
def RV.mono {w:W}(h:RV K φ H w v)(l:Le K φ H φ' H'):RV K φ' H' w v:=RV.monoW ⟨l.ex,l.tp,l.fz⟩ h
def zL.mono {w:List W}{v:List V}(h:zL K φ H w v)(l:Le K φ H φ' H'):zL K φ' H' w v:=zL.monoW ⟨l.ex,l.tp,l.fz⟩ h
structure yA (K:Frag)(D:Addr)(φ:bH)(H:Hp)(φ':bH)(H':Hp):Prop where
 ex:∀(n:Nat)(a:Addr),φ[n]? =some a->φ'[n]? =some a
 tp:∀a vs,qA K H a vs->qA K H' a vs
 fr:∀a o,a≠D->H a=some o->(∀n:Nat,φ[n]?≠some a)->H' a=some o
 nw:∀(n:Nat)(a:Addr),φ'[n]? =some a->φ[n]? =some a∨H a=none
 st:∀a,H' a=none->H a=none
 fz:∀a o u,H a=some (.frz o u)->H' a=some (.frz o u)
def yA.refl {D}:yA K D φ H φ H:=⟨λ_ _ h=>h,λ_ _ h=>h,λ_ _ _ h _=>h,λ_ _ h=>.inl h,λ_ h=>h,λ_ _ _ h=>h⟩
def Le.toD {D}(l:Le K φ H φ' H'):yA K D φ H φ' H':=⟨l.ex,l.tp,λa o _ h n=>l.fr a o h n,l.nw,l.st,l.fz⟩
def yA.trans {D φ1 H1 φ2 H2}(a:yA K D φ H φ1 H1)(b:yA K D φ1 H1 φ2 H2):yA K D φ H φ2 H2 where
 ex:=λn x h=>b.ex n x (a.ex n x h)
 tp:=λn x h=>b.tp n x (a.tp n x h)
 fr:=λc o ne h n=>b.fr c o ne (a.fr c o ne h n) λk e=>by
  rcases a.nw k c e with e|e
  ·exact n k e
  ·rw[h]at e;cases e
 nw:=λn c e=>by
  rcases b.nw n c e with e|e
  ·exact a.nw n c e
  ·exact .inr (a.st c e)
 st:=λc e=>a.st c (b.st c e)
 fz:=λc o u h=>b.fz c o u (a.fz c o u h)
def RV.monoD {D}{w:W}(h:RV K φ H w v)(l:yA K D φ H φ' H'):RV K φ' H' w v:=RV.monoW ⟨l.ex,l.tp,l.fz⟩ h
def zL.monoD {D}{w:List W}{v:List V}(h:zL K φ H w v)(l:yA K D φ H φ' H'):zL K φ' H' w v:=zL.monoW ⟨l.ex,l.tp,l.fz⟩ h
theorem zL.length:∀{ws:List W}{vs:List V},zL K φ H ws vs->ws.length=vs.length
 |[],_,h=>by cases h;rfl|w::ws,_,⟨v,r,e,_,t⟩=>by subst e;simp[zL.length t]
theorem zL.get:∀{ws:List W}{vs:List V}{i:Nat}{w:W},zL K φ H ws vs->ws[i]? =some w->∃v,vs[i]? =some v/\RV K φ H w v
 |[],_,_,_,_,e=>by simp at e|w::ws,_,0,_,⟨v,r,e,h,t⟩,q=>by subst e;simp at q;subst q;exact⟨v,by simp,h⟩|w::ws,_,i+1,x,⟨v,r,e,h,t⟩,q=>by
  subst e;obtain⟨y,b,a⟩:=zL.get (i:=i) (w:=x) t (by simpa using q)
  exact⟨y,by simpa using b,a⟩
theorem zL.append:∀{ws us:List W}{vs xs:List V},zL K φ H ws vs->zL K φ H us xs->zL K φ H (ws++us) (vs++xs)
 |[],_,_,_,h,t=>by cases h;exact t|w::ws,_,_,_,⟨v,r,e,h,t⟩,T=>by subst e;exact⟨v,r++_,rfl,h,zL.append t T⟩
def zL.one {w:W}(h:RV K φ H w v):zL K φ H [w] [v]:=⟨v,[],rfl,h,rfl⟩
def zL.nil:zL K φ H [] []:=rfl
def zL.cons {w:W}{v:V}{ws:List W}{vs:List V}(h:RV K φ H w v)(t:zL K φ H ws vs):zL K φ H (w::ws) (v::vs):=⟨v,vs,rfl,h,t⟩
theorem zL.set {w:W}(q:RV K φ H w v):∀{ws:List W}{vs:List V}(i:Nat),zL K φ H ws vs->zL K φ H (ws.set i w) (vs.set i v)
 |[],_,_,h=>by cases h;exact rfl|_::_,_,0,⟨a,r,e,h,t⟩=>by subst e;exact⟨v,r,rfl,q,t⟩|_::_,_,i+1,⟨a,r,e,h,t⟩=>by subst e;exact⟨a,_,rfl,h,zL.set q i t⟩
theorem zL.drop:∀{ws:List W}{vs:List V}(n:Nat),zL K φ H ws vs->zL K φ H (ws.drop n) (vs.drop n)
 |[],_,n,h=>by cases h;rw[List.drop_nil,List.drop_nil];exact zL.nil|_::_,_,0,h=>by simpa using h|_::_,_,n+1,⟨v,r,e,h,t⟩=>by subst e;simpa using zL.drop n t
theorem zL.take:∀{ws:List W}{vs:List V}(n:Nat),zL K φ H ws vs->zL K φ H (ws.take n) (vs.take n)
 |[],_,n,h=>by cases h;rw[List.take_nil,List.take_nil];exact zL.nil|_::_,_,0,h=>by rw[take_zero,take_zero];exact zL.nil|_::_,_,n+1,⟨v,r,e,h,t⟩=>by subst e;exact⟨v,_,rfl,h,zL.take n t⟩
theorem zL.erase:∀{ws:List W}{vs:List V}(n:Nat),zL K φ H ws vs->zL K φ H (ws.eraseIdx n) (vs.eraseIdx n)
 |[],_,n,h=>by cases h;rw[List.eraseIdx_nil,List.eraseIdx_nil];exact zL.nil|_::_,_,0,⟨v,r,e,h,t⟩=>by subst e;simpa using t|_::_,_,n+1,⟨v,r,e,h,t⟩=>by subst e;exact⟨v,_,rfl,h,zL.erase n t⟩
theorem zL.ints:∀{ns:bF}{vs:List V},zL K φ H (ns.map W.int) vs↔vs=ns.map V.int
 |[],vs=>Iff.rfl|n::ns,vs=>by
  constructor
  ·rintro⟨v,r,e,h,t⟩
   rw[e,(show v=V.int n from h),zL.ints.mp t];rfl
  ·intro e
   exact⟨V.int n,ns.map V.int,e,rfl,zL.ints.mpr rfl⟩
def VL (K:Frag)(H:Hp)(a:Addr)(xs:List V):Prop:=
 (∃ob,H a=some (.frz ob (.lst xs)))∨
  ∃(o:Obj) (its:Array Value) (n:Nat),K.lookup a=some o/\o.cls=.type "list" /\ o.dict=none/\o.data=.seq its n/\its.size<=sizeLine/\Vals xs its.toList
def VL.sq (h:VL K H a xs):qV K H a xs:=by
 rcases h with h|h
 ·exact .inl (.inr h)
 ·exact .inr h
inductive TabAt (H:Hp)(q:Str)(cv:Value):Prop
 |mk (c:Addr) (oc:Obj) (u:HO) (vs:Array Value) (t:Tok) (e:cv=.ref c) (h:H c=some (.frz oc u)) (d:oc.data=.fields vs/\vs[1]? =some (.str q t))
def Wm (H:Hp)(q:Str)(ps:Array Value):Prop:=TriplesOk ps.toList/\∀pos c,codeAmong pos ps.toList=some c->TabAt H q c
def Wm.mono {q:Str}{ps:Array Value}(h:Wm H q ps)(l:∀a o u,H a=some (.frz o u)->H' a=some (.frz o u)):Wm H' q ps:=
 ⟨h.1,λpos C e=>by obtain⟨c,b,u,vs,t,g,f,d⟩:=h.2 pos C e;exact⟨c,b,u,vs,t,g,l _ _ _ f,d⟩⟩
noncomputable def hT (ks:bF):Int:=reduceHash (Builtin.Tuple.tupleHashOf (ks.map hashInt))
def cO (a:Addr)(xs:List (List Int×Addr×V))(h:Heap):Prop:=(a==sysModules)=false/\xs.length<=sizeLine/\∃zs:List (List Int×Addr×Value),
 Paired (λ(p:List Int×Addr×V) (q:List Int×Addr×Value)=>p.1=q.1/\p.2.1=q.2.1/\RelV p.2.2 q.2.2) xs zs/\
 ∃o e E,h.get? a=some o/\o.ExactDict/\o.data=.dict e E/\e.toList=zs.map (λx=>(⟨hT x.1,.ref x.2.1,x.2.2⟩:DictEntry))/\(zs.map (·.1)).Nodup
def cP (a:Addr)(xs:List (List Int×Addr×V))(o:Obj):Prop:=(a==sysModules)=false/\xs.length<=sizeLine/\∃zs:List (List Int×Addr×Value),
 Paired (λ(p:List Int×Addr×V) (q:List Int×Addr×Value)=>p.1=q.1/\p.2.1=q.2.1/\RelV p.2.2 q.2.2) xs zs/\
 ∃e E,o.ExactDict/\o.data=.dict e E/\e.toList=zs.map (λx=>(⟨hT x.1,.ref x.2.1,x.2.2⟩:DictEntry))/\(zs.map (·.1)).Nodup
def OR (K:Frag)(φ:bH)(H:Hp)(a:Addr):O->Prop
 |.lst ws=>∃vs,H a=some (.lst vs)/\zL K φ H ws vs|.ro ws=>∃vs,VL K H a vs/\zL K φ H ws vs|.dct kvs=>∃us,H a=some (.dK us)/\us.map (·.1)=kvs.map (·.1)/\zL K φ H (kvs.map (·.2)) (us.map (·.2))|.td kvs=>∃xs:List (List Int×Addr×V),H a=some (.ext (cO a xs))/\xs.map (·.1)=kvs.map (·.1)/\(∀x∈xs,qA K H x.2.1 (x.1.map V.int))/\zL K φ H (kvs.map (·.2)) (xs.map (·.2.2))|.tr kvs=>∃(ob:Obj) (u:HO) (xs:List (List Int×Addr×V)),H a=some (.frz ob u)/\cP a xs ob/\xs.map (·.1)=kvs.map (·.1)/\(∀x∈xs,qA K H x.2.1 (x.1.map V.int))/\zL K φ H (kvs.map (·.2)) (xs.map (·.2.2))|.tab q P=>a=P/\∃ps,H a=some (.tbl ps)/\Wm H q ps
structure zU (K:Frag)(φ:bH)(A:Hx)(H:Hp):Prop where
 len:φ.length=A.length
 inj:∀(i j:Nat)(a:Addr)(o o':O),φ[i]? =some a->φ[j]? =some a->A[i]? =some o->A[j]? =some o'->o.mut=true->o'.mut=true->i=j
 ob:∀(n:Nat)(o:O),A[n]? =some o->∃a,φ[n]? =some a/\OR K φ H a o
variable {A:Hx}
def OR.there {o:O}(h:OR K φ H a o)(m:o.mut=true):∃u,H a=some u/\(∀xs,u≠.tup xs)/\(∀ob v,u≠.frz ob v):=by
 cases o with
 |lst ws=>obtain⟨vs,e,_⟩:=h;exact⟨_,e,λ_ z=>(by cases z),λ_ _ z=>(by cases z)⟩|ro ws=>cases m|dct kvs=>obtain⟨vs,e,_⟩:=h;exact⟨_,e,λ_ z=>(by cases z),λ_ _ z=>(by cases z)⟩|td kvs=>obtain⟨vs,e,_⟩:=h;exact⟨_,e,λ_ z=>(by cases z),λ_ _ z=>(by cases z)⟩|tr _=>cases m|tab q P=>obtain⟨_,vs,e,_⟩:=h;exact⟨_,e,λ_ z=>(by cases z),λ_ _ z=>(by cases z)⟩
def KJ (h:qA K H a vs)(n:∀xs,H b≠some (.tup xs))(N:∀ob u,H b≠some (.frz ob u)):qA K (upd H b o) a vs:=by
 rcases h with (h|⟨ob,h⟩)|h
 ·exact .inl (.inl (by rw[qF];exact h;intro e;subst e;exact n _ h))
 ·exact .inl (.inr ⟨ob,by rw[qF];exact h;intro e;subst e;exact N _ _ h⟩)
 ·exact .inr h
theorem Le.upd {k:Nat}(c:φ[k]? =some b)(n:∀xs,H b≠some (.tup xs))(N:∀ob u,H b≠some (.frz ob u)):Le K φ H φ (upd H b o) where
 ex:=λ_ _ h=>h
 tp:=λ_ _ h=>KJ h n N
 fr:=λa u h z=>by
  rw[qF];exact h;intro e;subst e;exact z k c
 nw:=λ_ _ h=>.inl h
 st:=λa h=>by
  by_cases e:a=b
  ·subst e;rw[yn]at h;cases h
  ·rw[qF e]at h;exact h
 fz:=λa ob u h=>by
  rw[qF];exact h;intro e;subst e;exact N _ _ h
def Le.new {p:Addr}(b:H p=none):Le K φ H φ (L2.upd H p o) where
 ex:=λ_ _ h=>h
 tp:=λ_ _ h=>KJ h (λxs z=>by rw[b]at z;cases z) (λ_ _ z=>by rw[b]at z;cases z)
 fr:=λa u h z=>by
  rw[qF];exact h;intro e;subst e;rw[b]at h;cases h
 nw:=λ_ _ h=>.inl h
 st:=λa h=>by
  by_cases e:a=p
  ·subst e;rw[yn]at h;cases h
  ·rw[qF e]at h;exact h
 fz:=λa ob u h=>by
  rw[qF];exact h;intro e;subst e;rw[b]at h;cases h
def Le.alloc {p:Addr}(b:H p=none):Le K φ H (φ++[p]) (L2.upd H p o) where
 ex:=λn a h=>by
  have:=(bY.mp h).1
  rw[ah this];exact h
 tp:=(Le.new (φ:=φ) b).tp
 fr:=(Le.new (K:=K) (φ:=φ) b).fr
 nw:=λn a h=>by
  by_cases hn:n < φ.length
  ·rw[ah hn]at h;exact .inl h
  ·rw[ax (by omega)]at h
   have e:a=p:=by
    have:=List.mem_of_getElem? h
    simpa using this
   subst e;exact .inr b
 st:=(Le.new (K:=K) (φ:=φ) b).st
 fz:=(Le.new (K:=K) (φ:=φ) b).fz
def Le.ofD (b:H D=none)(l:yA K D φ (L2.upd H D o) φ' H'):Le K φ H φ' H' where
 ex:=l.ex
 tp:=λa vs h=>l.tp a vs ((Le.new (K:=K) (φ:=φ) b).tp a vs h)
 fr:=λa u h n=>by
  have ne:a≠D:=by rintro rfl;rw[b]at h;cases h
  exact l.fr a u ne (by rw[qF ne];exact h) n
 nw:=λn a e=>by
  rcases l.nw n a e with e|e
  ·exact .inl e
  ·by_cases h:a=D
   ·subst h;rw[yn]at e;cases e
   ·rw[qF h]at e;exact .inr e
 st:=λa e=>by
  have E:=l.st a e
  by_cases h:a=D
  ·subst h;rw[yn]at E;cases E
  ·rw[qF h]at E;exact E
 fz:=λa ob u h=>l.fz a ob u (by rw[qF];exact h;rintro rfl;rw[b]at h;cases h)
theorem yA.upd (b:H D=some (.lst xs)):yA K D φ H φ (L2.upd H D o) where
 ex:=λ_ _ h=>h
 tp:=λa vs h=>KJ h (λxs z=>by rw[b]at z;cases z) (λ_ _ z=>by rw[b]at z;cases z)
 fr:=λa u ne h n=>by rw[qF ne];exact h
 nw:=λ_ _ h=>.inl h
 st:=λa e=>by
  by_cases h:a=D
  ·subst h;rw[yn]at e;cases e
  ·rw[qF h]at e;exact e
 fz:=λa ob u h=>by
  rw[qF];exact h;intro e;subst e;rw[b]at h;cases h
def OR.keep {o:O}(h:OR K φ H a o)(l:Le K φ H φ' H')(e:∀u,H a=some u->H' a=some u):OR K φ' H' a o:=by
 cases o with
 |lst ws=>obtain⟨vs,q,r⟩:=h;exact⟨vs,e _ q,r.mono l⟩|dct kvs=>obtain⟨vs,q,k,r⟩:=h;exact⟨vs,e _ q,k,r.mono l⟩|td kvs=>obtain⟨vs,q,k,t,r⟩:=h;exact⟨vs,e _ q,k,λx b=>l.tp _ _ (t x b),r.mono l⟩|tr kvs=>obtain⟨ob,u,vs,q,d,k,t,r⟩:=h;exact⟨ob,u,vs,e _ q,d,k,λx b=>l.tp _ _ (t x b),r.mono l⟩|tab q P=>obtain⟨k,ps,q,r⟩:=h;exact⟨k,ps,e _ q,r.mono l.fz⟩|ro ws=>
  obtain⟨vs,q,r⟩:=h;refine⟨vs,?_,r.mono l⟩;rcases q with ⟨ob,q⟩|q
  ·exact .inl ⟨ob,e _ q⟩
  ·exact .inr q
theorem zU.alloc {p:Addr}{u:HO}{o:O}(S:zU K φ A H)(r:H p=none)(new:OR K (φ++[p]) (L2.upd H p u) p o):Le K φ H (φ++[p]) (L2.upd H p u)/\zU K (φ++[p]) (A++[o]) (L2.upd H p u):=by
 have l:Le K φ H (φ++[p]) (L2.upd H p u):=Le.alloc r;have old:∀(i:Nat) a,(φ++[p])[i]? =some a->i<A.length->φ[i]? =some a:=λi a e b=>by
  rw[ah (by rw[S.len];exact b)]at e;exact e
 refine⟨l,by simp[S.len],λi j a x w m g f c m1 m2=>?_,λn o' e=>?_⟩
 ·by_cases b:i<A.length
  ·by_cases d:j<A.length
   ·rw[ah b]at f
    rw[ah d]at c;exact S.inj i j a x w (old i a m b) (old j a g d) f c m1 m2
   ·exfalso
    rw[ah b]at f;have t:j=A.length:=by have:=(bY.mp c).1;simp at this;omega
    subst t;rw[ax (by rw[S.len];exact ao _),S.len]at g
    simp at g;obtain⟨B,E,q⟩:=S.ob i x f;rw[old i a m b]at E;cases E;obtain⟨z,h,_⟩:=q.there m1;rw[<- g,r]at h;cases h
  ·have v:i=A.length:=by have:=(bY.mp f).1;simp at this;omega
   by_cases d:j<A.length
   ·exfalso
    rw[ah d]at c;subst v;rw[ax (by rw[S.len];exact ao _),S.len]at m
    simp at m;obtain⟨B,E,q⟩:=S.ob j w c;rw[old j a g d]at E;cases E;obtain⟨z,h,_⟩:=q.there m2;rw[<- m,r]at h;cases h
   ·have:=(bY.mp c).1;simp at this;omega
 ·by_cases hn:n<A.length
  ·rw[ah hn]at e
   obtain⟨a,E,q⟩:=S.ob n o' e;refine⟨a,l.ex _ _ E,q.keep l λz h=>?_⟩;rw[qF];exact h;intro y;subst y;rw[r]at h;cases h
  ·have s:n=A.length:=by have:=(bY.mp e).1;simp at this;omega
   subst s;rw[ax (ao _)]at e;simp at e;subst e;exact⟨p,by rw[ax (by rw[S.len];exact ao _),S.len];simp,new⟩
def zU.write {p:Addr}{u:HO}{o o':O}(S:zU K φ A H)(hn:A[n]? =some o)(m:o.mut=true)(Y:o'.mut=true)(c:φ[n]? =some p)(new:OR K φ (L2.upd H p u) p o'):
  Le K φ H φ (L2.upd H p u)/\zU K φ (A.set n o') (L2.upd H p u):=by
 obtain⟨X,e,q⟩:=S.ob n o hn;rw[c]at e;cases e;obtain⟨z,h,D,N⟩:=q.there m;have l:Le K φ H φ (L2.upd H p u):=Le.upd c (λxs e=>by rw[h]at e;exact D xs (aD e)) λob v e=>by rw[h]at e;exact N ob v (aD e)
 have mt:∀(i:Nat)(w:O),(A.set n o')[i]? =some w->w.mut=true->∃f,A[i]? =some f/\f.mut=true:=λi w e M=>by
  by_cases hi:i=n
  ·subst hi;exact⟨o,hn,m⟩
  ·rw[aF (Ne.symm hi)]at e;exact⟨w,e,M⟩
 refine⟨l,by simp[S.len],λi j a C B T Q P L m1 m2=>?_,λi w e=>?_⟩
 ·obtain⟨s,E,k1⟩:=mt i C P m1
  obtain⟨g,U,I⟩:=mt j B L m2;exact S.inj i j a s g T Q E U k1 I
 ·by_cases hi:i=n
  ·subst hi
   have:i<A.length:=(bY.mp hn).1
   rw[aC this]at e;cases e;exact⟨p,c,new⟩
  ·rw[aF (Ne.symm hi)]at e
   obtain⟨a,E,r⟩:=S.ob i w e;refine⟨a,E,?_⟩
   by_cases hm:w.mut=true
   ·have ne:a≠p:=λz=>hi (S.inj i n a w o E (by rw[z];exact c) e hn hm m)
    exact r.keep l λz h=>by rw[qF ne];exact h
   ·cases w with
    |lst _=>exact absurd rfl hm|dct _=>exact absurd rfl hm|td _=>exact absurd rfl hm|tr _=>obtain⟨ob,u,vs,q,d,k,t,r⟩:=r;exact⟨ob,u,vs,l.fz _ _ _ q,d,k,λx J=>l.tp _ _ (t x J),r.mono l⟩|tab _ _=>exact absurd rfl hm|ro ws=>
     obtain⟨vs,b,y⟩:=r;refine⟨vs,?_,y.mono l⟩;rcases b with ⟨ob,b⟩|b
     ·refine .inl ⟨ob,?_⟩
      rw[qF];exact b;intro z;subst z;rw[h]at b;exact N _ _ (aD b)
     ·exact .inr b
def zU.lay {p:Addr}{u:HO}(S:zU K φ A H)(b:H p=none):zU K φ A (L2.upd H p u):=
 ⟨S.len,S.inj,λn o e=>by
  obtain⟨a,c,q⟩:=S.ob n o e;refine⟨a,c,q.keep (Le.new b) λz h=>?_⟩;rw[qF];exact h;intro E;subst E;rw[b]at h;cases h⟩
def zU.off (S:zU K φ A H)(b:H D=some (.lst xs))(n:∀k:Nat,φ[k]?≠some D):zU K φ A (L2.upd H D o):=
 ⟨S.len,S.inj,λk u e=>by
  obtain⟨a,E,q⟩:=S.ob k u e;have ne:a≠D:=λz=>n k (by rw[<- z];exact E)
  have l:yA K D φ H φ (L2.upd H D o):=yA.upd b;refine⟨a,E,?_⟩;cases u with
  |lst ws=>obtain⟨vs,q,r⟩:=q;exact⟨vs,by rw[qF ne];exact q,r.monoD l⟩|dct kvs=>obtain⟨vs,q,k,r⟩:=q;exact⟨vs,by rw[qF ne];exact q,k,r.monoD l⟩|td kvs=>obtain⟨vs,q,k,t,r⟩:=q;exact⟨vs,by rw[qF ne];exact q,k,λx h=>l.tp _ _ (t x h),r.monoD l⟩|tr kvs=>obtain⟨ob,u,vs,q,d,k,t,r⟩:=q;exact⟨ob,u,vs,l.fz _ _ _ q,d,k,λx h=>l.tp _ _ (t x h),r.monoD l⟩|tab _ _=>obtain⟨k,vs,q,r⟩:=q;exact⟨k,vs,by rw[qF ne];exact q,r.mono l.fz⟩|ro ws=>
   obtain⟨vs,q,r⟩:=q;refine⟨vs,?_,r.monoD l⟩;rcases q with ⟨ob,q⟩|q
   ·exact .inl ⟨ob,by rw[qF ne];exact q⟩
   ·exact .inr q⟩
def zU.notin (S:zU K φ A H)(b:H D=none)(d:K.lookup D=none):∀k:Nat,φ[k]?≠some D:=λk e=>by
 have c:k<A.length:=by rw[<- S.len];exact(bY.mp e).1
 obtain⟨a,E,q⟩:=S.ob k A[k] (by simp[c])
 rw[e]at E;cases E;cases h:A[k] with
 |lst ws=>rw[h]at q;obtain⟨vs,z,_⟩:=q;rw[b]at z;cases z|dct ws=>rw[h]at q;obtain⟨vs,z,_⟩:=q;rw[b]at z;cases z|td _=>rw[h]at q;obtain⟨vs,z,_⟩:=q;rw[b]at z;cases z|tr _=>rw[h]at q;obtain⟨_,_,_,z,_⟩:=q;rw[b]at z;cases z|tab _ _=>rw[h]at q;obtain⟨_,vs,z,_⟩:=q;rw[b]at z;cases z|ro ws=>
  rw[h]at q;obtain⟨vs,z,_⟩:=q;rcases z with ⟨ob,z⟩|⟨o,i,n,z,_⟩
  ·rw[b]at z;cases z
  ·rw[d]at z;cases z
def zU.track {u:HO}{o:O}(S:zU K φ A H)(I:H D=some u)(n:∀k:Nat,φ[k]?≠some D)(new:OR K (φ++[D]) H D o):zU K (φ++[D]) (A++[o]) H:=by
 have l:Zd K φ H (φ++[D]) H:=⟨λn a h=>by
  have:=(bY.mp h).1
  rw[ah this];exact h,λ_ _ h=>h,λ_ _ _ h=>h⟩
 have old:∀(i:Nat) a,(φ++[D])[i]? =some a->i<A.length->φ[i]? =some a:=λi a e b=>by
  rw[ah (by rw[S.len];exact b)]at e;exact e
 have last:∀a,(φ++[D])[A.length]? =some a->a=D:=λa e=>by
  rw[ax (by rw[S.len];exact ao _),S.len]at e
  simpa using e.symm
 refine⟨by simp[S.len],λi j a C B y w v f m1 m2=>?_,λk o' e=>?_⟩
 ·by_cases b:i<A.length
  ·by_cases c:j<A.length
   ·rw[ah b]at v
    rw[ah c]at f;exact S.inj i j a C B (old i a y b) (old j a w c) v f m1 m2
   ·exfalso
    have p:j=A.length:=by have:=(bY.mp f).1;simp at this;omega
    subst p;exact n i (by rw[<- last a w];exact old i a y b)
  ·have s:i=A.length:=by have:=(bY.mp v).1;simp at this;omega
   by_cases c:j<A.length
   ·exfalso
    subst s;exact n j (by rw[<- last a y];exact old j a w c)
   ·have:=(bY.mp f).1;simp at this;omega
 ·by_cases hn:k<A.length
  ·rw[ah hn]at e
   obtain⟨a,E,q⟩:=S.ob k o' e;refine⟨a,l.ex _ _ E,?_⟩;cases o' with
   |lst ws=>obtain⟨vs,z,r⟩:=q;exact⟨vs,z,r.monoW l⟩|dct ws=>obtain⟨vs,z,Z,r⟩:=q;exact⟨vs,z,Z,r.monoW l⟩|td _=>obtain⟨vs,z,Z,t,r⟩:=q;exact⟨vs,z,Z,λx g=>l.tp _ _ (t x g),r.monoW l⟩|tr _=>obtain⟨ob,u,vs,z,d,Z,t,r⟩:=q;exact⟨ob,u,vs,z,d,Z,λx g=>l.tp _ _ (t x g),r.monoW l⟩|tab _ _=>exact q|ro ws=>obtain⟨vs,z,r⟩:=q;exact⟨vs,z,r.monoW l⟩
  ·have m:k=A.length:=by have:=(bY.mp e).1;simp at this;omega
   subst m;rw[ax (ao _)]at e;simp at e;subst e;exact⟨D,by rw[ax (by rw[S.len];exact ao _),S.len];simp,new⟩
def Le.track {b:bH}{H0:Hp}(l:Le K b H0 φ H)(h0:H0 D=none):Le K b H0 (φ++[D]) H where
 ex:=λn a h=>by
  have h':=l.ex n a h
  have:=(bY.mp h').1
  rw[ah this];exact h'
 tp:=l.tp
 fr:=l.fr
 nw:=λn a e=>by
  by_cases hn:n < φ.length
  ·rw[ah hn]at e;exact l.nw n a e
  ·rw[ax (by omega)]at e
   have E:a=D:=by
    have:=List.mem_of_getElem? e
    simpa using this
   subst E;exact .inr h0
 st:=l.st
 fz:=l.fz
end
noncomputable abbrev St:=L2.St
abbrev XR:=Str->Hp->Prop
def PB (K:Frag)(φ:bH)(H:Hp)(Q:VK):W->Hx->Prop:=λw A=>∀a h v,Le K φ H a h->zU K a A h->RV K a h w v->Q v h
def cQ (K:Frag)(φ:bH)(H:Hp)(Q:List V->Hp->Prop):List W->Hx->Prop:=λw A=>∀a h v,Le K φ H a h->zU K a A h->zL K a h w v->Q v h
noncomputable def EB (K:Frag)(φ:bH)(H:Hp)(X:XR):Str->Hx->Prop:=λx A=>∀a h,Le K φ H a h->zU K a A h->X x h
structure RE (K:Frag)(φ:bH)(H:Hp)(ρ:En)(σ:St):Prop where
 len:σ.length=ρ.length
 get:∀(i:Nat)(w:W),ρ[i]? =some (some w)->∃v,σ[i]? =some (some v)/\RV K φ H w v
section
variable {K:Frag}{φ1 φ':bH}{H1 H':Hp}{A:Hx}{ρ:En}{xr:XR}
theorem RE.mono (r:RE K φ H ρ σ)(l:Le K φ H φ' H'):RE K φ' H' ρ σ:=⟨r.len,λi w e=>let ⟨v,h1,h⟩:=r.get i w e;⟨v,h1,h.mono l⟩⟩
def PB.mono {Q:VK}{w:W}(h:PB K φ H Q w A)(l:Le K φ H φ1 H1):PB K φ1 H1 Q w A:=λa b v L=>h a b v (l.trans L)
def EB.mono (h:EB K φ H xr x A)(l:Le K φ H φ1 H1):EB K φ1 H1 xr x A:=λa b L=>h a b (l.trans L)
theorem RE.set {w:W}(r:RE K φ H ρ σ)(q:RV K φ H w v):RE K φ H (ρ.set i (some w)) (σ.set i (some v)):=
 ⟨by simp[r.len],λj u e=>by
  by_cases h:i=j
  ·subst h
   have a:i < ρ.length:=by
    have:=(bY.mp e).1
    simpa using this
   rw[aC a]at e;cases e;exact⟨v,by rw[aC (by rw[r.len];exact a)],q⟩
  ·rw[aF h]at e
   obtain⟨x,c,b⟩:=r.get j u e;exact⟨x,by rw[aF h];exact c,b⟩⟩
end
inductive MM (K:Frag)(xr:XR)(m:Ev)(σ:St)(H:Hp)(Q:VK):Prop
 |mk (φ:bH) (A:Hx) (ρ:En) (S:zU K φ A H) (re:RE K φ H ρ σ) (h:(m ρ A).post (PB K φ H Q) (EB K φ H xr))
noncomputable def tM (K:Frag)(x:XR)(m:Ev):TE:=λσ H Q=>MM K x m σ H Q
inductive MT (K:Frag)(xr:XR)(m:Ev)(σ:St)(H:Hp)(Q:Bool->Hp->Prop):Prop
 |mk (φ:bH) (A:Hx) (ρ:En) (S:zU K φ A H) (re:RE K φ H ρ σ) (h:(m ρ A).post (λw A'=>∃b,w=.bl b/\∀φ' H',Le K φ H φ' H'->zU K φ' A' H'->Q b H') (EB K φ H xr))
noncomputable def tT (K:Frag)(x:XR)(m:Ev):TT:=λσ H Q=>MT K x m σ H Q
abbrev Ea:=En->Hx->R (List W)
inductive MA (K:Frag)(xr:XR)(m:Ea)(σ:St)(H:Hp)(Q:List V->Hp->Prop):Prop
 |mk (φ:bH) (A:Hx) (ρ:En) (S:zU K φ A H) (re:RE K φ H ρ σ) (h:(m ρ A).post (cQ K φ H Q) (EB K φ H xr))
noncomputable def WL (K:Frag)(x:XR)(m:Ea):TA:=λσ H Q=>MA K x m σ H Q
def SE (X:Cx)(x:XR)(e:Expr)(m:Ev):Prop:=PE X e (tM X.K x m)
def ST (X:Cx)(x:XR)(e:Expr)(m:Ev):Prop:=PT X e (tT X.K x m)
def SW (X:Cx)(x:XR)(e:Expr)(m:Ev):Prop:=PW X e (tT X.K x m)
def SA (X:Cx)(x:XR)(e:bM)(m:Ea):Prop:=PA X e (WL X.K x m)
section
variable {xr:XR}{a b:Expr}{es:bM}{m ma mb mc:Ev}
def PE.imp {t t':TE}(h:PE X e t)(i:∀σ H Q,t' σ H Q->t σ H Q):PE X e t':=λpins s σ H Q I hw=>h pins s σ H Q I (i σ H Q hw)
def PT.imp {t t':TT}(h:PT X e t)(i:∀σ H Q,t' σ H Q->t σ H Q):PT X e t':=λpins s σ H Q I hw=>h pins s σ H Q I (i σ H Q hw)
def PW.imp {t t':TT}(h:PW X e t)(i:∀σ H Q,t' σ H Q->t σ H Q):PW X e t':=λw pins s σ H Q I hw=>h w pins s σ H Q I (i σ H Q hw)
def PA.imp {t t':TA}(h:PA X es t)(i:∀σ H Q,t' σ H Q->t σ H Q):PA X es t':=λp pins s σ H Q I hw=>h p pins s σ H Q I (i σ H Q hw)
def tM.go {K:Frag}{A:Hx}{ρ:En}{Q:VK}{G:W->Hx->Prop}(S:zU K φ A H)(r:RE K φ H ρ σ)(h:(m ρ A).post G (EB K φ H xr))
  (k:∀w A1 a H1 v,G w A1->Le K φ H a H1->zU K a A1 H1->RV K a H1 w v->Q v H1):tM K xr m σ H Q:=
 ⟨φ,A,ρ,S,r,qB h (λw A1 g a H1 v l s q=>k w A1 a H1 v g l s q) λ_ _ z=>z⟩
def WL.go {K:Frag}{A:Hx}{ρ:En}{m:Ea}{Q:List V->Hp->Prop}{G:List W->Hx->Prop}(S:zU K φ A H)(r:RE K φ H ρ σ)(h:(m ρ A).post G (EB K φ H xr))
  (k:∀w A1 a H1 v,G w A1->Le K φ H a H1->zU K a A1 H1->zL K a H1 w v->Q v H1):WL K xr m σ H Q:=
 ⟨φ,A,ρ,S,r,qB h (λw A1 g a H1 v l s q=>k w A1 a H1 v g l s q) λ_ _ z=>z⟩
def tT.go {K:Frag}{A:Hx}{ρ:En}{Q:Bool->Hp->Prop}{G:W->Hx->Prop}(S:zU K φ A H)(r:RE K φ H ρ σ)(h:(m ρ A).post G (EB K φ H xr))
  (k:∀w A1,G w A1->∃b,w=.bl b/\∀a H1,Le K φ H a H1->zU K a A1 H1->Q b H1):tT K xr m σ H Q:=
 ⟨φ,A,ρ,S,r,qB h (λw A1 g=>k w A1 g) λ_ _ z=>z⟩
noncomputable def zO (i:Nat):Ev:=λρ A=>match ρ[i]? with
 |some (some w)=>.ok w A|_=>.bad
noncomputable def z7 (w:W):Ev:=λ_ A=>.ok w A
noncomputable def zi (g:W->W->Hx->R W)(a b:Ev):Ev:=λρ A=>(a ρ A).bind λx A1=>(b ρ A1).bind λy A2=>g x y A2
noncomputable def ka (g:W->Hx->R W)(a:Ev):Ev:=λρ A=>(a ρ A).bind λx A1=>g x A1
noncomputable abbrev wZ:Str->Hx->Prop:=λ_ _=>False
def ym (K:Frag)(r:R2)(g:W->W->Hx->R W):Prop:=∀φ A H x y u v Q,zU K φ A H->RV K φ H u x->RV K φ H v y->(g u v A).post (PB K φ H Q) wZ->r x y H Q
def Vx (K:Frag)(r:V->Hp->VK->Prop)(g:W->Hx->R W):Prop:=∀φ A H x u Q,zU K φ A H->RV K φ H u x->(g u A).post (PB K φ H Q) wZ->r x H Q
def qT (r:R α):Prop:=∀x A,r≠.exc x A
def QV {r:R α}{P:α->Hx->Prop}{E:Str->Hx->Prop}(n:qT r)(h:r.post P E):r.post P wZ:=by
 cases r with
 |ok a A=>exact h|exc x A=>exact absurd rfl (n x A)|bad=>exact h
def zi.read {g:W->W->Hx->R W}{r:R2}(hn:∀x y A,qT (g x y A))(e:ym X.K r g):∀σ H Q,tM X.K xr (zi g ma mb) σ H Q->YE r (tM X.K xr ma) (tM X.K xr mb) σ H Q:=by
 rintro σ H Q ⟨φ,A,ρ,S,re,h⟩
 refine tM.go S re (qg.mp h) λw A1 b H1 v i l j d=>?_;refine tM.go j (re.mono l) (qB (qg.mp i) (λ_ _ z=>z) λ_ _ z=>z.mono l) λc A2 a m v2 f l2 s q=>?_;exact e a A2 m v v2 w c Q s (d.mono l2) q (qB (QV (hn _ _ _) f) (λ_ _ z=>z.mono (l.trans l2)) λ_ _ z=>z)
def ka.read {g:W->Hx->R W}{r:V->Hp->VK->Prop}(hn:∀x A,qT (g x A))(b:Vx X.K r g):∀σ H Q,tM X.K xr (ka g ma) σ H Q->Nn r (tM X.K xr ma) σ H Q:=by
 rintro σ H Q ⟨φ,A,ρ,S,re,h⟩
 refine tM.go S re (qg.mp h) λw A1 a H1 v c l s q=>?_;exact b a A1 H1 v w Q s q (qB (QV (hn _ _) c) (λ_ _ z=>z.mono l) λ_ _ z=>z)
def gp {op:Operator}{r:R2}{g:W->W->Hx->R W}(h:qP X (binaryOp op) r)(hn:∀x y A,qT (g x y A))(H:ym X.K r g)(d:SE X xr a ma)(c:SE X xr b mb):SE X xr (.BinOp a op b pos) (zi g ma mb):=
 PE.imp (AO h d c) (zi.read hn H)
def AY {op:UnaryOp}{r:V->Hp->VK->Prop}{g:W->Hx->R W}(h:WY X (unaryOp op) r)(hn:∀x A,qT (g x A))(H:Vx X.K r g)(b:SE X xr a ma):SE X xr (.UnaryOp op a pos) (ka g ma):=
 PE.imp (OJ h b) (ka.read hn H)
def Ob {r:R2}{g:W->W->Hx->R W}(h:qP X (compareOp op) r)(hn:∀x y A,qT (g x y A))(H:ym X.K r g)(d:SE X xr a ma)(c:SE X xr b mb)(hm:behindInMarks op b=false):SE X xr (.Compare a [op] [b] pos) (zi g ma mb):=
 PE.imp (Cf h d c hm) (zi.read hn H)
def tT.toM {K:Frag}{Q:Bool->Hp->Prop}(h:tT K xr m σ H Q):tM K xr m σ H λx d=>∃k,x=.bl k/\Q k d:=by
 obtain⟨φ,A,ρ,S,re,h⟩:=h;refine tM.go S re h λw A1 a H1 v ⟨b,e,q⟩ l s c=>?_;subst e;exact⟨b,c,q a H1 l s⟩
def Aa {r:R2}{g:W->W->Hx->R W}(o:qP X (compareOp op) r)(hn:∀x y A,qT (g x y A))(c:ym X.K r g)(e:SE X xr a ma)(d:SE X xr b mb)(hm:behindInMarks op b=false):ST X xr (.Compare a [op] [b] pos) (zi g ma mb):=
 PT.imp (E4 o e d hm) λσ H Q h=>zi.read hn c σ H _ h.toM
noncomputable def kE (g g':W->W->Hx->R W)(a b c:Ev):Ev:=λρ A=>(a ρ A).bind λx A1=>(b ρ A1).bind λy A2=>(g x y A2).bind λz d=>match z with
 |.bl true=>(c ρ d).bind λw e=>g' y w e|.bl false=>.ok (.bl false) d|_=>.bad
def kE.read {g g':W->W->Hx->R W}{r i:R2}(hn:∀x y A,qT (g x y A))(J:ym X.K r g)(m:∀x y A,qT (g' x y A))(n:ym X.K i g'):
  ∀σ H Q,tM X.K xr (kE g g' ma mb mc) σ H Q->XG r i (tM X.K xr ma) (tM X.K xr mb) (tM X.K xr mc) σ H Q:=by
 rintro σ H Q ⟨φ,A,ρ,S,re,h⟩
 refine tM.go S re (qg.mp h) λw A1 u H1 v P L Y I=>?_;refine tM.go Y (re.mono L) (qB (qg.mp P) (λ_ _ z=>z) λ_ _ z=>z.mono L) λf A2 b t v2 N l2 U q=>?_;have j:=L.trans l2;have o:=qg.mp N;have a:(g w f A2).post (PB X.K b t λz c=>∃k,z=.bl k/\if k=true then tM X.K xr mc σ c λC p=>i v2 C p Q else Q (.bl false) c) wZ:=by
  refine qB (QV (hn _ _ _) o) (λz A3 a e c zv l3 s E=>?_) λ_ _ z=>z;have l:=j.trans l3;cases z with
  |bl k=>
   refine⟨k,E,?_⟩;cases k with
   |true=>
    rw[ag rfl];refine tM.go s (re.mono l) (qB (qg.mp a) (λ_ _ z=>z) λ_ _ z=>z.mono l) λB Z d p v4 M l4 T D=>?_;exact n d Z p v2 v4 f B Q T ((q.mono l3).mono l4) D (qB (QV (m _ _ _) M) (λ_ _ z=>z.mono (l.trans l4)) λ_ _ z=>z)
   |false=>
    rw[aj ay];exact a e c _ l s rfl
  |non=>cases a|int _=>cases a|str _=>cases a|tup _=>cases a|ref _=>cases a|clo _ _ _=>cases a|xc _=>cases a
 exact J b A2 t v v2 w f _ U (I.mono l2) q a
def F7 {c:Expr}{o:CmpOp}{r e:R2}{g g':W->W->Hx->R W}(f:qP X (compareOp op) r)(hn:∀x y A,qT (g x y A))(i:ym X.K r g)(h:qP X (compareOp o) e)(H:∀x y A,qT (g' x y A))(d:ym X.K e g')
  (m:SE X xr a ma)(l:SE X xr b mb)(j:SE X xr c mc)(hm:lastMarks [op,o] [b,c]=false:=by with_unfolding_all rfl):SE X xr (.Compare a [op,o] [b,c] pos) (kE g g' ma mb mc):=
 PE.imp (Fg f h m l j hm) (kE.read hn i H d)
def HX {c:Expr}{o:CmpOp}{r i:R2}{g g':W->W->Hx->R W}(j:qP X (compareOp op) r)(hn:∀x y A,qT (g x y A))(l:ym X.K r g)(d:qP X (compareOp o) i)(e:∀x y A,qT (g' x y A))(f:ym X.K i g')
  (p:SE X xr a ma)(n:SE X xr b mb)(m:SE X xr c mc)(hm:lastMarks [op,o] [b,c]=false:=by with_unfolding_all rfl):ST X xr (.Compare a [op,o] [b,c] pos) (kE g g' ma mb mc):=
 PT.imp (FK j d p n m hm) λσ H Q h=>kE.read hn l e f σ H _ h.toM
noncomputable def ye (a b:Ev):Ev:=λρ A=>(a ρ A).bind λx A1=>match x with
 |.bl true=>b ρ A1|.bl false=>.ok (.bl false) A1|_=>.bad
noncomputable def wc (a b:Ev):Ev:=λρ A=>(a ρ A).bind λx A1=>match x with
 |.bl true=>.ok (.bl true) A1|.bl false=>b ρ A1|_=>.bad
noncomputable def jW (a:Ev):Ev:=λρ A=>(a ρ A).bind λx A1=>match x with
 |.bl k=>.ok (.bl (!k)) A1|_=>.bad
noncomputable def ND (c a b:Ev):Ev:=λρ A=>(c ρ A).bind λx A1=>match x with
 |.bl true=>a ρ A1|.bl false=>b ρ A1|_=>.bad
theorem tT.mono {K:Frag}{c:bH}{H1:Hp}{A1:Hx}{ρ:En}{Q:Bool->Hp->Prop}(S:zU K c A1 H1)(L:Le K φ H c H1)(re:RE K φ H ρ σ)
  (h:(m ρ A1).post (λw A=>∃b,w=.bl b/\∀a d,Le K φ H a d->zU K a A d->Q b d) (EB K φ H xr)):tT K xr m σ H1 Q:=
 ⟨c,A1,ρ,S,re.mono L,qB h (λw A ⟨b,e,q⟩=>⟨b,e,λa d l s=>q a d (L.trans l) s⟩) λ_ _ z=>z.mono L⟩
noncomputable def zr:Ea:=λ_ A=>.ok [] A
noncomputable def zh (a:Ev)(r:Ea):Ea:=λρ A=>(a ρ A).bind λx A1=>(r ρ A1).bind λxs A2=>.ok (x::xs) A2
noncomputable def yk (a:Ea):Ev:=λρ A=>(a ρ A).bind λxs A1=>.ok (.tup xs) A1
noncomputable def js (a:Ea):Ev:=λρ A=>(a ρ A).bind λxs A1=>.ok (.ref A1.length) (A1++[.lst xs])
def Qf {K:Frag}{A:Hx}{p:Addr}{ws:List W}(S:zU K φ A H)(h:H p=none)(r:zL K φ H ws vs):
  Le K φ H φ (upd H p (.tup vs))/\zU K φ A (upd H p (.tup vs))/\RV K φ (upd H p (.tup vs)) (.tup ws) (.ref p):=
 ⟨Le.new h,S.lay h,p,vs,rfl,qA.of yn,r.mono (Le.new h)⟩
def Q8 {K:Frag}{A:Hx}{p:Addr}{ws:List W}(S:zU K φ A H)(h:H p=none)(r:zL K φ H ws vs):
  Le K φ H (φ++[p]) (upd H p (.lst vs))/\zU K (φ++[p]) (A++[.lst ws]) (upd H p (.lst vs))/\RV K (φ++[p]) (upd H p (.lst vs)) (.ref A.length) (.ref p):=by
 have l:Le K φ H (φ++[p]) (upd H p (.lst vs)):=Le.alloc h;obtain⟨b,a⟩:=S.alloc (o:=.lst ws) h ⟨vs,yn,r.mono l⟩;exact⟨b,a,p,rfl,by rw[<- S.len];simp⟩
def BK {m:Ea}(h:SA X xr es m)(d:∀ρ A ws a,m ρ A=.ok ws a->ws.length<=sizeLine):SE X xr (.List es pos) (js m):=
 PE.imp (CC h) λσ H Q ⟨φ,A,ρ,S,re,h⟩=>by
  have h':=qg.mp h;cases e:m ρ A with
  |ok ws a=>
   rw[e]at h';refine⟨φ,A,ρ,S,re,?_⟩;rw[e];intro b H1 vs l s q;refine⟨by rw[<- q.length];exact d ρ A ws a e,λp c=>?_⟩
   obtain⟨a1,a2,f⟩:=Q8 s c q;exact h' _ _ _ (l.trans a1) a2 f
  |exc x a=>rw[e]at h';refine⟨φ,A,ρ,S,re,?_⟩;rw[e];exact h'|bad=>rw[e]at h';exact h'.elim
end
inductive Fl where
 |nx (ρ:En)|rt (w:W)|bk (ρ:En)|ct (ρ:En)
abbrev Ex:=En->Hx->R Fl
def FB (K:Frag)(φ:bH)(H:Hp)(D:Ends):Fl->Hx->Prop
 |.nx ρ,A=>∀a h b,Le K φ H a h->zU K a A h->RE K a h ρ b->D.nx b h|.rt w,A=>∀a h v,Le K φ H a h->zU K a A h->RV K a h w v->D.rt v h|.bk ρ,A=>∀a h b,Le K φ H a h->zU K a A h->RE K a h ρ b->D.bk b h|.ct ρ,A=>∀a h b,Le K φ H a h->zU K a A h->RE K a h ρ b->D.ct b h
def FB.mono {K:Frag}{c:bH}{H1:Hp}{D:Ends}{f:Fl}{A:Hx}(h:FB K φ H D f A)(l:Le K φ H c H1):FB K c H1 D f A:=by
 cases f with
 |nx ρ=>exactλa b v L=>h a b v (l.trans L)|rt ρ=>exactλa b v L=>h a b v (l.trans L)|bk ρ=>exactλa b v L=>h a b v (l.trans L)|ct ρ=>exactλa b v L=>h a b v (l.trans L)
inductive MS (K:Frag)(xr:XR)(m:Ex)(D:Ends)(σ:St)(H:Hp):Prop
 |mk (φ:bH) (A:Hx) (ρ:En) (S:zU K φ A H) (re:RE K φ H ρ σ) (h:(m ρ A).post (FB K φ H D) (EB K φ H xr))
noncomputable def tS (K:Frag)(x:XR)(m:Ex):TS:=λD σ H=>MS K x m D σ H
def SS (X:Cx)(x:XR)(st:Stmt)(m:Ex):Prop:=PS X st (tS X.K x m)
def YF (X:Cx)(x:XR)(st:bT)(m:Ex):Prop:=yU X st (tS X.K x m)
section
variable {xr:XR}{a b c:Expr}{st:Stmt}{rest:bT}{m:Ev}{m1 m2:Ex}
def PS.imp {t t':TS}(h:PS X st t)(i:∀D σ H,t' D σ H->t D σ H):PS X st t':=λpins s σ H D I hw=>h pins s σ H D I (i D σ H hw)
def yU.imp {t t':TS}(h:yU X rest t)(i:∀D σ H,t' D σ H->t D σ H):yU X rest t':=λpins s σ H D I hw=>h pins s σ H D I (i D σ H hw)
noncomputable def zA:Ex:=λρ A=>.ok (.nx ρ) A
noncomputable def zq (m1 m2:Ex):Ex:=λρ A=>(m1 ρ A).bind λl A1=>match l with
 |.nx ρ1=>m2 ρ1 A1|f=>.ok f A1
noncomputable def jd (m:Ev):Ex:=λρ A=>(m ρ A).bind λ_ A1=>.ok (.nx ρ) A1
noncomputable def qt (m:Ev):Ex:=λρ A=>(m ρ A).bind λw A1=>.ok (.rt w) A1
noncomputable def qR (c:Ev)(a b:Ex):Ex:=λρ A=>(c ρ A).bind λx A1=>match x with
 |.bl true=>a ρ A1|.bl false=>b ρ A1|_=>.bad
noncomputable def zX (i:Nat)(m:Ev):Ex:=λρ A=>(m ρ A).bind λw A1=>.ok (.nx (ρ.set i (some w))) A1
def zX.read:∀D σ H,tS X.K xr (zX i m) D σ H->Wq (tM X.K xr m) (Wb i) D σ H:=by
 rintro D σ H ⟨φ,A,ρ,S,re,h⟩
 exact tM.go S re (qg.mp h) λw A1 a H1 v b l s q=>b a H1 _ l s ((re.mono l).set q)
noncomputable def Jd (g:W->W->W->Hx->R Unit)(me mo mi:Ev):Ex:=λρ A=>(me ρ A).bind λv A1=>(mo ρ A1).bind λo A2=>(mi ρ A2).bind λi b=>(g o i v b).bind λ_ a=>.ok (.nx ρ) a
def OG (K:Frag)(t:Qr)(g:W->W->W->Hx->R Unit):Prop:=∀φ A H o i v w b wv Q,zU K φ A H->RV K φ H w o->RV K φ H b i->RV K φ H wv v->
 (g w b wv A).post (λ_ c=>∀a h,Le K φ H a h->zU K a c h->Q h) wZ->t o i v H Q
def Ew {o i:Expr}{mo mi:Ev}{t:Qr}{g:W->W->W->Hx->R Unit}(ht:Ww X t)(hn:∀o i v A,qT (g o i v A))(N:OG X.K t g)(he:SE X xr e m)(J:SE X xr o mo)(M:SE X xr i mi)
  (I:swapsWithSole [.Subscript o i tpos] e pos.line X.env=pure false:=by rfl)(hw:swappedStores [.Subscript o i tpos] e X.env=pure none:=by rfl)
  (f:(assignEach [.Subscript o i tpos] X.env).map (·.2)=[assign (.Subscript o i tpos) X.env]:=by rfl)
  (P:∀v,assign (.Subscript o i tpos) X.env v=(do
   let ov <- holding [v] (eval o X.env)
   let iv <- holding [v,ov] (eval i X.env)
   standAt tpos
   holding [v,ov,iv] (setItem ov iv v)
   release [v,ov,iv] []):=by intro _;rfl):SS X xr (.Assign [.Subscript o i tpos] e pos) (Jd g m mo mi):=
 PS.imp (P1 he (BI J M ht P) I hw f) λD σ H ⟨φ,A,ρ,S,re,h⟩=>by
  refine tM.go S re (qg.mp h) λn A1 y H1 v1 f d S1 E=>?_;refine tM.go S1 (re.mono d) (qB (qg.mp f) (λ_ _ z=>z) λ_ _ z=>z.mono d) λj A2 s H2 v2 T l2 Z C=>?_;have l:=d.trans l2;refine tM.go Z (re.mono l) (qB (qg.mp T) (λ_ _ z=>z) λ_ _ z=>z.mono l) λw q c H3 B a l3 Y Q=>?_;have L:=l.trans l3;refine N c q H3 v2 B v1 j w n _ Y (C.mono l3) Q (E.mono (l2.trans l3)) ?_;cases r:g j w n q with
  |ok u p=>
   rw[r]at a;exactλb H4 l4 U=>a b H4 σ (L.trans l4) U (re.mono (L.trans l4))
  |exc x p=>exact absurd r (hn _ _ _ _ x p)|bad=>rw[r]at a;exact a.elim
structure jt where
 at_:Hx->Nat->Option (Option W)
 len:Nat
def gA (K:Frag)(φ:bH)(H:Hp)(j:jt)(J:It):Prop:=∀i a h A,Zd K φ H a h->zU K a A h->
 (∀w,j.at_ A i=some (some w)->J.go i h/\∀x H1,J.yld i h x H1->Le K a h a H1/\zU K a A H1/\RV K a H1 w x)/\(j.at_ A i=some none->J.stop i h)
abbrev Ei:=En->Hx->R jt
inductive MI (K:Frag)(xr:XR)(mi:Ei)(σ:St)(H:Hp)(Rr:It->Hp->Prop):Prop
 |mk (φ:bH) (A:Hx) (ρ:En) (S:zU K φ A H) (re:RE K φ H ρ σ) (h:(mi ρ A).post (λj A1=>∀φ1 H1 J,Le K φ H φ1 H1->zU K φ1 A1 H1->gA K φ1 H1 j J->Rr J H1) (EB K φ H xr))
noncomputable def tI (K:Frag)(x:XR)(mi:Ei):TI:=λσ H r=>MI K x mi σ H r
def SI (X:Cx)(x:XR)(t iter:Expr)(mi:Ei):Prop:=PI X t iter (tI X.K x mi)
def PI.imp {t t':TI}(h:PI X tg e t)(i:∀σ H Q,t' σ H Q->t σ H Q):PI X tg e t':=λpins s σ H Q I hw=>h pins s σ H Q I (i σ H Q hw)
abbrev Tg:=W->En->Option En
inductive MG (K:Frag)(tw:Tg)(v:V)(σ:St)(H:Hp)(Q:St->Hp->Prop):Prop
 |mk (φ:bH) (A:Hx) (ρ:En) (w:W) (ρ':En) (S:zU K φ A H) (re:RE K φ H ρ σ) (rv:RV K φ H w v) (t:tw w ρ=some ρ') (q:∀σ',RE K φ H ρ' σ'->Q σ' H)
noncomputable def tG (K:Frag)(tw:Tg):TG:=λv σ H Q=>MG K tw v σ H Q
def SG (X:Cx)(t:Expr)(tw:Tg):Prop:=PG X t (tG X.K tw)
def PG.imp {t t':TG}(h:PG X tg t)(i:∀v σ H Q,t' v σ H Q->t v σ H Q):PG X tg t':=λpins s σ H v u Q I r hw=>h pins s σ H v u Q I r (i v σ H Q hw)
noncomputable def zP (i:Nat):Tg:=λw ρ=>some (ρ.set i (some w))
noncomputable def qG (i j:Nat):Tg:=λw ρ=>match w with
 |.tup [x,y]=>some ((ρ.set i (some x)).set j (some y))|_=>none
noncomputable def jT (j:jt)(st:W->Ex):Nat->Nat->Ex
 |0,i,ρ,A=>match j.at_ A i with
  |some none=>.ok (.nx ρ) A|_=>.bad
 |f+1,i,ρ,A=>match j.at_ A i with
  |some none=>.ok (.nx ρ) A|some (some w)=>(st w ρ A).bind λl A1=>match l with
   |.nx ρ1=>jT j st f (i+1) ρ1 A1|.ct ρ1=>jT j st f (i+1) ρ1 A1|.bk ρ1=>.ok (.nx ρ1) A1|.rt w=>.ok (.rt w) A1
  |none=>.bad
noncomputable def turn (tw:Tg)(body:Ex)(w:W):Ex:=λρ A=>match tw w ρ with
 |some ρ1=>body ρ1 A|none=>.bad
def jm (mi:Ei)(tw:Tg)(body:Ex):Ex:=λρ A=>(mi ρ A).bind λj A1=>jT j (turn tw body) j.len 0 ρ A1
inductive Nq (K:Frag)(xr:XR)(j:jt)(t:W->Ex)(D:Ends)(φ1:bH)(H1:Hp)(f i:Nat)(σ':St)(H':Hp):Prop
 |mk (φ2:bH) (A2:Hx) (ρ2:En) (l:Le K φ1 H1 φ2 H') (S:zU K φ2 A2 H') (re:RE K φ2 H' ρ2 σ') (h:(jT j t f i ρ2 A2).post (FB K φ2 H' D) (EB K φ2 H' xr))
noncomputable def gX (c:Ev)(body:Ex):Nat->Ex
 |0,ρ,A=>.bad|f+1,ρ,A=>(c ρ A).bind λx A1=>match x with
  |.bl true=>(body ρ A1).bind λl A2=>match l with
   |.nx ρ1=>gX c body f ρ1 A2|.ct ρ1=>gX c body f ρ1 A2|.bk ρ1=>.ok (.nx ρ1) A2|.rt w=>.ok (.rt w) A2
  |.bl false=>.ok (.nx ρ) A1|_=>.bad
def Ot (f:Nat)(c:Ev)(body:Ex):Ex:=gX c body f
noncomputable def Qk (nl:Nat)(cap:bJ)(ρ:En):En:=List.replicate nl none++cap.map λi=>(ρ[i]?).join
theorem RE.gr {K:Frag}{ρ:En}{nl:Nat}(r:RE K φ H ρ σ):RE K φ H (Qk nl cap ρ) (L2.gr nl cap σ):=by
 refine⟨by simp[Qk,L2.gr],λi w e=>?_⟩
 unfold Qk at e;unfold L2.gr
 by_cases hi:i<nl
 ·rw[ah (by simpa using hi),List.getElem?_replicate]at e
  split at e<;>cases e
 ·rw[ax (by simpa using hi),length_replicate,ak]at e
  rw[ax (by simpa using hi),length_replicate,ak]
  cases c:cap[i-nl]? with
  |none=>rw[c]at e;cases e|some k=>
   rw[c]at e;have E:(ρ[k]?).join=some w:=aD e;cases h:ρ[k]? with
   |none=>rw[h]at E;cases E|some o=>cases o with
    |none=>rw[h]at E;cases E|some d=>
     rw[h]at E;cases E;obtain⟨v,b,a⟩:=r.get k w h;exact⟨v,by simp[b],a⟩
abbrev Em:=En->List W->Hx->R (En×List W)
noncomputable def qf:Nat:=100000
def zR (elt:Ev):Em:=λρ acc A=>(elt ρ A).bind λy A1=>if acc.length<qf then .ok (ρ,acc++[y]) A1 else .bad
noncomputable def jl (j:jt)(tw:Tg)(ifs:Ev)(em:Em):Nat->Nat->Em
 |0,i,ρ,acc,A=>match j.at_ A i with
  |some none=>.ok (ρ,acc) A|_=>.bad
 |f+1,i,ρ,acc,A=>match j.at_ A i with
  |some none=>.ok (ρ,acc) A|some (some w)=>match tw w ρ with
   |some ρ1=>(ifs ρ1 A).bind λc A1=>match c with
    |.bl true=>(em ρ1 acc A1).bind λp A2=>jl j tw ifs em f (i+1) p.1 p.2 A2|.bl false=>jl j tw ifs em f (i+1) ρ1 acc A1|_=>.bad
   |none=>.bad
  |none=>.bad
def k5 (mi:Ei)(tw:Tg)(ifs:Ev)(em:Em):Em:=λρ acc A=>(mi ρ A).bind λj A1=>jl j tw ifs em j.len 0 ρ acc A1
abbrev jD:=En->Hx->R (List W)
def zT (nl:Nat)(cap:bJ)(mi:Ei)(tw:Tg)(ifs:Ev)(em:Em):jD:=λρ A=>(mi ρ A).bind λj A1=>(jl j tw ifs em j.len 0 (Qk nl cap ρ) [] A1).nox.bind λp A2=>.ok p.2 A2
def VD (K:Frag)(D:Addr)(φ:bH)(H:Hp)(Q:St->Hp->Prop)(p:En×List W)(A1:Hx):Prop:=∀a H1 b zs,yA K D φ H a H1->(∀k:Nat,a[k]?≠some D)->zU K a A1 H1->RE K a H1 p.1 b->H1 D=some (.lst zs)->zL K a H1 p.2 zs->Q b H1
inductive ME (K:Frag)(em:Em)(D:Addr)(σ:St)(H:Hp)(Q:St->Hp->Prop):Prop
 |mk (φ:bH) (A:Hx) (ρ:En) (acc:List W) (ys:List V) (S:zU K φ A H) (re:RE K φ H ρ σ) (hD:H D=some (.lst ys)) (nD:∀k:Nat,φ[k]?≠some D) (rv:zL K φ H acc ys)
  (h:(em ρ acc A).post (VD K D φ H Q) wZ)
noncomputable def tE (K:Frag)(em:Em):wa:=λD σ H Q=>ME K em D σ H Q
noncomputable abbrev kM:XR:=λ_ _=>False
def SM (X:Cx)(elt:Expr)(gens:List Comprehension)(sc:Scope)(c:Pos)(d:Nat)(em:Em):Prop:=kQ X elt gens sc c d (tE X.K em)
def kQ.imp {d:Nat}{t t':wa}(h:kQ X elt gens sc pos d t)(i:∀D σ H Q,t' D σ H Q->t D σ H Q):kQ X elt gens sc pos d t':=
 λpins s σ H D Q k Q' E I hw a=>h pins s σ H D Q k Q' E I (i D σ H Q hw) a
def Xk {K:Frag}{r:R α}{P:α->Hx->Prop}(h:r.post P wZ):r.post P (EB K φ H kM):=qB h (λ_ _ z=>z) λ_ _ z=>z.elim
def YN (X:Cx)(ifs:bM)(m:Ev):Prop:=g8 X ifs (tT X.K kM m)
inductive NC (tw:Tg)(ifs:Ev)(em:Em)(j:jt)(K:Frag)(D:Addr)(φ:bH)(H:Hp)(Q:St->Hp->Prop)(f i:Nat)(σ':St)(H':Hp):Prop
 |mk (φ2:bH) (A2:Hx) (ρ2:En) (acc2:List W) (ys2:List V) (l:yA K D φ H φ2 H') (S:zU K φ2 A2 H') (re:RE K φ2 H' ρ2 σ') (hD:H' D=some (.lst ys2)) (nD:∀k:Nat,φ2[k]?≠some D) (ra:zL K φ2 H' acc2 ys2) (h:(jl j tw ifs em f i ρ2 acc2 A2).post (VD K D φ H Q) wZ)
def jl.read {tw:Tg}{ifs:Ev}{em:Em}{j:jt}{J:It}{K:Frag}{A:Hx}{ρ:En}{acc:List W}{Q:St->Hp->Prop}{f:Nat}
  (jr:gA K φ H j J)
  (S:zU K φ A H)(re:RE K φ H ρ σ)(hD:H D=some (.lst ys))(nD:∀k:Nat,φ[k]?≠some D)(ra:zL K φ H acc ys)
  (h:(jl j tw ifs em f 0 ρ acc A).post (VD K D φ H Q) wZ):
  Yu J (tG K tw) (tT K kM ifs) (tE K em) D σ H Q:=by
 refine⟨λi f b B=>NC tw ifs em j K D φ H Q f i b B,
  ⟨f,φ,A,ρ,acc,ys,.refl,S,re,hD,nD,ra,h⟩,?_⟩
 rintro i f I H2 ⟨g,A2,q,e,Y,l2,S2,s,v,t,m,a⟩
 obtain⟨j1,j2⟩:=jr i g H2 A2 ⟨l2.ex,l2.tp,l2.fz⟩ S2;cases E:j.at_ A2 i with
 |none=>cases f<;>(unfold jl at a;rw[E]at a;exact a.elim)|some o=>
  cases o with
  |none=>
   left
   refine⟨j2 E,?_⟩;cases f<;>(unfold jl at a;rw[E]at a;exact a g H2 I Y l2 t S2 s v m)
  |some w=>
   right
   obtain⟨go,yl⟩:=j1 w E;cases f with
   |zero=>unfold jl at a;rw[E]at a;exact a.elim|succ f=>
    unfold jl at a;rw[E]at a;refine⟨go,λb B=>NC tw ifs em j K D φ H Q f (i+1) b B,λb B z=>⟨f,br _,z⟩,λx H3 y=>?_⟩;obtain⟨l3,Z,q3⟩:=yl x H3 y;obtain⟨T,P⟩:=l3.off v t;dsimp only at a;cases U:tw w q with
    |none=>rw[U]at a;exact a.elim|some l=>
     rw[U]at a;refine⟨g,A2,q,w,l,Z,s.mono l3,q3,U,λσ3 r=>?_⟩;refine tT.go Z r (Xk (qg.mp a)) λc A4 d=>?_;cases c with
     |bl k=>
      refine⟨k,rfl,λn H4 l4 X=>?_⟩;obtain⟨u,N⟩:=l4.off T P;have L:=(l2.trans (l3.trans l4).toD);cases k with
      |true=>
       rw[ag rfl];refine⟨n,A4,l,e,Y,X,r.mono l4,u,N,m.mono (l3.trans l4),qB (qg.mp d) (λp A5 h5 C H5 σ5 zs l5 n5 S5 M d5 r5=>?_) λ_ _ z=>z⟩;exact⟨C,A5,p.1,p.2,zs,L.trans l5,S5,M,d5,n5,r5,h5⟩
      |false=>
       rw[aj ay];exact⟨n,A4,l,e,Y,L,X,r.mono l4,u,N,m.mono (l3.trans l4),d⟩
     |non=>cases d|int _=>cases d|str _=>cases d|tup _=>cases d|ref _=>cases d|clo _ _ _=>cases d|xc _=>cases d
def gA.mono {K:Frag}{b:bH}{H1:Hp}{j:jt}{J:It}(h:gA K φ H j J)(l:Zd K φ H b H1):gA K b H1 j J:=
 λi c d A L=>h i c d A ⟨λn a e=>L.ex n a (l.ex n a e),λa vs e=>L.tp a vs (l.tp a vs e),λa o u e=>L.fz a o u (l.fz a o u e)⟩
inductive MF (K:Frag)(xr:XR)(mq:jD)(σ:St)(H:Hp)(Q:VK):Prop
 |mk (φ:bH) (A:Hx) (ρ:En) (S:zU K φ A H) (re:RE K φ H ρ σ) (h:(mq ρ A).post (λws A1=>∀φ1 H1 D ys,Le K φ H φ1 H1->zU K φ1 A1 H1->H D=none->H1 D=some (.lst ys)->(∀k:Nat,φ1[k]?≠some D)->zL K φ1 H1 ws ys->Q (.ref D) H1) (EB K φ H xr))
noncomputable def tF (K:Frag)(x:XR)(m:jD):TE:=λσ H Q=>MF K x m σ H Q
def SF (X:Cx)(x:XR)(e:Expr)(m:jD):Prop:=PE X e (tF X.K x m)
theorem zT.read {mi:Ei}{tw:Tg}{m:Ev}{em:Em}{nl:Nat}:∀σ H Q,tF X.K xr (zT nl cap mi tw m em) σ H Q->Wg X.K (tI X.K xr mi) (tG X.K tw) (tT X.K kM m) (tE X.K em) nl cap σ H Q:=by
 rintro σ H Q ⟨φ,A,ρ,S,re,h⟩
 refine⟨φ,A,ρ,S,re,qB (qg.mp h) (λj A1 t b H1 J l s o D c q=>?_) λ_ _ z=>z⟩;have ln:Le X.K b H1 b (upd H1 D (.lst [])):=Le.new c;have a:=qg.mp t;refine jl.read (o.mono ⟨ln.ex,ln.tp,ln.fz⟩) (s.lay c) ((re.mono (l.trans ln)).gr) yn (s.notin c q) .nil ?_ (f:=j.len) (acc:=[]);cases e:jl j tw m em j.len 0 (Qk nl cap ρ) [] A1 with
 |ok p A2=>
  rw[e]at a;intro d w g zs l2 n v r u i;have L:=l.trans (Le.ofD c l2);exact a d w D zs L v (l.st D c) u n i
 |exc x A2=>rw[e]at a;exact a.elim|bad=>rw[e]at a;exact a.elim
noncomputable def jk (q:jD):Ev:=λρ A=>(q ρ A).bind λws A1=>.ok (.ref A1.length) (A1++[.lst ws])
def jk.read {q:jD}{K:Frag}:∀σ H Q,tM K xr (jk q) σ H Q->tF K xr q σ H Q:=by
 rintro σ H Q ⟨φ,A,ρ,S,re,h⟩
 refine⟨φ,A,ρ,S,re,qB (qg.mp h) (λws A1 d b H1 D y L s h0 c N r=>?_) λ_ _ z=>z⟩;have l:Le K φ H (b++[D]) H1:=L.track h0;have lw:Zd K b H1 (b++[D]) H1:=⟨λn a h=>by
  have:=(bY.mp h).1
  rw[ah this];exact h,λ_ _ h=>h,λ_ _ _ h=>h⟩
 refine d _ _ _ l (s.track (o:=.lst ws) c N ⟨y,c,r.monoW lw⟩) ⟨D,rfl,?_⟩;rw[<- s.len];simp
inductive MQ (K:Frag)(xr:XR)(mq:jD)(σ:St)(H:Hp)(Q:VK):Prop
 |mk (φ:bH) (A:Hx) (ρ:En) (S:zU K φ A H) (re:RE K φ H ρ σ) (h:(mq ρ A).post (λws A1=>∀φ1 H1 a ys,Le K φ H φ1 H1->zU K φ1 A1 H1->(qV K H1 a ys∨qA K H1 a ys)->zL K φ1 H1 ws ys->Q (.ref a) H1) (EB K φ H xr))
noncomputable def tQ (K:Frag)(x:XR)(m:jD):TE:=λσ H Q=>MQ K x m σ H Q
def SQ (X:Cx)(x:XR)(e:Expr)(m:jD):Prop:=PE X e (tQ X.K x m)
noncomputable def zW (w:W)(A:Hx):Option (List W):=match w with
 |.tup ws=>some ws|.ref n=>match A[n]? with
  |some (.lst ws)=>some ws|some (.ro ws)=>some ws|_=>none
 |_=>none
def Kh {K:Frag}{A:Hx}{w:W}{ws:List W}(S:zU K φ A H)(q:RV K φ H w v)(e:zW w A=some ws):∃a y,v=.ref a/\(qV K H a y∨qA K H a y)/\zL K φ H ws y:=by
 unfold zW at e;cases w with
 |tup xs=>cases e;obtain⟨a,y,b,f,E⟩:=q;exact⟨a,y,b,.inr f,E⟩|ref n=>
  obtain⟨a,b,f⟩:=q;dsimp only at e;cases d:A[n]? with
  |none=>rw[d]at e;cases e|some o=>
   rw[d]at e;obtain⟨g,E,r⟩:=S.ob n o d;rw[f]at E;cases E;cases o with
   |lst xs=>cases e;obtain⟨y,c,h⟩:=r;exact⟨a,y,b,.inl (qV.of c),h⟩|ro xs=>cases e;obtain⟨y,c,h⟩:=r;exact⟨a,y,b,.inl c.sq,h⟩|dct xs=>cases e|td _=>cases e|tr _=>cases e|tab _ _=>cases e
 |non=>cases e|bl _=>cases e|clo _ _ _=>cases e|xc _=>cases e|int _=>cases e|str _=>cases e
def zV (m:Ev):jD:=λρ A=>(m ρ A).bind λw A1=>match zW w A1 with
 |some ws=>.ok ws A1|none=>.bad
def Ws (w:W)(A:Hx):Option jt:=match zW w A with
 |some ws=>some ⟨λA i=>(zW w A).map λws=>ws[i]?,ws.length⟩|none=>none
def qi (m:Ev):Ei:=λρ A=>(m ρ A).bind λw A1=>match Ws w A1 with
 |some j=>.ok j A1|none=>.bad
def cR (K:Frag)(t:TE):TI:=λσ H r=>t σ H λx H1=>∃a,x=.ref a/\(((∃xs,qV K H1 a xs)/\r (NG K a) H1)∨((∃xs,qA K H1 a xs)/\r (NI K a) H1))
def Ai {l:Expr}{t:TE}(j:PE X l t):PI X tg l (cR X.K t):=by
 intro pins s σ H n I h;refine zY (j pins s σ H _ I h) λv s1 ⟨x,H1,i,g,Q⟩=>?_;obtain⟨a,e,q⟩:=Q;subst e;cases g;have f:∀b∈[s1.heap.objs.size],kz X pins H1 b:=λb m=>by
  have e:b=s1.heap.objs.size:=by simpa using m
  subst e;exact i.fpOk (ao _) (i.hok.fresh (ao _))
 rcases q with ⟨⟨xs,d⟩,q⟩|⟨⟨xs,d⟩,q⟩
 ·obtain⟨c,r,p,z⟩:=i.list d
  refine wpAny_pyIter_list p.isList ?_;exact⟨s1.heap.objs.size,[s1.heap.objs.size],_,_,H1,rfl,i.kept (t':=s1.toks) λb o e=>af _ e,Hm a _,⟨_,aA _ rfl,rfl,rfl⟩,f,q⟩
 ·obtain⟨c,r,p,z⟩:=i.tuple d
  refine wpAny_pyIter_tuple (show s1.heap.IsTuple a c.toArray from p) ?_
  exact⟨s1.heap.objs.size,[s1.heap.objs.size],_,_,H1,rfl,i.kept (t':=s1.toks) λb o e=>af _ e,ID a _,⟨_,aA _ rfl,rfl,rfl⟩,f,q⟩
noncomputable def kZ (lo:Int)(n:Nat):jt:=⟨λ_ i=>if i<n then some (some (.int (lo+i))) else some none,n⟩
def Om {K:Frag}{lo:Int}:gA K φ H (kZ lo n) (YL lo n):=λi a h A lw S=>by
 unfold kZ;dsimp only
 by_cases hi:i<n
 ·rw[ag hi]
  refine⟨λw e=>?_,λe=>by cases e⟩
  cases e;exact⟨hi,λx H1 ⟨b,E⟩=>by subst b;exact⟨.refl,S,E⟩⟩
 ·rw[aj hi]
  exact⟨λw e=>(by cases e),λ_=>Nat.le_of_not_lt hi⟩
noncomputable def jJ (i:Int):Bool:=decide (-(2 ^ 62)<=i)&&decide (i<2 ^ 62)
def Zk {i:Int}(h:jJ i=true):-(2 ^ 62)<=i/\i<2 ^ 62:=by
 unfold jJ at h;rw[aq,ai,ai]at h;exact h
def jL (m:Ev):Ei:=λρ A=>(m ρ A).bind λw A1=>match w with
 |.int j=>if jJ j then .ok (kZ 0 j.toNat) A1 else .bad|_=>.bad
def OC (m M:Ev):Ei:=λρ A=>(m ρ A).bind λw A1=>(M ρ A1).bind λa A2=>match w,a with
 |.int i,.int j=>if jJ i&&jJ j then .ok (kZ i (j-i).toNat) A2 else .bad|_,_=>.bad
end
abbrev Fn:=List W->Hx->R W
def cS (K:Frag)(x:Str)(C:Value):Prop:=nsIn K mainGlobals x=some (some C)
def XE (K:Frag)(E:XK)(x:Str)(H:Hp):Prop:=∀C d,cS K x C->E C d H
inductive Zc (K:Frag)(n:Nat)(f:Fn)(vs:List V)(H:Hp)(Q:VK)(E:XK):Prop
 |mk (len:vs.length=n) (φ:bH) (A:Hx) (ws:List W) (S:zU K φ A H) (r:zL K φ H ws vs) (q:(f ws A).post (PB K φ H Q) (EB K φ H (XE K E)))
def Zc.len {K:Frag}{f:Fn}{Q:VK}{E:XK}(h:Zc K n f vs H Q E):vs.length=n:=by cases h;assumption
inductive zG (P:Program)(w:World)(K:Frag)(mg:bO)(base:Heap)(k:Nat)(x:Str)(n:Nat)(f:Fn):Prop
 |mk (fa:Addr) (fd:FuncData) (ps:bK) (F:yR P w K mg base wB k fa fd ps (Zc K n f)) (at_:mg x=some (.ref fa)) (kp:keepIn K (.ref fa)=true) (bi:Binds K fd ps [])
noncomputable def zx (f:Fn)(a:Ea):Ev:=λρ A=>(a ρ A).bind λws A1=>f ws A1
section
variable {m ma:Ev}
def Jr (m:Ea)(n:Nat):Prop:=∀ρ A ws a,m ρ A=.ok ws a->ws.length=n
def jc:Jr zr 0:=λ_ _ _ _ h=>by unfold zr at h;cases h;rfl
def qo {m:Ea}(h:Jr m n):Jr (zh ma m) (n+1):=λρ A ws a e=>by
 unfold zh at e;cases h1:ma ρ A with
 |ok x A1=>
  rw[h1,zS]at e;cases H:m ρ A1 with
  |ok xs A2=>rw[H,zS]at e;cases e;simp[h ρ A1 xs _ H]|exc x A2=>rw[H]at e;cases e|bad=>rw[H]at e;cases e
 |exc x A1=>rw[h1]at e;cases e|bad=>rw[h1]at e;cases e
end
noncomputable def qu (n:Nat)(m:Ex):Fn:=λws A=>(m (ws.map some++List.replicate (n-ws.length) none) A).nox.bind λf A1=>match f with
 |.rt w=>.ok w A1|.nx _=>.ok .non A1|_=>.bad
theorem RE.start {K:Frag}{ws:List W}(h:zL K φ H ws vs):RE K φ H (ws.map some++List.replicate (N.length-ws.length) none) (L2.start N vs):=by
 unfold L2.start;refine⟨by simp[h.length],λi w e=>?_⟩
 by_cases hi:i<ws.length
 ·rw[ah (by simpa using hi),ak]at e
  cases hw:ws[i]? with
  |none=>rw[hw]at e;cases e|some c=>
   rw[hw]at e;cases e;obtain⟨v,b,a⟩:=h.get hw;refine⟨v,?_,a⟩;rw[ah (by rw[ae,<- h.length];exact hi),ak,b];rfl
 ·rw[ax (by simpa using hi),List.getElem?_replicate]at e
  split at e<;>cases e
section
variable {K:Frag}
theorem zG.mono {j k:Nat}{f:Fn}(F:zG P w K mg base j x n f)(h:j<=k):zG P w K mg base k x n f:=by cases F with|mk d fd ps F a b c=>exact⟨d,fd,ps,F.mono h,a,b,c⟩
end
section
variable {K:Frag}
def jR {a:α}{A:Hx}:qT (R.ok a A):=λ_ _ h=>by cases h
def jh:qT (R.bad:R α):=λ_ _ h=>by cases h
def gR {c:Prop} [Decidable c] {a b:R α}(H:qT a)(h:qT b):qT (if c then a else b):=by split<;>assumption
noncomputable def wy (f:Int->Int->W):W->W->Hx->R W
 |.int i,.int j,A=>.ok (f i j) A|_,_,_=>.bad
def gU {f:Int->Int->W}:∀x y A,qT (wy f x y A):=λx y A=>by
 unfold wy;split
 ·exact jR
 ·exact jh
noncomputable def w9 (c:Int->Int->Bool)(f:Int->Int->W):W->W->Hx->R W
 |.int i,.int j,A=>if c i j then .ok (f i j) A else .bad|_,_,_=>.bad
def Yv {c:Int->Int->Bool}{f:Int->Int->W}:∀x y A,qT (w9 c f x y A):=λx y A=>by
 unfold w9;split
 ·exact gR jR jh
 ·exact jh
def gO {f:Int->Int->W}{g:Int->Int->V}(h:∀i j φ H,RV K φ H (f i j) (g i j)):ym K (wF g) (wy f):=λφ A H x y u v Q S a q p=>by
 cases u with
 |int i=>cases v with
  |int j=>obtain rfl:=a;obtain rfl:=q;exact⟨i,j,rfl,rfl,p φ H _ .refl S (h i j φ H)⟩|_=>exact p.elim
 |_=>exact p.elim
def Ym {c:Int->Int->Bool}{C:Int->Int->Prop}{f:Int->Int->W}{g:Int->Int->V}(d:∀i j,c i j=true->C i j)(h:∀i j φ H,RV K φ H (f i j) (g i j)):ym K (rI C g) (w9 c f):=λφ A H x y u v Q S b q p=>by
 cases u with
 |int i=>cases v with
  |int j=>
   obtain rfl:=b;obtain rfl:=q;unfold w9 at p;dsimp only at p
   by_cases a:c i j=true
   ·rw[ag a]at p;exact⟨i,j,rfl,rfl,d i j a,p φ H _ .refl S (h i j φ H)⟩
   ·rw[aj a]at p;exact p.elim
  |_=>exact p.elim
 |_=>exact p.elim
noncomputable def Qp (i j:Int):Bool:=(decide (-(2 ^ 64)<i)&&decide (i<2 ^ 64)) || (decide (-(2 ^ 64)<j)&&decide (j<2 ^ 64))
noncomputable def Wo (_ j:Int):Bool:=decide (0<j)
def EE (i j:Int)(h:Qp i j=true):Yy i j:=by
 unfold Qp at h;simp only[bh,aq,decide_eq_true_eq]at h;exact h
def D7 (i j:Int)(h:Wo i j=true):(λ_ j=>0<j) i j:=by
 unfold Wo at h;simpa using h
def yy:=wy λi j=>.int (i-j)
def yu:=w9 Wo λi j=>.int (i%j)
def Vm:=wy λi j=>.int (Builtin.bitXor i j)
def gw:=wy λi j=>.bl (decide (i<j))
def Qz:=wy λi j=>.bl (decide (i<=j))
def VE:=wy λi j=>.bl (decide (j<i))
def VA:=wy λi j=>.bl (decide (j<=i))
noncomputable def WE (i j:Int):Bool:=decide (0<=j)&&decide (j<=1000000)&&decide (i.natAbs<2 ^ 64)
def R5 (i j:Int)(h:WE i j=true):Vn i j:=by
 unfold WE at h;simp only[aq,decide_eq_true_eq]at h;exact⟨h.1.1,h.1.2,h.2⟩
def WD:=w9 WE λi j=>.int (i ^ j.toNat)
variable {a b c:Expr}
noncomputable def Qq:W->Hx->R W
 |.int i,A=>.ok (.int (-i)) A|_,_=>.bad
structure kF (X:Cx)(op:CmpOp)(g:W->W->Hx->R W):Prop where
 ex:∃r:R2,qP X (compareOp op) r/\(∀x y A,qT (g x y A))/\ym X.K r g
 mks:∀b,op≠.In->op≠.NotIn->behindInMarks op b=false
def Qh {r:R2}{g:W->W->Hx->R W}(a:qP X (compareOp op) r)(H:∀x y A,qT (g x y A))(h:ym X.K r g):kF X op g:=⟨⟨r,a,H,h⟩,λb a1 a2=>HW b a1 a2⟩
def Jq:kF X .Lt gw:=Qh cC gU (gO λ_ _ _ _=>rfl)
def Vo:kF X .LtE Qz:=Qh cD gU (gO λ_ _ _ _=>rfl)
def Na:kF X .Gt VE:=Qh AU gU (gO λ_ _ _ _=>rfl)
def cT:kF X .GtE VA:=Qh cE gU (gO λ_ _ _ _=>rfl)
end
inductive Ty where
 |non|bl|int|str|tup|lst|dct
 deriving DecidableEq
noncomputable def Ty.nm:Ty->String
 |.non => "NoneType" | .bl => "bool" | .int => "int" | .str => "str" | .tup => "tuple" | .lst => "list" | .dct => "dict"
noncomputable def WR (w:W)(A:Hx):Option Ty:=match w with
 |.non=>some .non|.bl _=>some .bl|.int _=>some .int|.str _=>some .str|.tup _=>some .tup|.ref n=>match A[n]? with
  |some (.lst _)=>some .lst|some (.dct _)=>some .dct|_=>none
 |_=>none
noncomputable def YD (a b:Ty):Bool:=a==b || (a==.bl&&b==.int)
def Pz {K:Frag}(a b:Ty):kitOne K (.type a.nm) (.type b.nm)=some (YD a b):=by
 cases a<;>cases b<;>rfl
section
variable {xr:XR}{K:Frag}{a c:Expr}{es:bM}{m:Ev}
def WW (K:Frag)(H:Hp)(x:V)(t:Ty):Prop:=k7 K H x (.type t.nm)∨∃a xs,x=.ref a/\qA K H a xs/\t=.tup
def Ez {A:Hx}{w:W}{t:Ty}(S:zU K φ A H)(q:RV K φ H w v)(e:WR w A=some t):WW K H v t:=by
 cases w with
 |non=>cases e;obtain rfl:=q;exact .inl .non|bl k=>cases e;obtain rfl:=q;exact .inl (.bl k)|clo _ _ _=>cases e|xc _=>cases e|int k=>cases e;obtain rfl:=q;exact .inl (.int k)|str k=>cases e;obtain rfl:=q;exact .inl (.str k)|tup ws=>cases e;obtain⟨a,vs,rfl,h,_⟩:=q;exact .inr ⟨a,vs,rfl,h,rfl⟩|ref n=>
  obtain⟨a,rfl,c⟩:=q;unfold WR at e;dsimp only at e;cases E:A[n]? with
  |none=>rw[E]at e;cases e|some o=>
   rw[E]at e;obtain⟨d,b,r⟩:=S.ob n o E;rw[c]at b;cases b;cases o with
   |lst ws=>cases e;obtain⟨vs,z,_⟩:=r;exact .inl (.lst z)|dct ws=>cases e;obtain⟨vs,z,_⟩:=r;exact .inl (.dK z)|td _=>cases e|tr _=>cases e|tab _ _=>cases e|ro ws=>cases e
def WW.kit {x:V}{t:Ty}(I:Inv X pins σ H s)(r:RelV x u)(h:WW X.K H x t):
  (∀{Q:bL}{E:bL}{A:Around}{c:Ty},(∀T,Q (.bool (YD t c)) { s with toks:=T })->wpAny (model X.prog X.w) A (call (.builtin "isinstance") [u,.type c.nm]) Q E s):=by
 intro Q E A c q;rcases h with h|⟨a,xs,rfl,h,rfl⟩
 ·exact Hz I r h (Pz t c) q
 ·cases (show u=Value.ref a from r)
  obtain⟨i,_,⟨o,d,b,_⟩,_⟩:=I.tuple h;exact bw kitx_tuple I.kIn ⟨o,d,b⟩ (Pz .tup c) (λz=>nomatch z) q
def cU (K:Frag):List V->Hp->VK->Prop:=λxs H Q=>∃x t c,xs=[x,.ty (Ty.nm c)]/\WW K H x t/\Q (.bl (YD t c)) H
def Du:yv X (.builtin "isinstance") (cU X.K):=by
 intro pins s σ H xs us Q I r h;obtain⟨x,t,c,rfl,ht,q⟩:=h;obtain⟨u,U,rfl,b,a⟩:=vals2 r;cases (show U=Value.type c.nm from a)
 exact ht.kit I b λT=>⟨.bl (YD t c),H,I.tok T,rfl,q⟩
def YK (t:Ty)(m:Ev):Ev:=λρ A=>(m ρ A).bind λw A1=>match WR w A1 with
 |some t'=>.ok (.bl (YD t' t)) A1|none=>.bad
def zI:W->W->Hx->R W:=λx y A=>match zW x A,y with
 |some ws,.int i=>match kN ws i with
  |some w=>.ok w A|none=>.bad
 |_,_=>.bad
def As:∀x y A,qT (zI x y A):=λx y A=>by
 unfold zI;split
 ·split
  ·exact jR
  ·exact jh
 ·exact jh
def HZ {ws:List W}{i:Int}{w:W}(r:zL K φ H ws ys)(e:kN ws i=some w):∃y,kN ys i=some y/\RV K φ H w y:=by
 unfold kN at e ⊢;rw[<- r.length];cases h:wC ws.length i with
 |none=>rw[h]at e;cases e|some j=>
  rw[h]at e;obtain⟨y,b,a⟩:=r.get (i:=j) e;exact⟨y,b,a⟩
def CZ:ym K (Nu K) zI:=λφ A H x y u v Q S d q p=>by
 unfold zI at p;cases es:zW u A with
 |none=>rw[es]at p;exact p.elim|some ws=>
  rw[es]at p;cases v with
  |int i=>
   obtain rfl:=q;dsimp only at p;cases e:kN ws i with
   |none=>rw[e]at p;exact p.elim|some w=>
    rw[e]at p;obtain⟨a,Y,rfl,z,r⟩:=Kh S d es;obtain⟨b,c,h⟩:=HZ r e;rcases z with z|z
    ·exact .inl ⟨a,Y,i,b,rfl,rfl,z,c,p φ H _ .refl S h⟩
    ·exact .inr (.inl ⟨a,Y,i,b,rfl,rfl,z,c,p φ H _ .refl S h⟩)
  |non=>exact p.elim|bl _=>exact p.elim|str _=>exact p.elim|tup _=>exact p.elim|ref _=>exact p.elim|clo _ _ _=>exact p.elim|xc _=>exact p.elim
def ZH (K:Frag)(r:List V->Hp->VK->Prop)(g:List W->Hx->R W):Prop:=∀φ A H a y ws Q,zU K φ A H->(qV K H a y∨qA K H a y)->zL K φ H ws y->(g ws A).post (PB K φ H Q) wZ->r [.ref a] H Q
noncomputable def mQ (g:List W->Hx->R W)(q:jD):Ev:=λρ A=>(q ρ A).bind λws A1=>g ws A1
def mQ.read {g:List W->Hx->R W}{q:jD}(hn:∀ws A,qT (g ws A))(c:ZH X.K r g):∀σ H Q,tM X.K xr (mQ g q) σ H Q->Vz r (OX (tQ X.K xr q) Nh) σ H Q:=by
 rintro σ H Q ⟨φ,A,ρ,S,re,h⟩
 refine⟨φ,A,ρ,S,re,qB (qg.mp h) (λws A1 d b H1 a y l s z r=>?_) λ_ _ z=>z⟩;exact c b A1 H1 a y ws Q s z r (qB (QV (hn _ _) d) (λ_ _ z=>z.mono l) λ_ _ z=>z)
def Yq {id:String}{g:List W->Hx->R W}{q:jD}(d:yv X (.builtin id) r)(hn:∀ws A,qT (g ws A))(a:ZH X.K r g)(hm:X.mg x=none)(v:bootBuiltins x=some (.builtin id))(f:SQ X xr e q)(c:Gl X x:=by rfl)
  (H:x ≠ "__name__":=by decide)(b:(x==("__debug__":Str))=false:=by decide)(he:starEach [e] X.env=(false,eval e X.env)::starEach [] X.env:=by rfl)(h:(backTo pos (starEach [] X.env)).any (·.1)=false:=by rfl):
  SE X xr (.Call (.Name x p) [e] [] pos) (mQ g q):=PE.imp (Km d c hm v (jK f yt he) H b he h) (mQ.read hn a)
def AM {id:String}{g:List W->Hx->R W}{q:jD}(d:yv X (.type id) r)(hn:∀ws A,qT (g ws A))(a:ZH X.K r g)(hm:X.mg x=none)(v:bootBuiltins x=some (.type id))(f:SQ X xr e q)(c:Gl X x:=by rfl)
  (H:x ≠ "__name__":=by decide)(b:(x==("__debug__":Str))=false:=by decide)(he:starEach [e] X.env=(false,eval e X.env)::starEach [] X.env:=by rfl)(h:(backTo pos (starEach [] X.env)).any (·.1)=false:=by rfl):
  SE X xr (.Call (.Name x p) [e] [] pos) (mQ g q):=PE.imp (J2 d c hm v (jK f yt he) H b he h) (mQ.read hn a)
noncomputable def qm:List W->Hx->R W:=λws A=>.ok (.int ws.length) A
def DU:ZH K (λxs H Q=>∃p y,xs=[.ref p]/\(qV K H p y∨qA K H p y)/\Q (.int y.length) H) qm:=λφ A H a y ws Q S z r p=>
 ⟨a,y,rfl,z,by rw[<- r.length];exact p φ H _ .refl S rfl⟩
noncomputable def qU:List W->Hx->R W:=λws A=>.ok (.tup ws) A
def E1:ZH K (λxs H Q=>∃p y,xs=[.ref p]/\((qV K H p y/\∀l,H l=none->Q (.ref l) (upd H l (.tup y)))∨(qA K H p y/\Q (.ref p) H))) qU:=λφ A H a y ws Q S z r p=>by
 refine⟨a,y,rfl,?_⟩;rcases z with z|z
 ·refine .inl ⟨z,λl h=>?_⟩
  obtain⟨a1,a2,b⟩:=Qf S h r;exact p _ _ _ a1 a2 b
 ·exact .inr ⟨z,p φ H _ .refl S ⟨a,y,rfl,z,r⟩⟩
variable {b:Expr}
def Kx {a:Addr}(I:Inv X pins σ H s)(l:X.calm=true)(z:qV X.K H a ys∨qA X.K H a ys)
  (h:∀(c:bG)(j:Addr)(fp wr:bH)(S:Nat->Heap->Prop)(s2:Shared),Vals ys c->ys.length<=sizeLine->Walks X.prog X.w X.A.in1 j fp wr c.length (λi v=>c[i]? =some v) S->S 0 s2.heap->(∀b∈fp,b<s2.heap.objs.size)->
   (∀(h':Heap)(T:Nat),(∀b o,b∉wr->s2.heap.get? b=some o->h'.get? b=some o)->Inv X pins σ H { s2 with heap:=h',toks:=T })->Q (.ref j) s2):
  wpAny (model X.prog X.w) X.A.in1 (pyIter (.ref a)) Q E s:=by
 have g:X.A.in1.handled=none:=I.ok.hd l;have keep:∀(o:Obj)(h':Heap)(T:Nat),(∀b u,b∉[s.heap.objs.size]->(s.heap.push o).get? b=some u->h'.get? b=some u)->Inv X pins σ H { s with heap:=h',toks:=T }:=λo h' T k=>I.kept λb u e=>k b u (by
  intro hm;have m:b=s.heap.objs.size:=by simpa using hm
  exact absurd (m ▸ aI e) (aW _)) (af _ e)
 rcases z with z|z
 ·obtain⟨c,r,p,f⟩:=I.list z
  have t:a<s.heap.objs.size:=by obtain⟨o,n,e,_⟩:=p;exact aI e
  refine wpAny_pyIter_list p.isList ?_;have W:=Walks.list (prog:=X.prog) (w:=X.w) g s.heap.objs.size a (aT t) c.toArray;rw[az]at W;simp only[List.getElem?_toArray]at W;refine h c s.heap.objs.size _ _ _ _ r f W ⟨⟨_,aA _ rfl,rfl,rfl⟩,p.isList.at λo e=>af _ e⟩ (λb d=>?_) λh' T k=>keep _ h' T k;show b<(s.heap.push _).objs.size;rw[bg];rcases b0.mp d with e|d
  ·rw[e];exact br _
  ·have e:b=a:=by simpa using d
   rw[e];exact bb t
 ·obtain⟨c,r,p,f⟩:=I.tuple z
  have t:a<s.heap.objs.size:=p.lt;have P:s.heap.IsTuple a c.toArray:=p;refine wpAny_pyIter_tuple P ?_;have W:=Walks.tuple (prog:=X.prog) (w:=X.w) g s.heap.objs.size a (aT t) c.toArray;rw[az]at W;simp only[List.getElem?_toArray]at W;refine h c s.heap.objs.size _ _ _ _ r f W ⟨⟨_,aA _ rfl,rfl,rfl⟩,P.at λo e=>af _ e⟩ (λb d=>?_) λh' T k=>keep _ h' T k;show b<(s.heap.push _).objs.size;rw[bg];rcases b0.mp d with e|d
  ·rw[e];exact br _
  ·have e:b=a:=by simpa using d
   rw[e];exact bb t
noncomputable def YA:V->Option Bool
 |.bl b=>some b|.int i=>some (i != 0)|.non=>some false|_=>none
noncomputable def Jm:W->Option Bool
 |.bl b=>some b|.int i=>some (i != 0)|.non=>some false|_=>none
def F5 {w:W}{k:Bool}(q:RV K φ H w v)(e:Jm w=some k):YA v=some k:=by
 cases w<;>first
  |(cases e;done)
  |(obtain rfl:=q;exact e)
def Hv {A:Around}{k:Bool}{Q:Bool->Shared->Prop}(r:RelV v u)(e:YA v=some k)(h:Q k s):wpAny (model X.prog X.w) A (truthy u) Q E s:=by
 cases v with
 |bl b=>cases e;cases r;exact wpAny_truthy_bool h|int i=>
  cases e;obtain⟨t,rfl⟩:=r;exact PySem.P.truthy_int h
 |non=>cases e;cases r;exactλ_ _ _=>h|_=>cases e
def kX:List W->Option (List Bool)
 |[]=>some []|w::ws=>match Jm w,kX ws with
  |some k,some ks=>some (k::ks)|_,_=>none
theorem TX:∀{ws:List W}{Y:List V}{ks:List Bool},zL K φ H ws Y->kX ws=some ks->∀(i:Nat)(y:V),Y[i]? =some y->∃k,ks[i]? =some k/\YA y=some k
 |[],_,_,r,e,i,y,h=>by cases r;simp at h|w::ws,_,ks,⟨v,r,g,q,t⟩,e,i,y,h=>by
  subst g;unfold kX at e;cases E:Jm w with
  |none=>rw[E]at e;cases e|some k=>
   cases a:kX ws with
   |none=>rw[E,a]at e;cases e|some b=>
    rw[E,a]at e;cases e;cases i with
    |zero=>simp at h;subst h;exact⟨k,by simp,F5 q E⟩|succ i=>simp at h;obtain⟨c,f,d⟩:=TX t a i y h;exact⟨c,by simpa using f,d⟩
theorem Sb:∀{ws:List W}{ks:List Bool},kX ws=some ks->ks.length=ws.length
 |[],_,e=>by cases e;rfl|w::ws,ks,e=>by
  unfold kX at e;cases a:Jm w with
  |none=>rw[a]at e;cases e|some k=>
   cases E:kX ws with
   |none=>rw[a,E]at e;cases e|some K=>rw[a,E]at e;cases e;simp[Sb E]
def range_all (ks:List Bool):(List.range ks.length).all (λi=>ks.getD i false)=ks.all id:=by
 rw[Bool.eq_iff_iff,ba,ba]
 constructor
 ·intro h x b
  obtain⟨i,a,rfl⟩:=aY b
  have:=h i (bX.mpr a)
  rw[aa,ab a]at this;exact this
 ·intro h i a
  have H:=bX.mp a;rw[aa,ab H];exact h _ (aG H)
def range_any (ks:List Bool):(List.range ks.length).any (λi=>ks.getD i false)=ks.any id:=by
 rw[Bool.eq_iff_iff,any_eq_true,any_eq_true]
 constructor
 ·rintro⟨i,a,h⟩
  have H:=bX.mp a;rw[aa,ab H]at h;exact⟨_,aG H,h⟩
 ·rintro⟨x,b,h⟩
  obtain⟨i,a,rfl⟩:=aY b;refine⟨i,bX.mpr a,?_⟩;rw[aa,ab a];exact h
def Vj (K:Frag)(f:List Bool->Bool):List V->Hp->VK->Prop:=λxs H Q=>∃a Y ks,xs=[.ref a]/\(qV K H a Y∨qA K H a Y)/\ks.length=Y.length/\(∀(i:Nat)(y:V),Y[i]? =some y->∃k,ks[i]? =some k/\YA y=some k)/\Q (.bl (f ks)) H
def RK {ks:List Bool}{A:Around}(r:Vals ys its)(l:ks.length=ys.length)(ht:∀(i:Nat)(y:V),ys[i]? =some y->∃k,ks[i]? =some k/\YA y=some k):TruthOf X.prog X.w A (λi v=>its[i]? =some v) λi=>ks.getD i false:=by
 intro i v s Q E P H;have b:i<its.length:=(bY.mp P).1;have h:i<ys.length:=by rw[r.length];exact b
 obtain⟨u,a,e⟩:=r.get (i:=i) (x:=ys[i]) (by simp[h])
 rw[P]at a;cases a;obtain⟨k,d,c⟩:=ht i ys[i] (by simp[h])
 dsimp only at H;rw[aa,d]at H;exact Hv e c H
def Eh (d:X.calm=true):yv X (.builtin "all") (Vj X.K λks=>ks.all id):=by
 intro pins s σ H xs us Q I r h;obtain⟨a,y,ks,rfl,z,l,ht,q⟩:=h;obtain⟨u,rfl,c⟩:=vals1 r;cases c;refine call_all_walk (Kx I d z λb f fp wr S s2 v g W st p back=>?_);refine⟨f,fp,wr,_,_,S,λi=>ks.getD i false,rfl,W,st,RK v l ht,λh' t k=>?_⟩;have e:b.length=ks.length:=by rw[l,v.length]
 rw[e,range_all];exact⟨.bl _,H,back h' t k,rfl,q⟩
def Ft (d:X.calm=true):yv X (.builtin "any") (Vj X.K λks=>ks.any id):=by
 intro pins s σ H xs us Q I r h;obtain⟨a,y,ks,rfl,z,l,ht,q⟩:=h;obtain⟨u,rfl,c⟩:=vals1 r;cases c;refine call_any_walk (Kx I d z λb f fp wr S s2 v g W st p back=>?_);refine⟨f,fp,wr,_,_,S,λi=>ks.getD i false,rfl,W,st,RK v l ht,λh' t k=>?_⟩;have e:b.length=ks.length:=by rw[l,v.length]
 rw[e,range_any];exact⟨.bl _,H,back h' t k,rfl,q⟩
def gu (f:List Bool->Bool):List W->Hx->R W:=λws A=>match kX ws with
 |some ks=>.ok (.bl (f ks)) A|none=>.bad
def PM {f:List Bool->Bool}:∀ws A,qT (gu f ws A):=λws A=>by
 unfold gu;split
 ·exact jR
 ·exact jh
def Py {f:List Bool->Bool}:ZH K (Vj K f) (gu f):=λφ A H a y ws Q S z r p=>by
 unfold gu at p;cases e:kX ws with
 |none=>rw[e]at p;exact p.elim|some ks=>
  rw[e]at p;exact⟨a,y,ks,rfl,z,by rw[Sb e,r.length],TX r e,p φ H _ .refl S rfl⟩
abbrev Jo:=gu λks=>ks.all id
abbrev Jv:=gu λks=>ks.any id
def IX:qP X (compareOp .IsNot) (λx y H Q=>∃i j,x=.bl i/\y=.bl j/\Q (.bl (!(i==j))) H):=by
 intro pins s σ H x y v u Q I a r h;obtain⟨i,j,rfl,rfl,q⟩:=h;cases a;cases r;exact isnot_bool ⟨.bl _,H,I,rfl,q⟩
noncomputable def Ve:W->Bool
 |.non=>true|_=>false
def Il {w:W}(q:RV K φ H w v):decide (v=.non)=Ve w:=by
 cases w with
 |non=>obtain rfl:=q;rfl|bl b=>obtain rfl:=q;rfl|clo _ _ _=>obtain⟨a,_,_,_,_,_,_,rfl,_⟩:=q;rfl|xc _=>obtain⟨a,_,_,_,rfl,_⟩:=q;rfl|int b=>obtain rfl:=q;rfl|str b=>obtain rfl:=q;rfl|tup ws=>obtain⟨a,vs,rfl,_⟩:=q;rfl|ref n=>obtain⟨a,rfl,_⟩:=q;rfl
def Qx (neg:Bool):W->W->Hx->R W:=λx y A=>match x,y with
 |.bl i,.bl j=>.ok (.bl (if neg then !(i==j) else i==j)) A|w,.non=>.ok (.bl (if neg then !Ve w else Ve w)) A|_,_=>.bad
def Ac {n:Bool}:∀x y A,qT (Qx n x y A):=λx y A=>by
 unfold Qx;split
 ·exact jR
 ·exact jR
 ·exact jh
def HB:ym K (λx y H Q=>(y=.non/\Q (.bl (!decide (x=.non))) H)∨∃i j,x=.bl i/\y=.bl j/\Q (.bl (!(i==j))) H) (Qx true):=λφ A H x y u v Q S b a p=>by
 cases v with
 |non=>
  have q:y=.non:=a;refine .inl ⟨q,?_⟩;rw[Il b];cases u<;>exact p φ H _ .refl S rfl
 |bl j=>
  cases u with
  |bl i=>obtain rfl:=b;obtain rfl:=a;exact .inr ⟨i,j,rfl,rfl,p φ H _ .refl S rfl⟩|_=>exact p.elim
 |_=>cases u<;>exact p.elim
def Pk:kF X .IsNot (Qx true):=Qh (Dw.or IX) Ac HB
end
noncomputable def O3 (outer sc:Scope):Bool:=sc.kind==.function&&decide ((sc.names.map (·.1)).Nodup)&&sc.names.all λy=>y.2 != .free || (outer.names.lookup y.1==some .cell || outer.names.lookup y.1==some .free)
def cps (h:O3 X.env.scope sc=true):gm X sc:=by
 unfold O3 at h;rw[aq,aq,ai,aU,ba]at h;refine⟨h.1.1,h.1.2,λy H e=>?_⟩
 have:=h.2 y H
 rw[e]at this;simp only[bne_self_eq_false,Bool.false_or,bh,aU]at this;exact this
section
variable {xr:XR}{K:Frag}{a b:Expr}{ma mb:Ev}
theorem zU.lst {φ:bH}{A:Hx}{H:Hp}{n:Nat}{ws:List W}{v:V}(S:zU K φ A H)(q:RV K φ H (.ref n) v)(e:A[n]? =some (.lst ws)):∃p vs,v=.ref p/\φ[n]? =some p/\H p=some (.lst vs)/\zL K φ H ws vs:=by
 obtain⟨p,rfl,a⟩:=q;obtain⟨P,h,vs,c,b⟩:=S.ob n _ e;rw[a]at h;cases h;exact⟨p,vs,rfl,a,c,b⟩
def Ey {prog:Program}{A:Around}{t b:Addr}{ws:bG}(ht:IsTup s.heap t ([]:bG).toArray)(a:IsTup s.heap b ws.toArray)(h0:Q (.ref b) s):
  wpAny (model prog w) A (binaryOp .Add (.ref t) (.ref b)) Q E s:=by
 obtain⟨⟨cls,D,data,l⟩,o,c,n,hd⟩:=id ht;obtain⟨⟨C,d,data2,S⟩,h,H,N,hd2⟩:=id a;simp only at c hd H hd2;subst c hd H hd2;exact concat_meets ⟨_,o,rfl⟩ ⟨_,h,rfl⟩ noFill_tuple_add seq_tuple_add slot_tuple_add entry_tuple_add (args_tuple_add_2 _ _)
   (tuple_addW0 t b ([]:bG).toArray ws.toArray n N D d l S (by simp)) ⟨o,h,h0⟩
noncomputable def Oc (K:Frag):R2:=λx y H Q=>∃a b Y,x=.ref a/\y=.ref b/\qA K H a []/\qA K H b Y/\Q (.ref b) H
def F0:qP X (binaryOp .Add) (Oc X.K):=by
 intro pins s σ H x y v u Q I c r h;obtain⟨a,b,Y,rfl,rfl,g,f,q⟩:=h;cases c;cases r;obtain⟨e,d,P,_⟩:=I.tuple g;obtain⟨i,j,p,_⟩:=I.tuple f;cases d;exact Ey P p ⟨.ref b,H,I,rfl,q⟩
def qM:W->W->Hx->R W:=λx y A=>match x,y with
 |.int i,.int j=>.ok (.int (i+j)) A|.tup xs,.tup Y=>if xs.length+Y.length<=qf then .ok (.tup (xs++Y)) A else .bad|.ref n,.ref k=>match A[n]?,A[k]? with
  |some (.lst xs),some (.lst Y)=>if xs.length+Y.length<=qf then .ok (.ref A.length) (A++[.lst (xs++Y)]) else .bad|_,_=>.bad
 |_,_=>.bad
def Br:∀x y A,qT (qM x y A):=λx y A=>by
 unfold qM
 split
 ·exact jR
 ·exact gR jR jh
 ·split
  ·exact gR jR jh
  ·exact jh
 ·exact jh
def QP (h:n<=qf):n<=sizeLine:=by
 have:sizeLine=16777216:=sizeLine_eq
 unfold qf at h;omega
def Cg:ym K (λx y H Q=>wF (λi j=>.int (i+j)) x y H Q∨OK K x y H Q∨Oc K x y H Q∨O9 x y H Q) qM:=λφ A H x y u v Q S f q p=>by
 cases u with
 |int i=>cases v with
  |int j=>obtain rfl:=f;obtain rfl:=q;exact .inl ⟨i,j,rfl,rfl,p φ H _ .refl S rfl⟩|_=>exact p.elim
 |tup xs=>cases v with
  |tup Y=>
   obtain⟨a1,b,rfl,t1,c⟩:=f;obtain⟨a2,a,rfl,t,r⟩:=q;unfold qM at p;dsimp only at p
   by_cases h:xs.length+Y.length<=qf
   ·rw[ag h]at p
    by_cases w:b=[]
    ·subst w
     have m:xs=[]:=by
      have:=c.length
      simpa using this
     subst m;exact .inr (.inr (.inl ⟨a1,a2,a,rfl,rfl,t1,t,p φ H _ .refl S ⟨a2,a,rfl,t,r⟩⟩))
    ·refine .inr (.inl ⟨a1,a2,b,a,rfl,rfl,t1,t,w,by rw[<- c.length,<- r.length];exact QP h,λe=>?_,λne l g=>?_⟩)
     ·subst e
      have m:Y=[]:=by
       have:=r.length
       simpa using this
      subst m;rw[append_nil]at p;exact p φ H _ .refl S ⟨a1,b,rfl,t1,c⟩
     ·obtain⟨s,o,B⟩:=Qf S g (c.append r)
      exact p _ _ _ s o B
   ·rw[aj h]at p;exact p.elim
  |_=>exact p.elim
 |ref n=>cases v with
  |ref k=>
   unfold qM at p;dsimp only at p;cases E:A[n]? with
   |none=>rw[E]at p;exact p.elim|some D=>cases D with
    |lst xs=>
     cases d:A[k]? with
     |none=>rw[E,d]at p;exact p.elim|some C=>cases C with
      |lst Y=>
       rw[E,d]at p;dsimp only at p;obtain⟨z,v1,rfl,f1,g1,c⟩:=S.lst f E;obtain⟨P,v2,rfl,f2,g2,r⟩:=S.lst q d
       by_cases h:xs.length+Y.length<=qf
       ·rw[ag h]at p
        refine .inr (.inr (.inr ⟨z,P,v1,v2,rfl,rfl,g1,g2,by rw[<- c.length,<- r.length];exact QP h,λl g=>?_⟩))
        obtain⟨s,o,B⟩:=Q8 S g (c.append r);exact p _ _ _ s o B
       ·rw[aj h]at p;exact p.elim
      |_=>rw[E,d]at p;exact p.elim
    |_=>rw[E]at p;exact p.elim
  |_=>exact p.elim
 |_=>cases v<;>exact p.elim
def zZ:W->W->Hx->R W:=λx y A=>match x,y with
 |.int i,.int j=>if Qp i j then .ok (.int (i * j)) A else .bad|.ref n,.int k=>match A[n]? with
  |some (.lst xs)=>if jJ k&&decide (xs.length * k.toNat<=qf) then .ok (.ref A.length) (A++[.lst (List.replicate k.toNat xs).flatten]) else .bad|_=>.bad
 |_,_=>.bad
def CK:∀x y A,qT (zZ x y A):=λx y A=>by
 unfold zZ
 split
 ·exact gR jR jh
 ·split
  ·exact gR jR jh
  ·exact jh
 ·exact jh
theorem zL.rep {ws:List W}(r:zL K φ H ws vs):∀n:Nat,zL K φ H (List.replicate n ws).flatten (List.replicate n vs).flatten
 |0=>.nil|n+1=>by rw[a8,a8,a6,a6];exact r.append (zL.rep r n)
def Dm:ym K (λx y H Q=>rI Yy (λi j=>.int (i * j)) x y H Q∨OZ x y H Q) zZ:=λφ A H x y u v Q S a q p=>by
 cases v with
 |int j=>cases u with
  |int i=>
   obtain rfl:=a;obtain rfl:=q;unfold zZ at p;dsimp only at p
   by_cases c:Qp i j=true
   ·rw[ag c]at p;exact .inl ⟨i,j,rfl,rfl,EE i j c,p φ H _ .refl S rfl⟩
   ·rw[aj c]at p;exact p.elim
  |ref n=>
   obtain rfl:=q;unfold zZ at p;dsimp only at p;cases e:A[n]? with
   |none=>rw[e]at p;exact p.elim|some o=>cases o with
    |lst xs=>
     rw[e]at p;dsimp only at p;obtain⟨P,v1,rfl,f1,g1,r⟩:=S.lst a e
     by_cases h:(jJ j&&decide (xs.length * j.toNat<=qf))=true
     ·rw[ag h]at p
      rw[aq,ai]at h;obtain⟨d,B⟩:=Zk h.1;refine .inr ⟨P,j,v1,rfl,rfl,g1,by omega,by omega,by rw[<- r.length];exact QP h.2,λl b=>?_⟩
      obtain⟨c1,c2,C⟩:=Q8 S b (r.rep j.toNat);exact p _ _ _ c1 c2 C
     ·rw[aj h]at p;exact p.elim
    |_=>rw[e]at p;exact p.elim
  |_=>exact p.elim
 |_=>cases u<;>exact p.elim
def yr:W->W->Hx->R W:=λx y A=>match x with
 |.ref n=>match A[n]? with
  |some (.lst ws)=>if ws.length<qf then .ok .non (A.set n (.lst (ws++[y]))) else .bad|_=>.bad
 |_=>.bad
noncomputable def JA (x:W)(A:Hx):Bool:=match x with
 |.ref n=>match A[n]? with
  |some (.lst _)=>true|_=>false
 |_=>false
def F8 {A:Hx}{w:W}(S:zU K φ A H)(q:RV K φ H w v)(e:JA w A=true):WQ K "list" v H:=by
 unfold JA at e;cases w with
 |ref n=>
  dsimp only at e;cases E:A[n]? with
  |none=>rw[E]at e;cases e|some o=>cases o with
   |lst ws=>obtain⟨p,vs,rfl,_,h,_⟩:=S.lst q E;exact .inl ⟨rfl,_,qV.of h⟩|_=>rw[E]at e;cases e
 |_=>cases e
def jU (g:W->W->Hx->R W)(a b:Ev):Ev:=λρ A=>(a ρ A).bind λx A1=>if JA x A1 then(b ρ A1).bind λy A2=>g x y A2 else .bad
def K8 {nm:Str}{id:String}{r:V->List V->Hp->VK->Prop}{g:W->W->Hx->R W}(slot:Slot "list" nm id)(j:typeOf (.builtin id)=pure (.type "method_descriptor"))(hm:Jz X id r)(hn:∀x y A,qT (g x y A))
  (C:∀φ A H x y u v Q,zU X.K φ A H->RV X.K φ H u x->RV X.K φ H v y->(g u v A).post (PB X.K φ H Q) wZ->r x [y] H Q)(B:SE X xr a ma)(he:SE X xr b mb)
  (s:starEach [b] X.env=(false,eval b X.env)::starEach [] X.env)(c:attributeBase a nm X.env (eval a X.env)=eval a X.env)
  (d:((backTo cpos (starEach [b] X.env)).all (λx=>!x.1)&&(backToKw cpos (keywordEach [] X.env)).all (λx=>x.1.isSome)
   && decide ([b].length+([]:bR).length+(if ([]:bR).isEmpty then 0 else 1)<30))=true)(e:(apos.endLine==cpos.line)=true):
  SE X xr (.Call (.Attribute a nm apos) [b] [] cpos) (jU g ma mb):=
 PE.imp (OT PySem.F.plainAttrs_list slot j hm B (jK he yt s) c d e s (by rfl)) λσ H Q ⟨φ,A,ρ,S,re,h⟩=>by
  refine tM.go S re (qg.mp h) λw A1 o H1 v f l n q=>?_
  by_cases m:JA w A1=true
  ·rw[ag m]at f
   refine⟨F8 n q m,?_⟩;refine tM.go n (re.mono l) (qB (qg.mp f) (λ_ _ z=>z) λ_ _ z=>z.mono l) λp A2 i I v2 D l2 E t=>?_;exact C i A2 I v v2 w p Q E (q.mono l2) t (qB (QV (hn _ _ _) D) (λ_ _ z=>z.mono (l.trans l2)) λ_ _ z=>z)
  ·rw[aj m]at f;exact f.elim
def Hn:∀x y A,qT (yr x y A):=λx y A=>by
 unfold yr
 split
 ·split
  ·exact gR jR jh
  ·exact jh
 ·exact jh
def wU:W->W->Hx->R W:=λx y A=>match x,y with
 |.ref n,.int i=>match A[n]? with
  |some (.lst ws)=>match (if jJ i then seqIndex? i ws.length else none) with
   |some k=>match ws[k]? with
    |some w=>.ok w (A.set n (.lst (ws.eraseIdx k)))|none=>.bad
   |none=>.bad
  |_=>.bad
 |_,_=>.bad
def FY:∀x y A,qT (wU x y A):=λx y A=>by
 unfold wU
 split
 ·split
  ·split
   ·split
    ·exact jR
    ·exact jh
   ·exact jh
  ·exact jh
 ·exact jh
def k6:W->W->W->Hx->R Unit:=λo i v A=>match o,i with
 |.ref n,.int k=>match A[n]? with
  |some (.lst ws)=>match wC ws.length k with
   |some j=>.ok () (A.set n (.lst (ws.set j v)))|none=>.bad
  |_=>.bad
 |_,_=>.bad
def Og:∀o i v A,qT (k6 o i v A):=λo i v A=>by
 unfold k6
 split
 ·split
  ·split
   ·exact jR
   ·exact jh
  ·exact jh
 ·exact jh
def RM:OG K OH k6:=λφ A H o i v a w wv Q S f d q p=>by
 unfold k6 at p;cases a with
 |ref n=>cases w with
  |int k=>
   obtain rfl:=d;dsimp only at p;cases e:A[n]? with
   |none=>rw[e]at p;exact p.elim|some g=>cases g with
    |lst ws=>
     rw[e]at p;dsimp only at p;cases E:wC ws.length k with
     |none=>rw[E]at p;exact p.elim|some j=>
      rw[E]at p;obtain⟨l,vs,rfl,f1,g1,r⟩:=S.lst f e;have ln:Le K φ H φ (upd H l (.lst (vs.set j v))):=Le.upd f1 (λxs z=>by rw[g1]at z;cases z) (λ_ _ z=>by rw[g1]at z;cases z)
      obtain⟨c,b⟩:=S.write (o:=.lst ws) (o':=.lst (ws.set j wv)) e rfl rfl f1 ⟨_,yn,(r.mono ln).set (q.mono ln) j⟩;exact⟨l,vs,k,j,rfl,rfl,g1,by rw[<- r.length];exact E,p _ _ c b⟩
    |_=>rw[e]at p;exact p.elim
  |_=>exact p.elim
 |_=>cases w<;>exact p.elim
variable {es:bM}{m:Ev}
def Bj {id:String}{g:W->Hx->R W}(i:yv X (.type id) r)(hn:∀w A,qT (g w A))(f:Vx X.K (λv=>r [v]) g)(hm:X.mg x=none)(d:bootBuiltins x=some (.type id))(j:SE X xr e m)(b:Gl X x:=by rfl)
  (a:x ≠ "__name__":=by decide)(c:(x==("__debug__":Str))=false:=by decide)(he:starEach [e] X.env=(false,eval e X.env)::starEach [] X.env:=by rfl)(l:(backTo pos (starEach [] X.env)).any (·.1)=false:=by rfl):
  SE X xr (.Call (.Name x p) [e] [] pos) (ka g m):=PE.imp (J2 i b hm d (jK j yt he) a c he l) λσ H Q h=>ka.read (r:=λv=>r [v]) hn f σ H Q h
def OU {id:String}{g:W->W->Hx->R W}(o:yv X (.builtin id) r)(hn:∀w j A,qT (g w j A))(n:ym X.K (λv c=>r [v,c]) g)(hm:X.mg x=none)(m:bootBuiltins x=some (.builtin id))(s:SE X xr a ma)(q:SE X xr b mb)(e:Gl X x)
  (d:x ≠ "__name__")(f:(x==("__debug__":Str))=false)(i:starEach [a,b] X.env=(false,eval a X.env)::starEach [b] X.env)(t:starEach [b] X.env=(false,eval b X.env)::starEach [] X.env)(l:(backTo pos (starEach [b] X.env)).any (·.1)=false):
  SE X xr (.Call (.Name x p) [a,b] [] pos) (zi g ma mb):=PE.imp (Km o e hm m (jK s (jK q yt t) i) d f i l) λσ H Q h=>zi.read (r:=λv c=>r [v,c]) hn n σ H Q h
noncomputable def Yx:W->Hx->R W
 |.int i,A=>.ok (.int i) A|.bl k,A=>.ok (.int (if k then 1 else 0)) A|_,_=>.bad
def X5:=wy λi j=>.int (if j > i then j else i)
def We:=wy λi j=>.int (if j<i then j else i)
noncomputable def yd:W->Bool
 |.tup _=>false|.ref _=>false|.clo _ _ _=>false|.xc _=>false|_=>true
noncomputable def Ju:W->W->Bool
 |.non,.non=>true|.bl a,.bl b=>a==b|.bl a,.int b=>(if a then 1 else 0)==b|.int a,.bl b=>a==(if b then 1 else 0)|.int a,.int b=>a==b|.str a,.str b=>a==b|_,_=>false
def Jw (x:W)(xs:List W):Bool:=xs.any λy=>Ju y x
def J3 {w:W}(q:RV K φ H w v)(e:yd w=true):ki v=true:=by
 cases w<;>first
  |(cases e;done)
  |(obtain rfl:=q;rfl)
def Su {w a:W}{b:V}(q:RV K φ H w v)(Q:RV K φ H a b)(e:yd w=true)(E:yd a=true):wd v b=Ju w a:=by
 cases w<;>cases a<;>first
  |(cases e;done)
  |(cases E;done)
  |(obtain rfl:=q;obtain rfl:=Q;rfl)
theorem RG {x:W}(q:RV K φ H x v)(e:yd x=true):∀{xs:List W}{vs:List V},zL K φ H xs vs->xs.all yd=true->vs.all ki=true/\WO v vs=Jw x xs
 |[],_,r,_=>by cases r;exact⟨rfl,rfl⟩|w::ws,_,⟨y,r,E,h,t⟩,a=>by
  subst E;rw[all_cons,aq]at a;obtain⟨I,i⟩:=RG q e t a.2;refine⟨by rw[all_cons,J3 h a.1,I];rfl,?_⟩
  unfold WO Jw at i ⊢;rw[any_cons,any_cons,i,Su h q a.1 e]
def Qt (neg:Bool):W->W->Hx->R W:=λx y A=>match zW y A with
 |some ws=>if yd x&&ws.all yd then .ok (.bl (if neg then !Jw x ws else Jw x ws)) A else .bad|none=>.bad
abbrev Vw:=Qt false
def Cv {n:Bool}:∀x y A,qT (Qt n x y A):=λx y A=>by
 unfold Qt
 split
 ·exact gR jR jh
 ·exact jh
def Ab {n:Bool}:ym K (NB K n) (Qt n):=λφ A H x y u v Q S q b p=>by
 unfold Qt at p;cases es:zW v A with
 |none=>rw[es]at p;exact p.elim|some ws=>
  rw[es]at p;dsimp only at p
  by_cases hf:(yd u&&ws.all yd)=true
  ·rw[ag hf]at p
   rw[aq]at hf;obtain⟨a,Y,rfl,z,r⟩:=Kh S b es;obtain⟨I,i⟩:=RG q hf.1 r hf.2;exact⟨a,Y,rfl,z,J3 q hf.1,I,by rw[i];exact p φ H _ .refl S rfl⟩
  ·rw[aj hf]at p;exact p.elim
structure O0 (X:Cx)(op:CmpOp)(g:W->W->Hx->R W):Prop where
 ex:∃r:R2,qP X (compareOp op) r/\(∀x y A,qT (g x y A))/\ym X.K r g
def cV:O0 X .In Vw:=⟨_,HC,Cv,Ab⟩
end
noncomputable def yo (f:W->Option PyData):List W->Option (List PyData)
 |[]=>some []|w::ws=>match f w,yo f ws with
  |some d,some ds=>some (d::ds)|_,_=>none
def qO (A:Hx):Nat->W->Option PyData
 |_,.non=>some .none|_,.bl b=>some (.bool b)|_,.int i=>some (.int i)|_,.str x=>if PyData.strOk x then some (.str x) else none|_,.clo _ _ _=>none|_,.xc _=>none|0,.tup _=>none|0,.ref _=>none|n+1,.tup ws=>(yo (qO A n) ws).map .tuple|n+1,.ref k=>match zW (.ref k) A with
  |some ws=>(yo (qO A n) ws).map .list|none=>none
def Ed {K:Frag}{A:Hx}{us:List W}(S:zU K φ A H)(q:RV K φ H (.ref n) v)(e:zW (.ref n) A=some us):∃a y,v=.ref a/\qV K H a y/\zL K φ H us y:=by
 obtain⟨a,rfl,d⟩:=q;unfold zW at e;dsimp only at e;cases E:A[n]? with
 |none=>rw[E]at e;cases e|some o=>
  rw[E]at e;obtain⟨f,c,r⟩:=S.ob n o E;rw[d]at c;cases c;cases o with
  |lst xs=>cases e;obtain⟨y,b,h⟩:=r;exact⟨a,y,rfl,qV.of b,h⟩|ro xs=>cases e;obtain⟨y,b,h⟩:=r;exact⟨a,y,rfl,b.sq,h⟩|dct xs=>cases e|td _=>cases e|tr _=>cases e|tab _ _=>cases e
section
variable {a:Expr}
theorem G5 {K:Frag}{f:W->Option PyData}(hf:∀w v u d,RV K φ H w v->RelV v u->f w=some d->∃as,Reads h u d as):
  ∀{ws:List W}{vs:List V}{us:bG}{ds:List PyData},zL K φ H ws vs->Vals vs us->yo f ws=some ds->∃as,ReadsAll h us ds as
 |[],_,_,_,r,a,e=>by cases r;cases a;cases e;exact⟨[],.nil⟩|w::ws,_,_,ds,⟨v,r,l,q,t⟩,a,e=>by
  subst l;cases a with
  |cons g c=>
   unfold yo at e;cases E:f w with
   |none=>rw[E]at e;cases e|some d=>
    cases b:yo f ws with
    |none=>rw[E,b]at e;cases e|some D=>
     rw[E,b]at e;cases e;obtain⟨as,j⟩:=hf w v _ d q g E;obtain⟨bs,i⟩:=G5 hf t c b;exact⟨_,.cons j i⟩
def Kq {A:Hx}(I:Inv X pins σ H s)(S:zU X.K φ A H):∀(n:Nat)(w:W)(v:V)(u:Value)(d:PyData),RV X.K φ H w v->RelV v u->qO A n w=some d->∃as,Reads s.heap u d as:=by
 intro n
 induction n with
 |zero=>
  intro w v u d q r e;cases w with
  |non=>obtain rfl:=q;cases r;cases e;exact⟨_,.none⟩|bl k=>obtain rfl:=q;cases r;cases e;exact⟨_,.bool k⟩|int k=>obtain rfl:=q;obtain⟨t,rfl⟩:=r;cases e;exact⟨_,.int k t⟩|str k=>
   obtain rfl:=q;obtain⟨t,rfl⟩:=r;unfold qO at e
   split at e
   ·cases e;exact⟨_,.str k t⟩
   ·cases e
  |tup _=>cases e|ref _=>cases e|clo _ _ _=>unfold qO at e;cases e|xc _=>unfold qO at e;cases e
 |succ n p=>
  intro w v u d q r e;cases w with
  |non=>obtain rfl:=q;cases r;cases e;exact⟨_,.none⟩|bl k=>obtain rfl:=q;cases r;cases e;exact⟨_,.bool k⟩|clo _ _ _=>unfold qO at e;cases e|xc _=>unfold qO at e;cases e|int k=>obtain rfl:=q;obtain⟨t,rfl⟩:=r;cases e;exact⟨_,.int k t⟩|str k=>
   obtain rfl:=q;obtain⟨t,rfl⟩:=r;unfold qO at e
   split at e
   ·cases e;exact⟨_,.str k t⟩
   ·cases e
  |tup ws=>
   obtain⟨a,vs,rfl,h,c⟩:=q;cases r;unfold qO at e;cases E:yo (qO A n) ws with
   |none=>rw[E]at e;cases e|some ds=>
    rw[E]at e;cases e;obtain⟨i,b,⟨o,l,j,k,g⟩,_⟩:=I.tuple h;obtain⟨as,f⟩:=G5 p c b E;exact⟨_,.tuple l j g (by simpa using f)⟩
  |ref k=>
   unfold qO at e;cases E:zW (.ref k) A with
   |none=>rw[E]at e;cases e|some ws=>
    rw[E]at e;dsimp only at e;obtain⟨a,y,rfl,h,c⟩:=Ed S q E;cases r;cases m:yo (qO A n) ws with
    |none=>rw[m]at e;cases e|some ds=>
     rw[m]at e;cases e;obtain⟨i,b,⟨o,x,l,j,_,g⟩,_⟩:=I.list h;obtain⟨as,f⟩:=G5 p c b m;exact⟨_,.list l j g (by simpa using f)⟩
def IM {A:Hx}:∀(n:Nat)(w:W)(d:PyData),qO A n w=some d->d.canLay0=true/\d.depth<=n:=by
 intro n;have lst:∀{n:Nat},(∀(w:W)(d:PyData),qO A n w=some d->d.canLay0=true/\d.depth<=n)->∀(ws:List W)(ds:List PyData),yo (qO A n) ws=some ds->PyData.canLayAll0 ds=true/\PyData.depthAll ds<=n:=by
  intro n i ws
  induction ws with
  |nil=>intro ds e;cases e;exact⟨by simp[PyData.canLayAll0],by simp[PyData.depthAll]⟩|cons w ws I=>
   intro ds e;unfold yo at e;cases E:qO A n w with
   |none=>rw[E]at e;cases e|some d=>
    cases b:yo (qO A n) ws with
    |none=>rw[E,b]at e;cases e|some D=>
     rw[E,b]at e;cases e;obtain⟨h,c⟩:=i w d E;obtain⟨f,g⟩:=I D b;refine⟨by simp[PyData.canLayAll0,h,f],?_⟩
     simp only[PyData.depthAll];omega
 induction n with
 |zero=>
  intro w d e;cases w with
  |tup _=>cases e|ref _=>cases e|clo _ _ _=>unfold qO at e;cases e|xc _=>unfold qO at e;cases e|str x=>
   unfold qO at e
   split at e
   ·rename_i H;cases e;exact⟨by simp[PyData.canLay0,H],by simp[PyData.depth]⟩
   ·cases e
  |_=>cases e;exact⟨by simp[PyData.canLay0],by simp[PyData.depth]⟩
 |succ n i=>
  intro w d e;cases w with
  |clo _ _ _=>unfold qO at e;cases e|xc _=>unfold qO at e;cases e|tup ws=>
   unfold qO at e;cases a:yo (qO A n) ws with
   |none=>rw[a]at e;cases e|some ds=>
    rw[a]at e;cases e;obtain⟨h,c⟩:=lst i ws ds a;refine⟨by simp[PyData.canLay0,h],?_⟩
    simp only[PyData.depth];omega
  |ref k=>
   unfold qO at e;cases a:zW (.ref k) A with
   |none=>rw[a]at e;cases e|some ws=>
    rw[a]at e;dsimp only at e;cases E:yo (qO A n) ws with
    |none=>rw[E]at e;cases e|some ds=>
     rw[E]at e;cases e;obtain⟨h,c⟩:=lst i ws ds E;refine⟨by simp[PyData.canLay0,h],?_⟩
     simp only[PyData.depth];omega
  |str x=>
   unfold qO at e
   split at e
   ·rename_i H;cases e;exact⟨by simp[PyData.canLay0,H],by simp[PyData.depth]⟩
   ·cases e
  |_=>cases e;exact⟨by simp[PyData.canLay0],by simp[PyData.depth]⟩
def kL (neg:Bool):W->W->Hx->R W:=λx y A=>match qO A 8 x,qO A 8 y with
 |some d,some d'=>.ok (.bl (if neg then !PyData.eqv d d' else PyData.eqv d d')) A|_,_=>.bad
abbrev jn:=kL false
abbrev qZ:=kL true
def PV {n:Bool}:∀x y A,qT (kL n x y A):=λx y A=>by
 unfold kL
 split
 ·exact jR
 ·exact jh
def Vp (K:Frag)(neg:Bool):R2:=λx y H Q=>∃φ A u v d d',zU K φ A H/\RV K φ H u x/\RV K φ H v y/\qO A 8 u=some d/\qO A 8 v=some d'/\Q (.bl (if neg then !PyData.eqv d d' else PyData.eqv d d')) H
def KC {A:Hx}{w:W}{d:PyData}(h:qO A 8 w=some d):SeqAt.shaped d=true:=by
 obtain⟨H,a⟩:=IM 8 w d h;unfold SeqAt.shaped;rw[H,Bool.true_and,ai];omega
def CA (g:X.A.units+64<cLine):qP X (compareOp .Eq) (Vp X.K false):=by
 intro pins s σ H x y v u Q I b r h;obtain⟨φ,A,a,w,d,d',S,f,c,E,e,q⟩:=h;obtain⟨as,j⟩:=Kq I S 8 a x v d f b E;obtain⟨bs,i⟩:=Kq I S 8 w y u d' c r e;exact eq_dataH j i (KC E) (KC e) g ⟨.bl _,H,I,rfl,q⟩
def C5 (g:X.A.units+64<cLine):qP X (compareOp .NotEq) (Vp X.K true):=by
 intro pins s σ H x y v u Q I b r h;obtain⟨φ,A,a,w,d,d',S,f,c,E,e,q⟩:=h;obtain⟨as,j⟩:=Kq I S 8 a x v d f b E;obtain⟨bs,i⟩:=Kq I S 8 w y u d' c r e;exact ne_dataH j i (KC E) (KC e) g ⟨.bl _,H,I,rfl,q⟩
def Pf {K:Frag}{n:Bool}:ym K (Vp K n) (kL n):=λφ A H x y u v Q S a q p=>by
 unfold kL at p;cases e:qO A 8 u with
 |none=>rw[e]at p;exact p.elim|some d=>
  cases E:qO A 8 v with
  |none=>rw[e,E]at p;exact p.elim|some d'=>
   rw[e,E]at p;exact⟨φ,A,u,v,d,d',S,a,q,e,E,p φ H _ .refl S rfl⟩
def ky {k:Nat}(h:jZ k X.A):kF X .Eq jn:=Qh (CA h.units) PV Pf
def kG {k:Nat}(h:jZ k X.A):kF X .NotEq qZ:=Qh (C5 h.units) PV Pf
end
mutual
noncomputable def W.nr:W->Bool
 |.tup ws=>qI ws|.ref _=>false|.clo _ ws _=>qI ws|_=>true
noncomputable def qI:List W->Bool
 |[]=>true|w::ws=>w.nr&&qI ws
end
def iso (f:Fn):Fn:=λus A=>if qI us then(match f us [] with
 |.ok w A1=>(match w with
  |.ref n=>(match A1[n]? with
   |some (.lst ws)=>if qI ws then .ok (.ref A.length) (A++[.lst ws]) else .bad|some (.dct kvs)=>if qI (kvs.map (·.2)) then .ok (.ref A.length) (A++[.dct kvs]) else .bad|_=>.bad)
  |w=>if w.nr then .ok w A else .bad)
 |_=>.bad) else .bad
def j7 (f:Fn):Fn:=λus A=>match us with
 |.ref n::us=>(match A[n]? with
  |some (.lst ws)=>if qI ws&&qI us then(match f (.ref 0::us) [.lst ws] with
   |.ok w A1=>(match (List.head? A1:Option O) with
    |some (.lst a)=>if qI a&&w.nr then .ok w (A.set n (.lst a)) else .bad|_=>.bad)
   |_=>.bad) else .bad
  |_=>.bad)
 |_=>.bad
section
variable {K:Frag}{φ' φ1:bH}{H' H1:Hp}{A A1:Hx}
mutual
theorem RV.nrm (tp:∀a vs,qA K H a vs->qA K H' a vs)(fz:∀a o u,H a=some (.frz o u)->H' a=some (.frz o u)):∀{w:W}{v:V},w.nr=true->RV K φ H w v->RV K φ' H' w v
 |.non,_,_,h=>h|.bl _,_,_,h=>h|.int _,_,_,h=>h|.str _,_,_,h=>h|.tup ws,_,n,⟨a,vs,e,t,r⟩=>⟨a,vs,e,tp _ _ t,zL.nrm tp fz n r⟩|.ref _,_,n,_=>nomatch n
 |.clo _ ws P,_,n,⟨a,ob,u,c,g,U,vs,e,d,b,i,r⟩=>⟨a,ob,u,c,g,U,vs,e,fz _ _ _ d,fz _ _ _ b,i,zL.nrm tp fz n r⟩|.xc _,_,_,⟨a,f,u,C,e,d,b⟩=>⟨a,f,u,C,e,fz _ _ _ d,b⟩
theorem zL.nrm (tp:∀a vs,qA K H a vs->qA K H' a vs)(fz:∀a o u,H a=some (.frz o u)->H' a=some (.frz o u)):∀{ws:List W}{vs:List V},qI ws=true->zL K φ H ws vs->zL K φ' H' ws vs
 |[],_,_,h=>h|w::ws,_,n,⟨v,r,e,h,t⟩=>by
  have N:(w.nr&&qI ws)=true:=n;rw[aq]at N;exact⟨v,r,e,RV.nrm tp fz N.1 h,zL.nrm tp fz N.2 t⟩
end
def zU.none:zU K [] [] H:=⟨rfl,λi j a o o' _ _ h=>by simp at h,λn o h=>by simp at h⟩
def zU.frame (S:zU K φ A H)(k:∀a o,H a=some o->H1 a=some o)(l:Le K φ H φ H1):zU K φ A H1:=
 ⟨S.len,S.inj,λn o e=>let ⟨a,h1,q⟩:=S.ob n o e;⟨a,h1,q.keep l λu h=>k a u h⟩⟩
def Le.apart (l:Le K [] H φ1 H1):Le K φ H φ H1/\∀a o,H a=some o->H1 a=some o:=
 have k:∀a o,H a=some o->H1 a=some o:=λa o h=>l.fr a o h λn e=>by simp at e
 ⟨⟨λ_ _ h=>h,l.tp,λa o h _=>k a o h,λ_ _ h=>.inl h,l.st,l.fz⟩,k⟩
def zU.trackN {u:HO}{o:O}(S:zU K φ A H)(I:H D=some u)(n:∀(k:Nat)(q:O),φ[k]? =some D->A[k]? =some q->q.mut=false)(new:OR K (φ++[D]) H D o):zU K (φ++[D]) (A++[o]) H:=by
 have l:Zd K φ H (φ++[D]) H:=⟨λn a h=>by
  have:=(bY.mp h).1
  rw[ah this];exact h,λ_ _ h=>h,λ_ _ _ h=>h⟩
 have old:∀(i:Nat) a,(φ++[D])[i]? =some a->i<A.length->φ[i]? =some a:=λi a e f=>by
  rw[ah (by rw[S.len];exact f)]at e;exact e
 have last:∀a,(φ++[D])[A.length]? =some a->a=D:=λa e=>by
  rw[ax (by rw[S.len];exact ao _),S.len]at e
  simpa using e.symm
 refine⟨by simp[S.len],λi j a C B y w g b m1 m2=>?_,λk o' e=>?_⟩
 ·by_cases f:i<A.length
  ·rw[ah f]at g
   by_cases c:j<A.length
   ·rw[ah c]at b
    exact S.inj i j a C B (old i a y f) (old j a w c) g b m1 m2
   ·exfalso
    have s:j=A.length:=by have:=(bY.mp b).1;simp at this;omega
    subst s;have z:=n i C (by rw[<- last a w];exact old i a y f) g
    rw[m1]at z;cases z
  ·have v:i=A.length:=by have:=(bY.mp g).1;simp at this;omega
   by_cases c:j<A.length
   ·exfalso
    rw[ah c]at b;subst v;have z:=n j B (by rw[<- last a y];exact old j a w c) b
    rw[m2]at z;cases z
   ·have:=(bY.mp b).1;simp at this;omega
 ·by_cases hn:k<A.length
  ·rw[ah hn]at e
   obtain⟨a,E,q⟩:=S.ob k o' e;refine⟨a,l.ex _ _ E,?_⟩;cases o' with
   |lst ws=>obtain⟨vs,z,r⟩:=q;exact⟨vs,z,r.monoW l⟩|dct ws=>obtain⟨vs,z,Z,r⟩:=q;exact⟨vs,z,Z,r.monoW l⟩|td _=>obtain⟨vs,z,Z,t,r⟩:=q;exact⟨vs,z,Z,λx m=>l.tp _ _ (t x m),r.monoW l⟩|tr _=>obtain⟨ob,u,vs,z,d,Z,t,r⟩:=q;exact⟨ob,u,vs,z,d,Z,λx m=>l.tp _ _ (t x m),r.monoW l⟩|tab _ _=>exact q|ro ws=>obtain⟨vs,z,r⟩:=q;exact⟨vs,z,r.monoW l⟩
  ·have p:k=A.length:=by have:=(bY.mp e).1;simp at this;omega
   subst p;rw[ax (ao _)]at e;simp at e;subst e;exact⟨D,by rw[ax (by rw[S.len];exact ao _),S.len];simp,new⟩
def zU.adopt {o:O}(S:zU K φ A H)(l:Le K [] H φ1 H1)(d:φ1[n]? =some a)(m:∃u,H1 a=some u)(new:OR K (φ++[a]) H1 a o):
  Le K φ H (φ++[a]) H1/\zU K (φ++[a]) (A++[o]) H1/\RV K (φ++[a]) H1 (.ref A.length) (.ref a):=by
 obtain⟨L,k⟩:=l.apart (φ:=φ);have h0:H a=Option.none:=by
  rcases l.nw n a d with e|e
  ·simp at e
  ·exact e
 obtain⟨u,b⟩:=m;have s:=S.frame k L;refine⟨L.track h0,s.trackN b (λk q g f=>?_) new,a,rfl,by rw[<- S.len];simp⟩
 cases c:q.mut with
 |false=>rfl|true=>
  obtain⟨i,E,r⟩:=S.ob k q f;rw[g]at E;cases E;obtain⟨z,h,_⟩:=r.there c;rw[h0]at h;cases h
def OR.nrL {ws:List W}(h:OR K φ H a (.lst ws))(n:qI ws=true):OR K φ' H a (.lst ws):=let ⟨vs,e,r⟩:=h;⟨vs,e,r.nrm (λ_ _ t=>t) (λ_ _ _ t=>t) n⟩
def OR.nrD {kvs:List (Key×W)}(h:OR K φ H a (.dct kvs))(n:qI (kvs.map (·.2))=true):OR K φ' H a (.dct kvs):=let ⟨vs,e,E,r⟩:=h;⟨vs,e,E,r.nrm (λ_ _ t=>t) (λ_ _ _ t=>t) n⟩
theorem zG.iso {k:Nat}{f:Fn}(F:zG P w K mg base k x n f):zG P w K mg base k x n (iso f):=by
 obtain⟨C,fd,ps,F,a,b,c⟩:=F;refine⟨C,fd,ps,F.imp λvs H Q E ⟨z,φ,A,ws,S,r,q⟩=>?_,a,b,c⟩;unfold Mi.iso at q
 by_cases hn:qI ws=true
 ·rw[ag hn]at q
  refine⟨z,[],[],ws,zU.none,r.nrm (λ_ _ t=>t) (λ_ _ _ t=>t) hn,?_⟩;cases hf:f ws [] with
  |ok w A1=>
   rw[hf]at q;dsimp only at q;intro u H1 v L D g;cases w with
   |ref m=>
    dsimp only at q;cases hm:A1[m]? with
    |none=>rw[hm]at q;exact q.elim|some o=>
     rw[hm]at q;obtain⟨I,i,d⟩:=D.ob m o hm;obtain⟨a2,rfl,e⟩:=g;rw[i]at e;cases e;cases o with
     |lst us=>
      dsimp only at q
      by_cases h:qI us=true
      ·rw[ag h]at q
       obtain⟨t,ht,_⟩:=d.there rfl;obtain⟨p,j,B⟩:=S.adopt L i ⟨t,ht⟩ (o:=.lst us) (d.nrL h);exact q _ _ _ p j B
      ·rw[aj h]at q;exact q.elim
     |dct us=>
      dsimp only at q
      by_cases h:qI (us.map (·.2))=true
      ·rw[ag h]at q
       obtain⟨t,ht,_⟩:=d.there rfl;obtain⟨p,j,B⟩:=S.adopt L i ⟨t,ht⟩ (o:=.dct us) (d.nrD h);exact q _ _ _ p j B
      ·rw[aj h]at q;exact q.elim
     |ro us=>exact q.elim|td _=>exact q.elim|tr _=>exact q.elim|tab _ _=>exact q.elim
   |_=>
    all_goals
     dsimp only at q;obtain⟨l,s⟩:=L.apart (φ:=φ)
     first
      |exact q φ H1 v l (S.frame s l) g
      |(
        split at q
        ·rename_i hw
         exact q φ H1 v l (S.frame s l) (RV.nrm (λ_ _ t=>t) (λ_ _ _ t=>t) hw g)
        ·exact q.elim)
  |exc y A1=>rw[hf]at q;exact q.elim|bad=>rw[hf]at q;exact q.elim
 ·rw[aj hn]at q;exact q.elim
theorem zG.j7 {k:Nat}{f:Fn}(F:zG P w K mg base k x n f):zG P w K mg base k x n (j7 f):=by
 obtain⟨fa,fd,ps,F,a,b,c⟩:=F;refine⟨fa,fd,ps,F.imp λvs H Q E ⟨hl,φ,A,ws,S,r,q⟩=>?_,a,b,c⟩;unfold Mi.j7 at q;cases ws with
 |nil=>exact q.elim|cons w0 us=>cases w0 with
  |ref n=>
   dsimp only at q;cases l:A[n]? with
   |none=>rw[l]at q;exact q.elim|some o=>cases o with
    |lst xs=>
     rw[l]at q;dsimp only at q
     by_cases hn:(qI xs&&qI us)=true
     ·rw[ag hn]at q
      rw[aq]at hn;obtain⟨v0,vr,rfl,q0,qr⟩:=r;obtain⟨p,Y,rfl,f1,g1,g⟩:=S.lst q0 l;have S0:zU K [p] [.lst xs] H:=by
       refine⟨rfl,λi j a o o' J I X T _ _=>?_,λm o e=>?_⟩
       ·have:=(bY.mp J).1
        have:=(bY.mp I).1
        simp at*;omega
       ·have:m=0:=by have:=(bY.mp e).1;simp at this;omega
        subst this;simp at e;subst e;exact⟨p,rfl,Y,g1,g.nrm (λ_ _ t=>t) (λ_ _ _ t=>t) hn.1⟩
      refine⟨hl,[p],[.lst xs],.ref 0::us,S0,.cons ⟨p,rfl,rfl⟩ (qr.nrm (λ_ _ t=>t) (λ_ _ _ t=>t) hn.2),?_⟩;cases hf:f (.ref 0::us) [.lst xs] with
      |ok w A1=>
       rw[hf]at q;dsimp only at q;intro B H1 v L S1 q1;cases h0:List.head? A1 with
       |none=>rw[h0]at q;exact q.elim|some o=>cases o with
        |lst zs=>
         rw[h0]at q;dsimp only at q
         by_cases hw:(qI zs&&w.nr)=true
         ·rw[ag hw]at q
          rw[aq]at hw;have apart:∀a o,a≠p->H a=some o->H1 a=some o:=λa o ne h=>L.fr a o h λm e=>by
           have:m=0:=by have:=(bY.mp e).1;simp at this;omega
           subst this;simp at e;exact ne e.symm
          have lf:Le K φ H φ H1:=⟨λ_ _ h=>h,L.tp,λa o h nn=>apart a o (λe=>nn n (by rw[e];exact f1)) h,λ_ _ h=>.inl h,L.st,L.fz⟩
          have hp:B[0]? =some p:=L.ex 0 p rfl;obtain⟨p',s,U,M,D⟩:=S1.ob 0 _ (by rw[<- List.head?_eq_getElem?];exact h0)
          rw[hp]at s;cases s;refine q φ H1 v lf ?_ (RV.nrm (λ_ _ t=>t) (λ_ _ _ t=>t) hw.2 q1);have mt:∀(i:Nat)(w:O),(A.set n (.lst zs))[i]? =some w->w.mut=true->∃N,A[i]? =some N/\N.mut=true:=λi w e mw=>by
           by_cases hi:i=n
           ·subst hi;exact⟨_,l,rfl⟩
           ·rw[aF (Ne.symm hi)]at e;exact⟨w,e,mw⟩
          refine⟨by simp[S.len],λi j a o1 o2 J I X T m1 m2=>?_,λi w e=>?_⟩
          ·obtain⟨w1,s,k1⟩:=mt i o1 X m1
           obtain⟨Z,M,k2⟩:=mt j o2 T m2;exact S.inj i j a w1 Z J I s M k1 k2
          ·by_cases hi:i=n
           ·subst hi
            have:i<A.length:=(bY.mp l).1
            rw[aC this]at e;cases e;exact⟨p,f1,U,M,D.nrm (λ_ _ t=>t) (λ_ _ _ t=>t) hw.1⟩
           ·rw[aF (Ne.symm hi)]at e
            obtain⟨a,s,C⟩:=S.ob i w e;refine⟨a,s,?_⟩
            by_cases hm:w.mut=true
            ·have ne:a≠p:=λz=>hi (S.inj i n a w _ s (by rw[z];exact f1) e l hm rfl)
             exact C.keep lf λz hz=>apart a z ne hz
            ·cases w with
             |lst _=>exact absurd rfl hm|dct _=>exact absurd rfl hm|td _=>exact absurd rfl hm|tr _=>obtain⟨ob,u,vs,q,d,k,t,r⟩:=C;exact⟨ob,u,vs,lf.fz _ _ _ q,d,k,λx hx=>lf.tp _ _ (t x hx),r.mono lf⟩|tab _ _=>exact absurd rfl hm|ro ws=>
              obtain⟨vs,g,D⟩:=C;refine⟨vs,?_,D.mono lf⟩;rcases g with ⟨ob,g⟩|g
              ·refine .inl ⟨ob,apart a _ ?_ g⟩
               intro z;subst z;rw[g1]at g;cases g
              ·exact .inr g
         ·rw[aj hw]at q;exact q.elim
        |_=>rw[h0]at q;exact q.elim
      |exc y A1=>rw[hf]at q;exact q.elim|bad=>rw[hf]at q;exact q.elim
     ·rw[aj hn]at q;exact q.elim
    |_=>rw[l]at q;exact q.elim
  |_=>exact q.elim
end
section
variable {K:Frag}{a b:Expr}{es:bM}{m:Ev}{st:Stmt}
noncomputable def Qn:Ex:=λ_ _=>.bad
noncomputable def intsOf:List W->Option (bF)
 |[]=>some []|w::ws=>match w with
  |.int i=>match intsOf ws with
   |some is=>some (i::is)|none=>none
  |_=>none
theorem G8:∀{ws:List W}{ns:bF},intsOf ws=some ns->ws=ns.map W.int
 |[],_,e=>by cases e;rfl|w::ws,ns,e=>by
  unfold intsOf at e;cases w with
  |int i=>
   dsimp only at e;cases E:intsOf ws with
   |none=>rw[E]at e;cases e|some is=>rw[E]at e;cases e;rw[G8 E];rfl
  |_=>cases e
noncomputable def j6:List Int->Int->Int
 |[],m=>m|i::is,m=>j6 is (if i > m then i else m)
noncomputable def yQ:List Int->Int->Int
 |[],m=>m|i::is,m=>yQ is (m+i)
def preSum_eq (ns:bF):∀k,preSum (λi=>ns.getD i 0) k+yQ (ns.drop k) 0=yQ ns 0∨ns.length<k:=by
 have add:∀(l:bF)(m:Int),yQ l m=m+yQ l 0:=λl=>by
  induction l with
  |nil=>intro m;show m=m+0;omega|cons i is I=>intro m;show yQ is (m+i)=m+yQ is (0+i);rw[I (m+i),I (0+i)];omega
 intro k
 induction k with
 |zero=>left;show(0:Int)+yQ ns 0=_;omega|succ k I=>
  rcases I with I|I
  ·by_cases h:k<ns.length
   ·left
    have e:ns.drop k=ns[k]::ns.drop (k+1):=bf h;rw[e]at I;have a:yQ (ns[k]::ns.drop (k+1)) 0=ns[k]+yQ (ns.drop (k+1)) 0:=by show yQ (ns.drop (k+1)) (0+ns[k])=_;rw[add];omega
    rw[a]at I;show preSum _ k+ns.getD k 0+_=_;have E:ns.getD k 0=ns[k]:=by rw[aa,ab h];rfl
    rw[E];omega
   ·right;omega
  ·right;omega
def Ic (ns:bF):preSum (λi=>ns.getD i 0) ns.length=yQ ns 0:=by
 rcases preSum_eq ns ns.length with h|h
 ·rw[drop_length]at h
  have:yQ [] 0=0:=rfl
  omega
 ·omega
def HE (ns:bF):∀(k:Nat)(a:k<ns.length),j6 (ns.drop (k+1)) (ns.getD (argBest (λi j=>decide (ns.getD i 0 > ns.getD j 0)) k) 0)=j6 ns.tail (ns.getD 0 0):=by
 intro k
 induction k with
 |zero=>intro _;rw[show argBest _ 0=0 from rfl,List.drop_one]|succ k I=>
  intro a;have H:k<ns.length:=by omega
  rw[<- I H];have e:ns.drop (k+1)=ns[k+1]::ns.drop (k+1+1):=bf a;rw[e];have E:ns.getD (k+1) 0=ns[k+1]:=by rw[aa,ab a];rfl
  show j6 _ (ns.getD (if decide (ns.getD (k+1) 0 > ns.getD (argBest _ k) 0)=true then k+1 else argBest _ k) 0)=j6 _ (if ns[k+1] > ns.getD (argBest _ k) 0 then ns[k+1] else ns.getD (argBest _ k) 0);rw[E]
  by_cases h:ns[k+1] > ns.getD (argBest (λi j=>decide (ns.getD i 0 > ns.getD j 0)) k) 0
  ·rw[ag (by rw[ai];exact h),ag h,E]
  ·rw[aj (by rw[ai];exact h),aj h]
noncomputable def Wi (K:Frag)(C:List Int->Prop)(f:List Int->Int):List V->Hp->VK->Prop:=λxs H Q=>∃a ns,xs=[.ref a]/\(qV K H a (ns.map V.int)∨qA K H a (ns.map V.int))/\C ns/\Q (.int (f ns)) H
def Kz (r:Vals (ns.map V.int) its){v:Value}(h:its[i]? =some v):∃t,v=.int (ns.getD i 0) t:=by
 have c:i<its.length:=(bY.mp h).1;have H:i<ns.length:=by have:=r.length;rw[ae]at this;omega
 obtain⟨u,a,b⟩:=r.get (i:=i) (x:=V.int ns[i]) (by simp[H])
 rw[h]at a;cases a;obtain⟨t,rfl⟩:=b;exact⟨t,by rw[aa,ab H];rfl⟩
def IP (f:X.calm=true):yv X (.builtin "sum") (Wi X.K (λ_=>True) λns=>yQ ns 0):=by
 intro pins s σ H xs us Q I r h;obtain⟨a,ns,rfl,z,_,q⟩:=h;obtain⟨u,rfl,d⟩:=vals1 r;cases d;refine call_sum_walkG (Kx I f z λb g fp wr S s2 c j W st p back=>?_);refine⟨g,fp,wr,_,_,S,λi=>ns.getD i 0,rfl,W,st,p,λi v h=>Kz c h,λh' t t' k=>?_⟩;have e:b.length=ns.length:=by have:=c.length;rw[ae]at this;omega
 rw[e,Ic];exact⟨.int _,H,back h' t k,⟨_,rfl⟩,q⟩
def HG (o:X.calm=true):yv X (.builtin "max") (Wi X.K (λns=>ns≠[]) λns=>j6 ns.tail (ns.getD 0 0)):=by
 intro pins s σ H xs us Q I r h;obtain⟨a,ns,rfl,z,f,q⟩:=h;obtain⟨u,rfl,m⟩:=vals1 r;cases m;have N:0<ns.length:=List.length_pos_iff.mpr f;refine call_max_walk (Kx I o z λd D fp wr S s2 c M W st p back=>?_);have e:d.length=ns.length:=by have:=c.length;rw[ae]at this;omega
 refine⟨D,fp,wr,_,_,S,λi j=>decide (ns.getD i 0 > ns.getD j 0),rfl,W,st,p,by omega,?_,λv h' T n k=>?_⟩
 ·intro i j L J l Q' E B y x
  obtain⟨t1,rfl⟩:=Kz c B;obtain⟨g,rfl⟩:=Kz c y;exact(PyProof.Rows.gt_int x:wpAny (model X.prog X.w) X.A.in1 (compareOp .Gt (.int (ns.getD i 0) t1) (.int (ns.getD j 0) g)) Q' E l)
 ·obtain⟨t,rfl⟩:=Kz c n
  rw[e];have b:=HE ns (ns.length-1) (by omega)
  rw[show ns.length-1+1=ns.length by omega,drop_length]at b
  have C:ns.getD (argBest (λi j=>decide (ns.getD i 0 > ns.getD j 0)) (ns.length-1)) 0=j6 ns.tail (ns.getD 0 0):=b;rw[C];exact⟨.int _,H,back h' T k,⟨_,rfl⟩,q⟩
def yY:List W->Hx->R W:=λws A=>match intsOf ws with
 |some (i::is)=>.ok (.int (j6 is i)) A|_=>.bad
def jX:List W->Hx->R W:=λws A=>match intsOf ws with
 |some is=>.ok (.int (yQ is 0)) A|none=>.bad
def Bt:∀ws A,qT (yY ws A):=λws A=>by
 unfold yY;split
 ·exact jR
 ·exact jh
def CV:∀ws A,qT (jX ws A):=λws A=>by
 unfold jX;split
 ·exact jR
 ·exact jh
def Sx {ws:List W}{a:Addr}(z:qV K H a ys∨qA K H a ys)(r:zL K φ H ws ys)(e:intsOf ws=some ns):qV K H a (ns.map V.int)∨qA K H a (ns.map V.int):=by
 rw[G8 e]at r;rw[<- zL.ints.mp r];exact z
def Df:ZH K (Wi K (λns=>ns≠[]) λns=>j6 ns.tail (ns.getD 0 0)) yY:=λφ A H a y ws Q S z r p=>by
 unfold yY at p;cases e:intsOf ws with
 |none=>rw[e]at p;exact p.elim|some ns=>cases ns with
  |nil=>rw[e]at p;exact p.elim|cons i is=>rw[e]at p;exact⟨a,i::is,rfl,Sx z r e,(by intro z;cases z),p φ H _ .refl S rfl⟩
def DP:ZH K (Wi K (λ_=>True) λns=>yQ ns 0) jX:=λφ A H a y ws Q S z r p=>by
 unfold jX at p;cases e:intsOf ws with
 |none=>rw[e]at p;exact p.elim|some ns=>rw[e]at p;exact⟨a,ns,rfl,Sx z r e,trivial,p φ H _ .refl S rfl⟩
def ZD (y:W):List W->Nat->Nat
 |[],n=>n|w::ws,n=>ZD y ws (if Ju w y then n+1 else n)
theorem Xt (y:W):∀(ws:List W)(n:Nat),ZD y ws n=n+ws.countP λw=>Ju w y
 |[],n=>by simp[ZD]|w::ws,n=>by
  show ZD y ws _=_;rw[Xt y ws,countP_cons]
  by_cases h:Ju w y=true
  ·rw[ag h,ag h];omega
  ·rw[aj h,aj h];omega
def Yj:W->W->Hx->R W:=λx y A=>match x with
 |.tup ws=>if yd y&&ws.all yd then .ok (.int (ZD y ws 0)) A else .bad|_=>.bad
def BU (K:Frag):V->List V->Hp->VK->Prop:=λx vs H Q=>∃a xs y,x=.ref a/\vs=[y]/\qA K H a xs/\ki y=true/\xs.all ki=true/\Q (.int (xs.countP λz=>wd z y)) H
theorem GU {y:V}:∀{xs:List V}{us:bG},Vals xs us->xs.all ki=true->us.countP (wA y)=xs.countP λz=>wd z y
 |_,_,.nil,_=>rfl|_,_,.cons r t,h=>by
  rw[all_cons,aq]at h;rw[countP_cons,countP_cons,GU t h.2,XJ r h.1]
def FC:Jz X "tuple.count" (BU X.K):=by
 intro pins s σ H x vs v us Q I b d h;obtain⟨a,xs,y,rfl,rfl,ht,j,f,q⟩:=h;cases b;obtain⟨u,rfl,e⟩:=d.one;obtain⟨i,r,pp,_⟩:=I.tuple ht;obtain⟨⟨cls,D,data,S⟩,o,c,n,hd⟩:=id pp;simp only at c hd;subst c hd;refine call_meets F.slot_tuple_count ⟨_,o,rfl⟩ F.entry_tuple_count (F.args_tuple_count_2 _ _) (SeqAt.tuple_countAt a i.toArray n D S u (wA y)) ⟨o,λz g=>J5 e j r f z (by simpa using g),?_⟩
 refine⟨.int _,H,I.tok _,⟨_,rfl⟩,?_⟩;rw[<- GU r f]at q;simpa using q
noncomputable def K2 (g:W->W->Hx->R W)(a b:Ev):Ev:=λρ A=>(a ρ A).bind λx A1=>match x with
 |.tup ws=>(b ρ A1).bind λy A2=>g (.tup ws) y A2|_=>.bad
noncomputable def cW (K:Frag)(r:V->List V->Hp->VK->Prop)(to:TE)(t:TA):TE:=λσ H Q=>to σ H λx H1=>∃p y,x=.ref p/\qA K H1 p y/\t σ H1 λxs h=>r x xs h Q
def AW {o:Expr}{to:TE}{t:TA}{name:Str}{id:String}{r:V->List V->Hp->VK->Prop}(slot:Slot "tuple" name id)(y:typeOf (.builtin id)=pure (.type "method_descriptor"))(hm:Jz X id r)(m:PE X o to)(u:PA X (e::es) t)
  (c:attributeBase o name X.env (eval o X.env)=eval o X.env)
  (w:((backTo cpos (starEach (e::es) X.env)).all (λx=>!x.1)&&(backToKw cpos (keywordEach [] X.env)).all (λx=>x.1.isSome)
   && decide ((e::es).length+([]:bR).length+(if ([]:bR).isEmpty then 0 else 1)<30))=true)
  (b:(apos.endLine==cpos.line)=true)(l:starEach (e::es) X.env=(false,eval e X.env)::starEach es X.env)(n:(backTo cpos (starEach es X.env)).any (·.1)=false):
  PE X (.Call (.Attribute o name apos) (e::es) [] cpos) (cW X.K r to t):=by
 intro pins s σ H Q I h;refine wpAny_Call_method_late c w b rfl (zY (m pins s σ H _ I h) λv s1 ⟨x,H1,i,f,p,Y,E,ty,g⟩=>?_);subst E;cases f;obtain⟨j,_,pp,_⟩:=i.tuple ty;refine⟨"tuple",id,PySem.F.plainAttrs_tuple,slot,y,pp.typeIs,λa z=>by cases z;exact i.tupleN ty,?_⟩
 have A:=u cpos pins s1 σ H1 _ i g;rw[l]at A ⊢;refine Calls.callWith_builtin (by show(false || (backTo cpos (starEach es X.env)).any (·.1))=false;rw[n];rfl) (Calls.evalArgs_plain ?_)
 exact zY A λus s2 ⟨vs,C,B,d,q⟩=>hm pins s2 σ C (.ref p) vs (.ref p) us Q B rfl d q
theorem GP {x:W}(q:RV K φ H x v)(e:yd x=true):∀{xs:List W}{vs:List V},zL K φ H xs vs->xs.all yd=true->vs.all ki=true/\(vs.countP λz=>wd z v)=xs.countP λz=>Ju z x
 |[],_,r,_=>by cases r;exact⟨rfl,rfl⟩|w::ws,_,⟨y,r,E,h,t⟩,a=>by
  subst E;rw[all_cons,aq]at a;obtain⟨I,i⟩:=GP q e t a.2;refine⟨by rw[all_cons,J3 h a.1,I];rfl,?_⟩
  rw[countP_cons,countP_cons,i,Su h q a.1 e]
variable {c:Expr}
noncomputable def Vv (lo d:Int)(n:Nat):It:=⟨λi _=>i<n,λi H x h=>h=H/\x=.int (lo+i * d),λi _=>n<=i⟩
def LR (it:Addr)(lo d:Int)(n:Nat):Turn P w K tg (Vv lo d n) [it] it (λi h=>IsRangeIter h it (lo+(i:Nat) * d) ((n:Int)-(i:Nat)) d) where
 mem:=by simp
 obj:=λi h st b a=>by
  have p:b=it:=by simpa using a
  subst p;exact⟨_,st,λv z=>nomatch (show Data.fields _=Data.cell v from z)⟩
 keep:=λi h h' st k=>k it (by simp) _ st
 item:=by
  intro X e hw f c i pins s σ H E I hf st g;subst e hw f;obtain⟨f0,f1,f2,l,f4,j⟩:=hf it (by simp)
  have u:=Walks.range (prog:=X.prog) (w:=X.w) (I.ok.hd c) it lo d n;refine u.item i s _ _ g st λv h' T r S q=>?_;obtain⟨t,rfl⟩:=r;have x:Inv X pins σ H { s with heap:=h',toks:=T }:=I.turned (λb o a m=>q b o (by simpa using a) m) f0 f1 l f4 j
  exact⟨_,rfl,K9 (s:={ s with heap:=h',toks:=T }) (n := "range_iterator") S rfl rfl (by decide) ⟨.int (lo+i * d),H,x,⟨t,rfl⟩,⟨rfl,rfl⟩,S,λb a=>(hf b a).1⟩⟩
 done:=by
  intro X e hw f c i pins s σ H E I hf st g;subst e hw f;obtain⟨f0,f1,f2,l,f4,j⟩:=hf it (by simp)
  exact wpAny_pyNext_range_end (I.ok.hd c) st (by have hn:n<=i:=g;omega) λh' p=>⟨rfl,I.turned (t':=s.toks) (λb o a m=>p b o a m) f0 f1 l f4 j⟩
 self:=λ_ _ _ _ _ st h=>wpAny_pyIter_rangeiter st h
def rangeSize_down (x y:Int):Builtin.Range.rangeSize x y (-1)=((x-y).toNat:Int):=by
 unfold Builtin.Range.rangeSize;rw[aj (by decide)]
 split
 ·rw[show -(-1:Int)=1 by rfl,Int.ediv_one];omega
 ·omega
def small_down {x y:Int}(b:-(2 ^ 62)<=x)(a:x<2 ^ 62)(H:-(2 ^ 62)<=y)(h:y<2 ^ 62):Builtin.Range.small x y (-1)=true:=by
 unfold Builtin.Range.small;rw[rangeSize_down];simp only[Builtin.Range.rangeFitsLong,aq,bh,decide_eq_true_eq,aU,show ¬((-1:Int) > 0) by decide,if_false]
 omega
def AJ (t:TA):TI:=λσ H R=>t σ H λvs H1=>∃i j:Int,vs=[.int i,.int j,.int (-1)]/\(-(2 ^ 62)<=i/\i<2 ^ 62/\-(2 ^ 62)<=j/\j<2 ^ 62)/\R (Vv i (-1) (i-j).toNat) H1
def IY {t:TA}(w:Gl X "range")(hm:X.mg "range"=none)(A:PA X [a,b,c] t)(n:starEach [a,b,c] X.env=(false,eval a X.env)::starEach [b,c] X.env)(v:(backTo pos (starEach [b,c] X.env)).any (·.1)=false):
  PI X tg (.Call (.Name "range" p) [a,b,c] [] pos) (AJ t):=by
 intro pins s σ H R I h;refine Call_ (gM I w hm boot_range (PyProof.Rows.callWith_type1 (zY (A pos pins s σ H _ I h) λus s1 ⟨vs,H1,D,f,Q⟩=>?_) n v));obtain⟨i,j,rfl,⟨Q,m,l,g⟩,q⟩:=Q;obtain⟨U,u,rfl,⟨t1,rfl⟩,r⟩:∃U u,us=U::u/\RelV (.int i) U/\Vals [.int j,.int (-1)] u:=by
  cases f with
  |cons x y=>exact⟨_,_,rfl,x,y⟩
 obtain⟨K,J,rfl,⟨T,rfl⟩,⟨t3,rfl⟩⟩:=r.two;refine call_range_3 (by decide) ?_ (.inl (PyProof.noPylong_small (by omega)))
 have d:Inv X pins σ H1 { s1 with heap:=s1.heap.push { cls:=.type "range",data:=.fields #[.int i t1,.int j T,.int (-1) t3] } }:=D.kept (t':=s1.toks) λb o e=>af _ e
 refine wpAny_pyIter_range (IsRange.new ..) (small_down Q m l g) ?_;refine⟨_,[_],_,_,H1,rfl,d.kept (t':=s1.toks) λb o e=>af _ e,LR _ i (-1) (i-j).toNat,?_,λb z=>?_,q⟩
 ·have C:i+((0:Nat):Int) * (-1)=i:=by simp
  have B:(((i-j).toNat:Nat):Int)-((0:Nat):Int)=Builtin.Range.rangeSize i j (-1):=by rw[rangeSize_down];omega
  show IsRangeIter _ _ (i+((0:Nat):Int) * (-1)) ((((i-j).toNat:Nat):Int)-((0:Nat):Int)) (-1);rw[C,B];exact aA _ rfl
 ·have E:=b1.mp z
  subst E;exact d.fpOk (ao _) (d.hok.fresh (ao _))
noncomputable def Jp (h:Int)(n:Nat):jt:=⟨λ_ i=>if i<n then some (some (.int (h-i))) else some none,n⟩
def cX {a:Int}:gA K φ H (Jp a n) (Vv a (-1) n):=λi b d A lw S=>by
 unfold Jp;dsimp only
 by_cases h:i<n
 ·rw[ag h]
  refine⟨λw e=>?_,λe=>by cases e⟩
  cases e;refine⟨h,λx H1 ⟨c,E⟩=>?_⟩;subst c;refine⟨.refl,S,?_⟩;rw[E];show V.int _=V.int _
  congr 1;omega
 ·rw[aj h]
  exact⟨λw e=>(by cases e),λ_=>Nat.le_of_not_lt h⟩
def Yr (m M:Ev):Ei:=λρ A=>(m ρ A).bind λw A1=>(M ρ A1).bind λa A2=>match w,a with
 |.int i,.int j=>if jJ i&&jJ j then .ok (Jp i (i-j).toNat) A2 else .bad|_,_=>.bad
def AX (t:TA):TE:=λσ H Q=>t σ H λvs H1=>∃j:Int,vs=[.int j]/\∀p,H1 p=none->Q (.ref p) (upd H1 p (.rng 0 j))
def Dj {T:TA}(g:Gl X "range")(hm:X.mg "range"=none)(e:PA X [a] T)(d:starEach [a] X.env=[(false,eval a X.env)]):PE X (.Call (.Name "range" p) [a] [] pos) (AX T):=by
 intro pins s σ H Q I h;refine Call_ (gM I g hm boot_range (PyProof.Rows.callWith_type1 (zY (e pos pins s σ H _ I h) λus s1 ⟨vs,H1,i,r,c⟩=>?_) d rfl));obtain⟨j,rfl,q⟩:=c;obtain⟨u,rfl,⟨t,rfl⟩⟩:=r.one;refine call_range_1 ⟨.ref _,_,i.laid (o:=.rng 0 j) (λb o E=>af _ E) (ao _) ?_,rfl,q _ (i.hok.fresh (ao _))⟩;exact⟨_,_,_,aA _ rfl⟩
noncomputable def Qo (n:Nat):List V:=(List.range n).map λ(i:Nat)=>V.int i
def IA (A:X.calm=true):yv X (.type "list") (λxs H Q=>∃(r:Addr) (j:Int),xs=[.ref r]/\H r=some (.rng 0 j)/\(-(2 ^ 62)<=j/\j<2 ^ 62)/\j.toNat<=sizeLine/\∀l,H l=none->Q (.ref l) (upd H l (.lst (Qo j.toNat)))):=by
 intro pins s σ H xs us Q I r h;obtain⟨p,j,rfl,x,⟨D,B⟩,z,q⟩:=h;obtain⟨u,rfl,m⟩:=vals1 r;cases m;obtain⟨t1,g,t3,y⟩:=I.hok p _ x;have E:sizeLine=16777216:=sizeLine_eq;refine PySem.call_list_range (n:=j.toNat) (I.ok.hd A) (show IsRange s.heap p 0 j 1 t1 g t3 from y) (small_one (by omega) (by omega) D B) (by rw[rangeSize_one];split<;>omega) (by omega) λh' T acc C K S ⟨hn,d⟩=>?_
 refine⟨.ref s.heap.objs.size,_,I.laid (t':=T) (o:=.lst (Qo j.toNat)) K (ao _) ?_,rfl,q _ (I.hok.fresh (ao _))⟩;refine⟨by unfold Qo;simpa using z,acc.toList,C,?_,by simpa using S⟩
 have a:∀(l:bG)(k:Nat),(∀(i:Nat) v,l[i]? =some v->∃t,v=.int ((k+i:Nat):Int) t)->Vals ((List.range' k l.length).map λ(i:Nat)=>V.int i) l:=by
  intro l
  induction l with
  |nil=>intro k _;exact .nil|cons v l w=>
   intro k e;rw[bD,range'_succ,aS];refine .cons ?_ (w (k+1) λi f a=>?_)
   ·obtain⟨t,rfl⟩:=e 0 v rfl
    exact⟨t,rfl⟩
   ·obtain⟨t,rfl⟩:=e (i+1) f (by simpa using a)
    exact⟨t,by congr 1;omega⟩
 have b:acc.toList.length=j.toNat:=by simpa using hn
 have:=a acc.toList 0 λi v c=>by
  obtain⟨t,rfl⟩:=d i v (by simpa using c)
  exact⟨t,by congr 1;omega⟩
 rw[b]at this;unfold Qo;rw[range_eq_range'];exact this
def KP (m:Ev):Ev:=λρ A=>(m ρ A).bind λw A1=>match w with
 |.int j=>if jJ j&&decide (j.toNat<=qf) then .ok (.ref A1.length) (A1++[.lst ((List.range j.toNat).map λ(i:Nat)=>W.int i)]) else .bad|_=>.bad
noncomputable def AS:V->V->Hp->VK->Prop:=λo i H Q=>∃p xs k v,o=.ref p/\i=.int k/\0<=k/\H p=some (.lst xs)/\xs[k.toNat]? =some v/\Q v H
def ED:Nf X AS:=by
 intro pins s σ H o i g j Q I ro d h;obtain⟨p,xs,k,v,rfl,rfl,h0,f,e,q⟩:=h;cases ro;obtain⟨t,rfl⟩:=d;obtain⟨a,r,P,z⟩:=I.list (qV.of f);obtain⟨u,b,c⟩:=r.get e;have hn:=Ja;have l:=r.length;have m:k.toNat<a.length:=(bY.mp b).1;exact wpAny_getItem_list P.isList h0 (by omega) (by simpa using b) ⟨v,H,I,c,q⟩
def Yw (mo mi me:Ev):Ex:=λρ A=>(mo ρ A).bind λo A1=>(mi ρ A1).bind λi A2=>match o,i with
 |.ref n,.int k=>if 0<=k then(match (A2[n]?:Option O) with
  |some (.lst ws)=>match ws[k.toNat]? with
   |some (.int x)=>(me ρ A2).bind λy b=>match y with
    |.int y=>(k6 (.ref n) (.int k) (.int (x+y)) b).bind λ_ a=>.ok (.nx ρ) a|_=>.bad
   |_=>.bad
  |_=>.bad) else .bad
 |_,_=>.bad
noncomputable def Je (i j k:Nat):Tg:=λw ρ=>match w with
 |.tup [x,.tup [y,z]]=>some (((ρ.set i (some x)).set j (some y)).set k (some z))|_=>none
end
def jy (k:Bool)(h:Heap)(it a:Addr)(i:Nat):Prop:=if k=true then h.IsListIter it a i else h.IsTupleIter it a i
def jY (k:Bool)(h:Heap)(a:Addr)(items:Array Value):Prop:=if k=true then h.IsList a items else h.IsTuple a items
def yZ (k:Bool)(K:Frag)(H:Hp)(a:Addr)(xs:List V):Prop:=if k=true then qV K H a xs else qA K H a xs
noncomputable def Ql (k:Bool):String:=if k then "list_iterator" else "tuple_iterator"
def jy.ob {k:Bool}{it:Addr}(x:jy k h it a i):∃o,h.get? it=some o/\o.cls=.type (Ql k)/\o.data=.fields #[.ref a,.int i 0]:=by
 cases k<;>exact x
def jy.mk {k:Bool}{it:Addr}(x:∃o,h.get? it=some o/\o.cls=.type (Ql k)/\o.data=.fields #[.ref a,.int i 0]):jy k h it a i:=by
 cases k<;>exact x
def jy.to {k:Bool}{h':Heap}{it:Addr}(x:jy k h it a i)(e:∀o,h.get? it=some o->h'.get? it=some o):jy k h' it a i:=let ⟨o,h1,r⟩:=x.ob;.mk ⟨o,e o h1,r⟩
def jY.ob {k:Bool}(x:jY k h a items):∃o,h.get? a=some o/\o.cls=.type (if k then "list" else "tuple")/\∃n,o.data=.seq items n:=by
 cases k<;>exact x
def jY.to {k:Bool}{h':Heap}(x:jY k h a items)(e:∀o,h.get? a=some o->h'.get? a=some o):jY k h' a items:=by
 cases k with
 |false=>exact let ⟨o,h1,r⟩:=x.ob;⟨o,e o h1,r⟩|true=>exact let ⟨o,h1,r⟩:=x.ob;⟨o,e o h1,r⟩
section
variable {prog:Program}{A:Around}{k:Bool}{it:Addr}
def RY (h:jY k s.heap a items)(H:Q (.ref s.heap.objs.size) { s with heap:=s.heap.push { cls:=.type (Ql k),data:=.fields #[.ref a,.int 0 0] } }):wpAny (model prog w) A (pyIter (.ref a)) Q E s:=by
 cases k with
 |true=>exact wpAny_pyIter_list h H|false=>exact wpAny_pyIter_tuple h H
def KN {x:Value}(hit:jy k s.heap it a i)(l:jY k s.heap a items)(f:items[i]? =some x)
  (g:∀h',jy k h' it a (i+1)->Heap.SameBut it s.heap h'->Q x { s with heap:=h' }):wpAny (model prog w) A (Builtin.SmallTypes.nextOf (.ref it)) Q E s:=by
 cases k with
 |true=>exact wpAny_nextOf_list_item hit l f g|false=>
  have h:s.heap.IsTupleIter it a i:=hit;obtain⟨o,b,e,H⟩:=id h;obtain⟨j,c,_,na,d⟩:s.heap.IsTuple a items:=l;unfold Builtin.SmallTypes.nextOf;refine bU (wpAny_callSpecial?_slot (name:=Str.ofString "__next__") h.typeIs F.slot_tuple_iterator_next (wpAny_call_entry F.slot_tuple_iterator_next h.typeIs F.entry_tuple_iterator_next ?_ (F.args_tuple_iterator_next_1 _)));show wpAny _ _ (field (.ref it) 0 >>= _) _ _ s;refine bU (wpAny_field b H (x:=.ref a) rfl ?_);show wpAny _ _ (if (Value.ref a==Value.none)=true then _ else _) _ _ s;rw[aj (show ¬((Value.ref a==Value.none)=true) from ay)]
  show wpAny _ _ (field (.ref it) 1 >>= _) _ _ s;refine bU (wpAny_field b H (x:=.int i 0) rfl ?_);show wpAny _ _ (seqItems? (.ref a) >>= _) _ _ s;refine bU (wpAny_seqItems c d ?_);simp only[aB,f];refine bU (wpAny_setField b H (by simp) (bV ⟨x,rfl,bV (g _ (.mk ?_) (Heap.SameBut.update ..))⟩))
  exact⟨_,Heap.get?_update_self _ b (Obj.isFreed_of_fields (Obj.data_mapFields H _)),(Obj.cls_mapFields ..).trans e,by rw[Obj.data_mapFields H];simp[rawInt]⟩
def XD (d:A.handled=none)(hit:jy k s.heap it a i)(l:jY k s.heap a items)(g:items[i]? =none)
  (j:∀h' e,Heap.ExtBut it s.heap h'->(∃o,h'.get? e=some o/\o.cls=.type "StopIteration")->E (.ref e) { s with heap:=h' }):wpAny (model prog w) A (Builtin.SmallTypes.nextOf (.ref it)) Q E s:=by
 cases k with
 |true=>exact wpAny_nextOf_list_end d hit l g j|false=>
  have h:s.heap.IsTupleIter it a i:=hit;obtain⟨p,H,n,b⟩:=id h;obtain⟨q,c,_,na,f⟩:s.heap.IsTuple a items:=l;unfold Builtin.SmallTypes.nextOf;refine bU (wpAny_callSpecial?_slot (name:=Str.ofString "__next__") h.typeIs F.slot_tuple_iterator_next (wpAny_call_entry F.slot_tuple_iterator_next h.typeIs F.entry_tuple_iterator_next ?_ (F.args_tuple_iterator_next_1 _)));show wpAny _ _ (field (.ref it) 0 >>= _) _ _ s;refine bU (wpAny_field H b (x:=.ref a) rfl ?_);show wpAny _ _ (if (Value.ref a==Value.none)=true then _ else _) _ _ s;rw[aj (show ¬((Value.ref a==Value.none)=true) from ay)]
  show wpAny _ _ (field (.ref it) 1 >>= _) _ _ s;refine bU (wpAny_field H b (x:=.int i 0) rfl ?_);show wpAny _ _ (seqItems? (.ref a) >>= _) _ _ s;refine bU (wpAny_seqItems c f ?_);simp only[aB,g];refine bU (wpAny_rule (bU (wpAny_setField H b (by simp) ?_)))
  show wpAny _ _ (newExc (.type "StopIteration") [] >>= _) _ _ _;refine bU ?_;simp only[newExc,newTuple];refine bU (wpAny_newObj_type ?_ (by size_fits))
  refine bU (m:=firstArgMember _ _) (wpAny_of_eq (a:=Value.none) (by first|rfl|(simp only[firstArgMember];rfl)) ?_);refine wpAny_newObj_type ?_ (by size_fits)
  simp only[raiseNew];refine bU (wpAny_handled ?_)
  first|rw[show A.in1.handled=none from d]|rw[d]
  refine bU (bV (wpAny_throw ?_));exact j _ _ (((Heap.SameBut.update ..).extBut.push _).push _) ⟨_,aA _ rfl,rfl⟩
def RD (j:A.handled=none)(c:a≠it):Draws prog w A it [it,a] items.size (λi v=>items[i]? =some v) (λi h=>jy k h it a i/\jY k h a items) where
 live:=λ_ _ st=>let ⟨o,g,_⟩:=st.1.ob;⟨o,g⟩
 frame:=λ_ _ _ st d=>⟨st.1.to λo e=>d it (by simp) o e,st.2.to λo e=>d a (by simp) o e⟩
 item:=λi s Q E f st l=>KN st.1 st.2 (x:=items[i]) (by simp[f]) λh' b H=>l _ h' s.toks (by simp[f]) ⟨b,st.2.to λo e=>H.extBut a o c e⟩ H
 done:=λs Q E st m=>XD j st.1 st.2 (by simp) m
end
section
variable {h':Heap}
def _root_.L2.Inv.spun {T:Addr}(I:Inv X pins σ H s)(k:∀b u,b∉fp->s.heap.get? b=some u->h'.get? b=some u)(hf:∀b∈fp,kz X pins H b)(hT:s.heap.objs.size<=T)
  (new:jG X.prog X.w (upd H T o) h' T o):Inv X pins σ (upd H T o) { s with heap:=h',toks:=t' }:=by
 have hn:H T=none:=I.hok.fresh hT;have lt:∀b u,s.heap.get? b=some u->b≠T:=λb u e=>aT (aH (aI e) hT);have N:∀b u,H b=some u->b∉fp:=λb u e z=>by rw[(hf b z).1]at e;cases e
 refine I.step (g':=s.gens) (d':=s.drawn) (ch:=fp) (λb a=>let ⟨_,f1,_,g,f4,f⟩:=hf b a;⟨g,f1,f4,f⟩) (λb o _ _ h e _=>k b o h e) (λb o _ _ h e _=>⟨o.slots,k b o h e⟩)
  (λb o _ e n=>by rw[qF (lt b o e)];exact n) (λb o h e=>⟨o,k b o h e⟩) (λb xs e=>by rw[qF (wg e hn)];exact e) (λb u xs e=>by rw[qF (wg e hn)];exact e)
  (λb ps e=>⟨#[],by rw[qF (wg e hn),e];simp⟩) (λm hm=>?_) (λb u e=>?_) I.bare
 ·obtain⟨o,E,p,d,r⟩:=hm
  exact⟨o,E,p,k _ o (λz=>(hf _ z).2.1 rfl) d,r⟩
 ·by_cases a:b=T
  ·subst a;rw[yn]at e;cases e;exact new
  ·rw[qF a]at e
   refine(I.hok b u e).stay (λc v h q=>k c v ?_ q) (λc q=>by rw[qF (wg q hn)];exact q) λc xs q=>by rw[qF (wg q hn)];exact q
   rcases h with z|z
   ·rw[z];exact N b u e
   ·exact N c _ z
def _root_.L2.Inv.spun0 (I:Inv X pins σ H s)(k:∀b u,b∉fp->s.heap.get? b=some u->h'.get? b=some u)(hf:∀b∈fp,kz X pins H b):Inv X pins σ H { s with heap:=h',toks:=t' }:=by
 have N:∀b u,H b=some u->b∉fp:=λb u e z=>by rw[(hf b z).1]at e;cases e
 refine I.step (g':=s.gens) (d':=s.drawn) (ch:=fp) (λb d=>let ⟨_,f1,_,g,f4,f⟩:=hf b d;⟨g,f1,f4,f⟩) (λb o _ _ h e _=>k b o h e) (λb o _ _ h e _=>⟨o.slots,k b o h e⟩)
  (λb o _ e n=>n) (λb o h e=>⟨o,k b o h e⟩) (λb xs e=>e) (λb u xs e=>e) (λb ps e=>⟨#[],by rw[e];simp⟩) (λm hm=>?_) (λb u e=>?_) I.bare
 ·obtain⟨o,E,p,a,r⟩:=hm
  exact⟨o,E,p,k _ o (λz=>(hf _ z).2.1 rfl) a,r⟩
 ·refine(I.hok b u e).stay (λc v h q=>k c v ?_ q) (λc q=>q) λc xs q=>q
  rcases h with z|z
  ·rw[z];exact N b u e
  ·exact N c _ z
def _root_.L2.Inv.sq {k:Bool}(I:Inv X pins σ H s)(h:yZ k X.K H a xs):∃i:bG,Vals xs i/\jY k s.heap a i.toArray/\xs.length<=sizeLine:=by
 cases k with
 |true=>obtain⟨i,r,p,z⟩:=I.list h;exact⟨i,r,p.isList,z⟩|false=>obtain⟨i,r,p,z⟩:=I.tuple h;exact⟨i,r,(show s.heap.IsTuple a i.toArray from p),z⟩
def _root_.L2.Inv.sq_inj {k:Bool}(I:Inv X pins σ H s)(h:yZ k X.K H a xs)(h':yZ k X.K H a ys):xs=ys:=by
 cases k with
 |true=>exact I.list_inj h h'|false=>exact I.tuple_inj h h'
end
def Vu (k:Bool)(K:Frag)(a:Addr):It:=
 ⟨λi H=>∃xs x,yZ k K H a xs/\xs[i]? =some x,λi H x h=>∃p y,(∀xs,yZ k K H a xs->xs[i]? =some y)/\H p=none/\x=.ref p/\h=upd H p (.tup [.int i,y]),λi H=>∃xs,yZ k K H a xs/\xs.length=i⟩
def Hr {K:Frag}(k:Bool)(a n it:Addr):Turn P w K (.Tuple elts kk tpos) (Vu k K a) [n,it] n (λi h=>(∃old,IsEnum h n it i old)/\jy k h it a i/\n≠it) where
 mem:=by simp
 obj:=λi h st b f=>by
  obtain⟨⟨old,he⟩,g,_⟩:=st;rcases b0.mp f with rfl|f
  ·exact⟨_,he,λv z=>nomatch z⟩
  ·rw[b1.mp f]
   obtain⟨o,Q,_,hd⟩:=g.ob;exact⟨o,Q,λv z=>by rw[hd]at z;cases z⟩
 keep:=λi h h' ⟨⟨old,he⟩,g,ne⟩ kp=>⟨⟨old,kp n (by simp) _ he⟩,g.to λo p=>kp it (by simp) o p,ne⟩
 item:=by
  intro X hP hw hK hc i pins s σ H E I hf st U;subst hP hw hK;obtain⟨⟨old,he⟩,g,ne⟩:=st;obtain⟨xs,x,C,B⟩:=U;obtain⟨d,D,r,hz⟩:=I.sq C;obtain⟨u,hu,ru⟩:=D.get B;have S:i<d.toArray.size:=by simpa using (bY.mp hu).1
  obtain⟨oa,j,hca,na,e⟩:=r.ob;have A:a≠it:=λz=>by
   obtain⟨oi,c,Z,m⟩:=g.ob;rw[<- z,j]at c;cases c;rw[m]at e;cases e
  have ane:n≠a:=λz=>by
   have t:s.heap.get? a=_:=z ▸ he;rw[j]at t;cases t;cases e
  refine wpAny_pyNext_enum_itemD (RD (k:=k) (items:=d.toArray) (I.ok.hd hc) A) he ⟨g,r⟩ S ne (by simp[ne,ane]) λy h1 T J Q N hT hsz hk=>?_
  have ey:y=u:=by
   have:d[i]? =some y:=by simpa using J
   rw[hu]at this;exact(aD this).symm
  subst ey;refine⟨_,rfl,wpAny_letOwnedTupleGo_enum Q λh2 Y l=>?_⟩;have L:n<s.heap.objs.size:=aI he;have hT2:h2.get? s.heap.objs.size=some { cls:=.type "tuple",data:=.seq #[.int i T,y] }:=l.extBut _ _ (ne_of_gt L) hT;refine⟨.ref s.heap.objs.size,upd H s.heap.objs.size (.tup [.int i,x]),?_,rfl,⟨s.heap.objs.size,x,λys J=>by rw[I.sq_inj J C];exact B,I.hok.fresh (ao _),rfl,rfl⟩,⟨⟨_,by simpa using Y⟩,?_,ne⟩,λb f=>?_⟩
  ·refine I.spun (fp:=[n,it]) (t':=T+1) (λb o f p=>?_) hf (ao _) ?_
   ·exact l.extBut _ _ (λz=>f (by simp[z])) (hk b o (λz=>f (by simp[z])) (λz=>f (by simp[z])) p)
   ·exact⟨by show 2<=sizeLine;decide,[.int i T,y],.cons ⟨T,rfl⟩ (.cons ru .nil),_,hT2,⟨rfl,rfl⟩,0,rfl⟩
  ·exact N.1.to λo p=>l.extBut _ _ (λz=>ne z.symm) p
  ·have bn:b≠s.heap.objs.size:=λz=>by
    rcases b0.mp f with q|q
    ·exact absurd L (by rw[<- q,z];exact aW _)
    ·obtain⟨oi,c,_⟩:=g.ob
     exact absurd (aI c) (by rw[<- b1.mp q,z];exact aW _)
   show upd H s.heap.objs.size _ b=none;rw[qF bn];exact(hf b f).1
 done:=by
  intro X hP hw hK hc i pins s σ H E I hf st U;subst hP hw hK;obtain⟨⟨old,he⟩,g,ne⟩:=st;obtain⟨xs,C,B⟩:=U;obtain⟨d,D,r,hz⟩:=I.sq C;have en':d.toArray.size=i:=by rw[az,<- D.length];exact B
  obtain⟨oa,j,hca,na,e⟩:=r.ob;have A:a≠it:=λz=>by
   obtain⟨oi,c,Z,m⟩:=g.ob;rw[<- z,j]at c;cases c;rw[m]at e;cases e
  refine wpAny_pyNext_enum_endD (RD (k:=k) (items:=d.toArray) (I.ok.hd hc) A) he ⟨by rw[en'];exact g,r⟩ λh1 M=>⟨rfl,?_⟩
  exact I.spun0 (fp:=[n,it]) (t':=s.toks) (λb o f p=>M b o (λz=>f (by simp[z])) p) hf
 self:=λ_ _ _ _ _ ⟨⟨_,he⟩,_⟩ h=>wpAny_pyIter_enum he h
open AutoSeq1 (wpAny_loadPart')
abbrev WB (h:Heap)(k:Bool)(a:Addr):Heap:=h.push { cls:=.type (Ql k),data:=.fields #[.ref a,.int 0 0] }
abbrev Ni (h:Heap)(k:Bool)(a:Addr):Heap:=(WB h k a).push { cls:=.type "enumerate",data:=.fields #[.none,.bool false,.ref h.objs.size,rawInt 0,.none,.none] }
def L3 (a:Addr)(items:Array Value)(n:Nat)(D:bS)(S:Array (Option Value)):
  Meets (Builtin.«enumerate.__new__» ⟨[.type "enumerate",.ref a],[]⟩) (λ_ R s=>s.heap.get? a=some { cls:=.type "tuple",dict:=D,data:=.seq items n,slots:=S }/\R (.ok (.ret (.ref (WB s.heap false a).objs.size))) { s with heap:=Ni s.heap false a }):=
 .of_wp λprog w A R s h=>by
  obtain⟨p,g,d,t,os⟩:=s;obtain⟨H,h⟩:=h;have b:=sub_enumerate;have hT:Heap.IsTuple (Shared.heap ⟨p,g,d,t,os⟩) a items:=⟨_,H,rfl,n,rfl⟩
  wp_walk using wpAny_loadPart' H
  refine wpAny_stack_any λst=>bV ?_;split
  ·rename_i c _ _ _ _ _
   cases (c==Value.type "enumerate")<;>(wp_walk using wpAny_loadPart' H,wpAny_pyIter_tuple hT;exact⟨_,rfl,h⟩)
  ·wp_walk using wpAny_loadPart' H,wpAny_pyIter_tuple hT
   exact⟨_,rfl,h⟩
section
variable {prog:Program}{A:Around}
def IW {k:Bool}(l:jY k s.heap a items)
  (h:∀h',IsEnum h' (s.heap.objs.size+1) s.heap.objs.size 0 .none->jy k h' s.heap.objs.size a 0->(∀b o,s.heap.get? b=some o->h'.get? b=some o)->Q (.ref (s.heap.objs.size+1)) { s with heap:=h' }):
  wpAny (model prog w) A (call (.type "enumerate") [.ref a]) Q E s:=by
 cases k with
 |true=>exact call_enumerate_list l λh' g f _ e=>h h' g f e|false=>
  obtain⟨⟨c,i,D,S⟩,d,H,n,hd⟩:=(show s.heap.IsTuple a items from l)
  replace H:c=.type "tuple":=H
  replace hd:D=.seq items n:=hd
  subst H hd;refine callType_new F.called_enumerate (by decide) (F.typeCall_enumerate_1 _) (F.newCall_enumerate_1 _) (λobj=>F.args_object_init_2 obj _) F.entry_enumerate_new (L3 a items n i S) ⟨d,?_⟩
  have z:(WB s.heap false a).objs.size=s.heap.objs.size+1:=bg ..;have he:IsEnum (Ni s.heap false a) (WB s.heap false a).objs.size s.heap.objs.size 0 .none:=aA _ rfl;show _/\_;rw[z]at he ⊢;exact⟨⟨_,he,rfl⟩,h _ he (.mk ⟨_,af _ (aA _ rfl),rfl,rfl⟩) λb o x=>af _ (af _ x)⟩
end
section
variable {a b:Expr}{m:Ev}
def AR (K:Frag)(t:TA):TI:=λσ H R=>t σ H λvs H1=>∃p k xs,vs=[.ref p]/\yZ k K H1 p xs/\R (Vu k K p) H1
def boot_enumerate:bootBuiltins "enumerate"=some (.type "enumerate"):=by rfl
def boot_zip:bootBuiltins "zip"=some (.type "zip"):=by rfl
def DN {t:TA}(l:Gl X "enumerate")(hm:X.mg "enumerate"=none)(n:PA X [a] t)(g:starEach [a] X.env=[(false,eval a X.env)]):
  PI X (.Tuple elts kk tpos) (.Call (.Name "enumerate" p) [a] [] pos) (AR X.K t):=by
 intro pins s σ H R I h;refine Call_ (gM I l hm boot_enumerate (PyProof.Rows.callWith_type1 (zY (n pos pins s σ H _ I h) λus s1 ⟨vs,H1,i,d,Q⟩=>?_) g rfl));obtain⟨p,k,xs,rfl,j,q⟩:=Q;obtain⟨u,rfl,r⟩:=d.one;cases r;obtain⟨f,v,sq,w⟩:=i.sq j;refine IW sq λh' e o E=>wpAny_pyIter_enum e ?_;refine⟨s1.heap.objs.size+1,[s1.heap.objs.size+1,s1.heap.objs.size],_,_,H1,rfl,i.kept (t':=s1.toks) E,Hr k p _ _,⟨⟨_,by simpa using e⟩,o,Nat.succ_ne_self _⟩,λb m=>?_,q⟩
 have c:s1.heap.objs.size<=b:=by
  rcases b0.mp m with z|z
  ·rw[z];exact Nat.le_succ _
  ·rw[b1.mp z];exact ao _
 exact i.fpOk c (i.hok.fresh c)
noncomputable def atEnd (ws:List W)(i:Nat)(f:W->W):Option (Option W):=match ws[i]? with
 |some x=>some (some (f x))|none=>if ws.length=i then some none else none
def yj (w:W)(n:Nat):jt:=⟨λA i=>match zW w A with
 |some ws=>atEnd ws i λx=>.tup [.int i,x]|none=>none,n⟩
noncomputable def Zy (w:W):Bool:=match w with
 |.tup _=>false|_=>true
def Kt {K:Frag}{A:Hx}{w:W}{ws:List W}(S:zU K φ A H)(q:RV K φ H w v)(e:zW w A=some ws):∃p Y,v=.ref p/\yZ (Zy w) K H p Y/\zL K φ H ws Y:=by
 cases w with
 |tup us=>cases e;obtain⟨a,vs,E,t,r⟩:=q;exact⟨a,vs,E,t,r⟩|ref n=>
  obtain⟨a,E,f⟩:=q;unfold zW at e;dsimp only at e;cases c:A[n]? with
  |none=>rw[c]at e;cases e|some o=>
   rw[c]at e;obtain⟨g,d,r⟩:=S.ob n o c;rw[f]at d;cases d;cases o with
   |lst xs=>cases e;obtain⟨y,b,h⟩:=r;exact⟨a,y,E,qV.of b,h⟩|ro xs=>cases e;obtain⟨y,b,h⟩:=r;exact⟨a,y,E,b.sq,h⟩|dct xs=>cases e|td _=>cases e|tr _=>cases e|tab _ _=>cases e
 |non=>cases e|bl _=>cases e|clo _ _ _=>cases e|xc _=>cases e|int _=>cases e|str _=>cases e
def GZ {K:Frag}{a:bH}{A:Hx}{h:Hp}{w:W}{b:List W}{p:Addr}(q:RV K φ H w (.ref p))(lw:Zd K φ H a h)(S:zU K a A h)(E:zW w A=some b):∃y,yZ (Zy w) K h p y/\zL K a h b y:=by
 obtain⟨P,Y,e,d,c⟩:=Kt S (RV.monoW lw q) E;cases e;exact⟨Y,d,c⟩
def cY {K:Frag}{w:W}{p:Addr}(q:RV K φ H w (.ref p)):gA K φ H (yj w n) (Vu (Zy w) K p):=λi c m j lw S=>by
 unfold yj;dsimp only;cases es:zW w j with
 |none=>exact⟨λ_ z=>(by cases z),λz=>(by cases z)⟩|some ws=>
  dsimp only;obtain⟨Y,a,b⟩:=GZ q lw S es;unfold atEnd;cases E:ws[i]? with
  |none=>
   dsimp only
   by_cases h:ws.length=i
   ·rw[ag h]
    exact⟨λ_ z=>(by cases z),λ_=>⟨Y,a,by rw[<- b.length];exact h⟩⟩
   ·rw[aj h]
    exact⟨λ_ z=>(by cases z),λz=>(by cases z)⟩
  |some x=>
   dsimp only;refine⟨λu z=>?_,λz=>(by cases z)⟩
   cases z;obtain⟨y,e,g⟩:=b.get E;refine⟨⟨Y,y,a,e⟩,λX H1 ⟨t,l,d,ht,ex,f⟩=>?_⟩;subst ex f
   have:=d Y a
   rw[e]at this;cases this;obtain⟨a1,a2,A⟩:=Qf S ht (.cons (w:=.int i) (v:=.int i) rfl (.one g));exact⟨a1,a2,A⟩
def yG (m:Ev):Ei:=λρ A=>(m ρ A).bind λw A1=>match zW w A1 with
 |some ws=>.ok (yj w ws.length) A1|none=>.bad
end
section
variable {prog:Program}{A:Around}{z TI TO i1 i2 l1 l2:Addr}{n1 n2:Nat}{c1 c2:Bool}{xs ys:Array Value}{x y a b:Value}
def Dl (D:ZipApart z TI TO i1 i2 l1 l2)(h:IsZip s.heap z TI TO .none)(I:IsPair s.heap TI (.ref i1) (.ref i2))(r:IsPair s.heap TO a b)
  (g1:jy c1 s.heap i1 l1 n1)(g2:jy c2 s.heap i2 l2 n2)(s1:jY c1 s.heap l1 xs)(s2:jY c2 s.heap l2 ys)(U:xs[n1]? =some x)(P:ys[n2]? =some y)
  (hQ:∀h',IsZip h' z TI TO (rawInt s.heap.objs.size)->IsPair h' TI (.ref i1) (.ref i2)->IsPair h' TO x y->jy c1 h' i1 l1 (n1+1)->jy c2 h' i2 l2 (n2+1)->IsPair h' s.heap.objs.size x y->
   (∀c o,c≠z->c≠TO->c≠i1->c≠i2->s.heap.get? c=some o->h'.get? c=some o)->Q (.ref s.heap.objs.size) { s with heap:=h' }):
  wpAny (model prog w) A (Builtin.«zip.__next__» ⟨[.ref z],[]⟩) (λfin N=>∃v,fin=.done (.ret v)/\Q v N) E s:=by
 show wpAny _ _ (field (.ref z) 2 >>= _) _ _ _;refine bU (wpAny_field h rfl (x:=.bool false) rfl ?_);show wpAny _ _ (field (.ref z) 3 >>= _) _ _ _;refine bU (wpAny_field h rfl (x:=.ref TI) rfl (bU (wpAny_seqItems I rfl ?_)));show wpAny _ _ (Builtin.SmallTypes.ownedTupleIsFree (.ref z) >>= _) _ _ _;refine bU ?_;unfold Builtin.SmallTypes.ownedTupleIsFree;refine bU (wpAny_field h rfl (x:=.none) rfl (bV ?_));simp only[if_true];refine bU (wpAny_rule (bU (wpAny_field h rfl (x:=.ref TO) rfl ?_)));refine bU (wpAny_setField_rec h (by simp) λha n sa=>?_);replace n:IsZip ha z TI TO .ellipsis:=n
 refine bU ?_;simp only[List.zipIdx_cons,List.zipIdx_nil,forIn_cons,forIn_nil];refine bU (bU (wpAny_onRaise ?_));show wpAny _ _ (Builtin.SmallTypes.nextOf (.ref i1) >>= _) _ _ _;refine bU (KN (g1.to λo e=>sa.extBut _ _ D.i1z e) (s1.to λo e=>sa.extBut _ _ D.l1z e) U λY gb j=>bV ?_);have tb:IsPair Y TO a b:=j.extBut _ _ D.TOi1 (sa.extBut _ _ D.TOz r);refine bU (wpAny_seqItems tb rfl (bU (wpAny_updateSeq_pair tb λM T sc=>bU (wpAny_letGo (bV ?_)))));replace T:IsPair M TO x b:=T;refine bU (bU (wpAny_onRaise ?_));show wpAny _ _ (Builtin.SmallTypes.nextOf (.ref i2) >>= _) _ _ _;have up:∀c o,c≠z->c≠i1->c≠TO->s.heap.get? c=some o->M.get? c=some o:=λc o f d g e=>sc.extBut _ _ g (j.extBut _ _ d (sa.extBut _ _ f e));refine bU (KN (g2.to λo e=>up _ o D.i2z D.i12.symm D.TOi2.symm e) (s2.to λo e=>up _ o D.l2z D.l2i1 D.l2TO e) P λhd gd sd=>bV ?_);have td:IsPair hd TO x b:=sd.extBut _ _ D.TOi2 T;refine bU (wpAny_seqItems td rfl (bU (wpAny_updateSeq_pair td λhe t S=>bU (wpAny_letGo (bV (bV ?_))))));replace t:IsPair he TO x y:=t;refine bU (wpAny_seqItems t rfl (bU (wpAny_newTuple ?_)));have H:he.objs.size=s.heap.objs.size:=by rw[S.1,sd.1,sc.1,j.1,sa.1]
 have B:IsZip he z TI TO .ellipsis:=S.extBut _ _ D.TOz.symm (sd.extBut _ _ D.i2z.symm (sc.extBut _ _ D.TOz.symm (j.extBut _ _ D.i1z.symm n)));have L:∀c o,c≠z->c≠TO->c≠i1->c≠i2->s.heap.get? c=some o->he.get? c=some o:=λc o f d g p e=>S.extBut _ _ d (sd.extBut _ _ p (up c o f g d e));have ge1:jy c1 he i1 l1 (n1+1):=((gb.to λo e=>sc.extBut _ _ D.TOi1.symm e).to λo e=>sd.extBut _ _ D.i12 e).to λo e=>S.extBut _ _ D.TOi1.symm e;have u:jy c2 he i2 l2 (n2+1):=gd.to λo e=>S.extBut _ _ D.TOi2.symm e;have Z:z<he.objs.size:=aI B;show wpAny _ _ (Builtin.SmallTypes.ownedTupleHandOut (.ref z) (.ref he.objs.size) >>= _) _ _ _;refine bU ?_;unfold Builtin.SmallTypes.ownedTupleHandOut;have zf:IsZip (he.push { cls:=.type "tuple",data:=.seq #[x,y] }) z TI TO .ellipsis:=af _ B;refine bU (wpAny_setField_rec zf (by simp) λX m K=>?_);replace m:IsZip X z TI TO (rawInt he.objs.size):=m
 refine wpAny_setField_rec m (by simp) λl i J=>?_;replace i:IsZip l z TI TO (rawInt he.objs.size):=i
 have fin:∀c o,c≠z->he.get? c=some o->l.get? c=some o:=λc o q e=>J.extBut _ _ q (K.extBut _ _ q (af _ e));have C:IsPair l he.objs.size x y:=J.extBut _ _ (ne_of_gt Z) (K.extBut _ _ (ne_of_gt Z) (aA _ rfl));rw[H]at i C;refine bV ⟨_,rfl,?_⟩;show Q (.ref he.objs.size) _;rw[H];exact hQ l i (fin _ _ D.TIz (L _ _ D.TIz D.TITO D.TIi1 D.TIi2 I)) (fin _ _ D.TOz t) (ge1.to λo e=>fin _ o D.i1z e) (u.to λo e=>fin _ o D.i2z e) C λc o f d g p e=>fin c o f (L c o f d g p e)
def Cu {Q:Fin->Shared->Prop}(C:A.handled=none)(D:ZipApart z TI TO i1 i2 l1 l2)(i:IsZip s.heap z TI TO .none)(I:IsPair s.heap TI (.ref i1) (.ref i2))(u:IsPair s.heap TO a b)
  (g1:jy c1 s.heap i1 l1 n1)(g2:jy c2 s.heap i2 l2 n2)(s1:jY c1 s.heap l1 xs)(s2:jY c2 s.heap l2 ys)(j:xs[n1]? =none∨ys[n2]? =none)
  (J:∀h' e,(∀c o,c≠z->c≠TO->c≠i1->c≠i2->s.heap.get? c=some o->h'.get? c=some o)->(∃o,h'.get? e=some o/\o.cls=.type "StopIteration")->E (.ref e) { s with heap:=h' }):
  wpAny (model prog w) A (Builtin.«zip.__next__» ⟨[.ref z],[]⟩) Q E s:=by
 show wpAny _ _ (field (.ref z) 2 >>= _) _ _ _;refine bU (wpAny_field i rfl (x:=.bool false) rfl ?_);show wpAny _ _ (field (.ref z) 3 >>= _) _ _ _;refine bU (wpAny_field i rfl (x:=.ref TI) rfl (bU (wpAny_seqItems I rfl ?_)));show wpAny _ _ (Builtin.SmallTypes.ownedTupleIsFree (.ref z) >>= _) _ _ _;refine bU ?_;unfold Builtin.SmallTypes.ownedTupleIsFree;refine bU (wpAny_field i rfl (x:=.none) rfl (bV ?_));simp only[if_true];refine bU (wpAny_rule (bU (wpAny_field i rfl (x:=.ref TO) rfl ?_)));refine bU (wpAny_setField_rec i (by simp) λt Z sa=>?_);replace Z:IsZip t z TI TO .ellipsis:=Z
 refine bU ?_;simp only[List.zipIdx_cons,List.zipIdx_nil,forIn_cons,forIn_nil];refine bU (bU (wpAny_onRaise ?_));show wpAny _ _ (Builtin.SmallTypes.nextOf (.ref i1) >>= _) _ _ _;have ga:=g1.to (h':=t) λo e=>sa.extBut _ _ D.i1z e;have Y:=s1.to (h':=t) λo e=>sa.extBut _ _ D.l1z e;cases n:xs[n1]? with
 |none=>
  refine bU (XD C ga Y n λr e S he=>?_);obtain⟨m,h,H⟩:=he;have y:IsZip r z TI TO .ellipsis:=S _ _ D.i1z.symm Z;have f:e≠z:=λq=>by subst q;rw[y]at h;cases h;simp at H
  exact wpAny_setField_rec y (by simp) λp _ sc=>J p e (λc o d _ g _ q=>sc.extBut _ _ d (S _ _ g (sa.extBut _ _ d q))) ⟨m,sc.extBut _ _ f h,H⟩
 |some x=>
  have L:ys[n2]? =none:=by
   rcases j with q|q
   ·rw[n]at q;cases q
   ·exact q
  refine bU (KN ga Y n λr M S=>bV ?_);have tb:IsPair r TO a b:=S.extBut _ _ D.TOi1 (sa.extBut _ _ D.TOz u);refine bU (wpAny_seqItems tb rfl (bU (wpAny_updateSeq_pair tb λp T sc=>bU (wpAny_letGo (bV ?_)))));refine bU (bU (wpAny_onRaise ?_));show wpAny _ _ (Builtin.SmallTypes.nextOf (.ref i2) >>= _) _ _ _;have up:∀c o,c≠z->c≠i1->c≠TO->s.heap.get? c=some o->p.get? c=some o:=λc o d l g e=>sc.extBut _ _ g (S.extBut _ _ l (sa.extBut _ _ d e));refine bU (XD C (g2.to λo e=>up _ o D.i2z D.i12.symm D.TOi2.symm e) (s2.to λo e=>up _ o D.l2z D.l2i1 D.l2TO e) L λhd e sd he=>?_);obtain⟨m,h,H⟩:=he;have v:IsZip hd z TI TO .ellipsis:=sd _ _ D.i2z.symm (sc.extBut _ _ D.TOz.symm (S.extBut _ _ D.i1z.symm Z));have f:e≠z:=λq=>by subst q;rw[v]at h;cases h;simp at H
  exact wpAny_setField_rec v (by simp) λhf _ B=>J hf e (λc o d l g K q=>B.extBut _ _ d (sd _ _ K (up c o d g l q))) ⟨m,B.extBut _ _ f h,H⟩
def Dd {Q:Option Value->Shared->Prop}(D:ZipApart z TI TO i1 i2 l1 l2)(d:IsZip s.heap z TI TO .none)(H:IsPair s.heap TI (.ref i1) (.ref i2))(h:IsPair s.heap TO a b)
  (g1:jy c1 s.heap i1 l1 n1)(g2:jy c2 s.heap i2 l2 n2)(s1:jY c1 s.heap l1 xs)(s2:jY c2 s.heap l2 ys)(n:xs[n1]? =some x)(m:ys[n2]? =some y)
  (p:∀h',IsZip h' z TI TO (rawInt s.heap.objs.size)->IsPair h' TI (.ref i1) (.ref i2)->IsPair h' TO x y->jy c1 h' i1 l1 (n1+1)->jy c2 h' i2 l2 (n2+1)->IsPair h' s.heap.objs.size x y->
   (∀c o,c≠z->c≠TO->c≠i1->c≠i2->s.heap.get? c=some o->h'.get? c=some o)->Q (some (.ref s.heap.objs.size)) { s with heap:=h' }):wpAny (model prog w) A (pyNext (.ref z)) Q E s:=by
 have hT:s.TypeIs (.ref z) "zip":=⟨_,d,rfl⟩;unfold pyNext;exact bU (wpAny_attempt (wpAny_callSpecial?_slot (name:=Str.ofString "__next__") hT F.slot_zip_next (wpAny_call_entry F.slot_zip_next hT F.entry_zip_next
  (Dl D d H h g1 g2 s1 s2 n m λh' l j i g f e q=>bV (p h' l j i g f e q)) (F.args_zip_next_1 _))))
def Ck {Q:Option Value->Shared->Prop}(i:A.handled=none)(D:ZipApart z TI TO i1 i2 l1 l2)(d:IsZip s.heap z TI TO .none)(I:IsPair s.heap TI (.ref i1) (.ref i2))(H:IsPair s.heap TO a b)
  (g1:jy c1 s.heap i1 l1 n1)(g2:jy c2 s.heap i2 l2 n2)(s1:jY c1 s.heap l1 xs)(s2:jY c2 s.heap l2 ys)(h:xs[n1]? =none∨ys[n2]? =none)
  (l:∀h',(∀c o,c≠z->c≠TO->c≠i1->c≠i2->s.heap.get? c=some o->h'.get? c=some o)->Q none { s with heap:=h' }):wpAny (model prog w) A (pyNext (.ref z)) Q E s:=by
 have hT:s.TypeIs (.ref z) "zip":=⟨_,d,rfl⟩;unfold pyNext;refine bU (wpAny_attempt (wpAny_callSpecial?_slot (name:=Str.ofString "__next__") hT F.slot_zip_next (wpAny_call_entry F.slot_zip_next hT F.entry_zip_next (Cu i D d I H g1 g2 s1 s2 h λh' e g he=>?_) (F.args_zip_next_1 _))));obtain⟨o,f,j⟩:=he;exact bU (wpAny_isInstance (T := "StopIteration") (b:=true) ⟨o,f,j⟩ isSubtype_stop (bV (l _ g)))
end
abbrev Wn (h:Heap)(c1:Bool)(l:Addr):Heap:=h.push { cls:=.type (Ql c1),data:=.fields #[.ref l,.int 0 0] }
abbrev WA (h:Heap)(c1 c2:Bool)(l l2:Addr):Heap:=(Wn h c1 l).push { cls:=.type (Ql c2),data:=.fields #[.ref l2,.int 0 0] }
abbrev Wz (h:Heap)(c1 c2:Bool)(l l2:Addr):Heap:=(WA h c1 c2 l l2).push { cls:=.type "tuple",data:=.seq #[.ref h.objs.size,.ref (Wn h c1 l).objs.size] }
abbrev Wu (h:Heap)(c1 c2:Bool)(l l2:Addr):Heap:=(Wz h c1 c2 l l2).push { cls:=.type "tuple",data:=.seq #[.none,.none] }
abbrev Jn (h:Heap)(c1 c2:Bool)(l l2:Addr):Heap:=(Wu h c1 c2 l l2).push { cls:=.type "zip",data:=.fields #[.none,.bool false,.bool false,.ref (WA h c1 c2 l l2).objs.size,.ref (Wz h c1 c2 l l2).objs.size] }
def IK (c1 c2:Bool)(l l2:Addr)(xs y:Array Value):
  Meets (Builtin.«zip.__new__» ⟨[.type "zip",.ref l,.ref l2],[]⟩) (λ_ R s=>jY c1 s.heap l xs/\jY c2 s.heap l2 y/\R (.ok (.ret (.ref (Wu s.heap c1 c2 l l2).objs.size))) { s with heap:=Jn s.heap c1 c2 l l2 }):=
 .of_wp λprog w A R s h=>by
  obtain⟨p,g,d,t,os⟩:=s;obtain⟨Q,q,h⟩:=h;have H:=sub_zip;have k1:jY c1 (Shared.heap ⟨p,g,d,t,os⟩) l xs:=Q;have K:jY c2 (Shared.heap ⟨p.push { cls:=.type (Ql c1),data:=.fields #[.ref l,.int 0 0] },g,d,t,os⟩) l2 y:=q.to λo e=>af _ e
  wp_walk using RY k1,RY K
  exact⟨_,rfl,h⟩
section
variable {prog:Program}{A:Around}{c1 c2:Bool}{l1 l2:Addr}{xs ys:Array Value}
def FX (s1:jY c1 s.heap l1 xs)(s2:jY c2 s.heap l2 ys)
  (h:∀h' n,n=s.heap.objs.size->IsZip h' (n+4) (n+2) (n+3) .none->IsPair h' (n+2) (.ref n) (.ref (n+1))->IsPair h' (n+3) .none .none->jy c1 h' n l1 0->jy c2 h' (n+1) l2 0->
   (∀c o,s.heap.get? c=some o->h'.get? c=some o)->Q (.ref (n+4)) { s with heap:=h' }):wpAny (model prog w) A (call (.type "zip") [.ref l1,.ref l2]) Q E s:=by
 refine callType_new F.called_zip (by decide) (F.typeCall_zip_2 _ _) (F.newCall_zip_2 _ _) (λobj=>F.args_object_init_3 obj _ _) F.entry_zip_new (IK c1 c2 l1 l2 xs ys) ⟨s1,s2,?_⟩
 have a:(Wn s.heap c1 l1).objs.size=s.heap.objs.size+1:=bg ..;have Z:(WA s.heap c1 c2 l1 l2).objs.size=s.heap.objs.size+2:=by rw[bg,a]
 have z:(Wz s.heap c1 c2 l1 l2).objs.size=s.heap.objs.size+3:=by rw[bg,Z]
 have b:(Wu s.heap c1 c2 l1 l2).objs.size=s.heap.objs.size+4:=by rw[bg,z]
 have y:(Jn s.heap c1 c2 l1 l2).get? (Wu s.heap c1 c2 l1 l2).objs.size=some _:=aA _ rfl;have Y:(Jn s.heap c1 c2 l1 l2).get? (Wz s.heap c1 c2 l1 l2).objs.size=some _:=af _ (aA _ rfl);have d:(Jn s.heap c1 c2 l1 l2).get? (WA s.heap c1 c2 l1 l2).objs.size=some _:=af _ (af _ (aA _ rfl));have e:(Jn s.heap c1 c2 l1 l2).get? (Wn s.heap c1 l1).objs.size=some _:=af _ (af _ (af _ (aA _ rfl)));have f:(Jn s.heap c1 c2 l1 l2).get? s.heap.objs.size=some _:=af _ (af _ (af _ (af _ (aA _ rfl))));show _/\_;rw[Z,z,b]at y;rw[a,Z]at d;rw[z]at Y;rw[a]at e;rw[b];exact⟨⟨_,y,rfl⟩,h _ _ rfl y d Y (.mk ⟨_,f,rfl,rfl⟩) (.mk ⟨_,e,rfl,rfl⟩) λc o q=>
  af _ (af _ (af _ (af _ (af _ q))))⟩
end
def VG (c1 c2:Bool)(K:Frag)(p q:Addr):It:=
 ⟨λi H=>∃xs Y x y,yZ c1 K H p xs/\yZ c2 K H q Y/\xs[i]? =some x/\Y[i]? =some y,
  λi H v h=>∃t x y,(∀xs,yZ c1 K H p xs->xs[i]? =some x)/\(∀Y,yZ c2 K H q Y->Y[i]? =some y)/\H t=none/\v=.ref t/\h=upd H t (.tup [x,y]),
  λi H=>∃xs Y,yZ c1 K H p xs/\yZ c2 K H q Y/\(xs[i]? =none∨Y[i]? =none)⟩
def Ek {K:Frag}(c1 c2:Bool)(p q z TI TO r n:Addr)(D:ZipApart z TI TO r n p q):
  Turn P w K (.Tuple elts kk tpos) (VG c1 c2 K p q) [z,TI,TO,r,n] z (λi h=>IsZip h z TI TO .none/\IsPair h TI (.ref r) (.ref n)/\(∃a b,IsPair h TO a b)/\jy c1 h r p i/\jy c2 h n q i) where
 mem:=by simp
 obj:=λi h st b d=>by
  obtain⟨j,g,⟨Q,N,f⟩,g1,g2⟩:=st;simp only[mem_cons,not_mem_nil,or_false]at d;rcases d with rfl|rfl|rfl|rfl|rfl
  ·exact⟨_,j,λv e=>nomatch e⟩
  ·exact⟨_,g,λv e=>nomatch e⟩
  ·exact⟨_,f,λv e=>nomatch e⟩
  ·obtain⟨o,A,_,hd⟩:=g1.ob;exact⟨o,A,λv e=>by rw[hd]at e;cases e⟩
  ·obtain⟨o,A,_,hd⟩:=g2.ob;exact⟨o,A,λv e=>by rw[hd]at e;cases e⟩
 keep:=λi h h' ⟨j,g,⟨Q,N,f⟩,g1,g2⟩ k=>⟨k z (by simp) _ j,k TI (by simp) _ g,⟨Q,N,k TO (by simp) _ f⟩,g1.to λo e=>k r (by simp) o e,g2.to λo e=>k n (by simp) o e⟩
 item:=by
  intro X hP hw hK hc i pins s σ H E I hf st hg;subst hP hw hK;obtain⟨j,g,⟨Q,N,f⟩,g1,g2⟩:=st;obtain⟨xs,ys,x,y,M,L,ex,ey⟩:=hg;obtain⟨m,r1,t,_⟩:=I.sq M;obtain⟨l,r2,S,_⟩:=I.sq L;obtain⟨T,eu1,Z⟩:=r1.get ex;obtain⟨U,eu2,Y⟩:=r2.get ey;refine Dd D j g f g1 g2 t S (x:=T) (y:=U) (by simpa using eu1) (by simpa using eu2) λhh z1 z2 z3 z4 z5 z6 kp=>?_
  refine⟨_,rfl,wpAny_letOwnedTupleGo_zip z1 λhk zk C=>?_⟩;have lt:∀{c o},s.heap.get? c=some o->c≠s.heap.objs.size:=λe=>aT (aI e);have T2:IsPair hk s.heap.objs.size T U:=C.extBut _ _ (lt j).symm z6;have fre:∀b∈[z,TI,TO,r,n],b≠s.heap.objs.size:=λb d=>by
   simp only[mem_cons,not_mem_nil,or_false]at d;rcases d with rfl|rfl|rfl|rfl|rfl
   ·exact lt j
   ·exact lt g
   ·exact lt f
   ·obtain⟨o,A,_⟩:=g1.ob;exact lt A
   ·obtain⟨o,A,_⟩:=g2.ob;exact lt A
  refine⟨.ref s.heap.objs.size,upd H s.heap.objs.size (.tup [x,y]),?_,rfl,⟨s.heap.objs.size,x,y,λzs u=>by rw[I.sq_inj u M];exact ex,λzs u=>by rw[I.sq_inj u L];exact ey,I.hok.fresh (ao _),rfl,rfl⟩,
   ⟨zk,C.extBut _ _ D.TIz z2,⟨_,_,C.extBut _ _ D.TOz z3⟩,z4.to λo e=>C.extBut _ _ D.i1z e,z5.to λo e=>C.extBut _ _ D.i2z e⟩,λb d=>?_⟩
  ·refine I.spun (fp:=[z,TI,TO,r,n]) (t':=s.toks) (λb o d eo=>?_) hf (ao _) ?_
   ·exact C.extBut _ _ (λe=>d (by simp[e])) (kp b o (λe=>d (by simp[e])) (λe=>d (by simp[e])) (λe=>d (by simp[e])) (λe=>d (by simp[e])) eo)
   ·exact⟨by show 2<=sizeLine;decide,[T,U],.cons Z (.cons Y .nil),_,T2,⟨rfl,rfl⟩,0,rfl⟩
  ·show upd H s.heap.objs.size _ b=none
   rw[qF (fre b d)];exact(hf b d).1
 done:=by
  intro X hP hw hK hc i pins s σ H E I hf st hg;subst hP hw hK;obtain⟨j,g,⟨Q,N,f⟩,g1,g2⟩:=st;obtain⟨xs,ys,M,L,J⟩:=hg;obtain⟨m,r1,t,_⟩:=I.sq M;obtain⟨l,r2,S,_⟩:=I.sq L;have B:m.toArray[i]? =none∨l.toArray[i]? =none:=by
   rcases J with e|e
   ·exact .inl (by simpa using r1.none_of e)
   ·exact .inr (by simpa using r2.none_of e)
  exact Ck (I.ok.hd hc) D j g f g1 g2 t S B λhh kp=>⟨rfl,I.spun0 (fp:=[z,TI,TO,r,n]) (t':=s.toks) (λb o d eo=>kp b o (λe=>d (by simp[e])) (λe=>d (by simp[e])) (λe=>d (by simp[e])) (λe=>d (by simp[e])) eo) hf⟩
 self:=λ_ _ _ _ _ st h=>wpAny_pyIter_zip st.1 h
section
variable {a b:Expr}{m:Ev}
def cZ (K:Frag)(t:TA):TI:=λσ H R=>t σ H λvs H1=>∃p q c1 c2 xs y,vs=[.ref p,.ref q]/\yZ c1 K H1 p xs/\yZ c2 K H1 q y/\R (VG c1 c2 K p q) H1
def Cy {T:TA}(P:Gl X "zip")(hm:X.mg "zip"=none)(U:PA X [a,b] T)(M:starEach [a,b] X.env=(false,eval a X.env)::starEach [b] X.env)(N:(backTo pos (starEach [b] X.env)).any (·.1)=false):
  PI X (.Tuple elts kk tpos) (.Call (.Name "zip" p) [a,b] [] pos) (cZ X.K T):=by
 intro pins s σ H R I h;refine Call_ (gM I P hm boot_zip (PyProof.Rows.callWith_type1 (zY (U pos pins s σ H _ I h) λus s1 ⟨vs,H1,g,J,Q⟩=>?_) M N));obtain⟨p,q,c1,c2,xs,ys,rfl,h1,h2,Y⟩:=Q;obtain⟨u1,u2,rfl,m,r⟩:=J.two;cases m;cases r;obtain⟨v,C,d,_⟩:=g.sq h1;obtain⟨u,B,S,_⟩:=g.sq h2;obtain⟨op,t,_⟩:=d.ob;obtain⟨oq,o,_⟩:=S.ob;have L:p<s1.heap.objs.size:=aI t;have l:q<s1.heap.objs.size:=aI o;refine FX d S λh' n E z A y x Z kp=>wpAny_pyIter_zip z ?_;rw[<- E]at L l;have ne1:∀(i j:Nat),i≠j->n+i≠n+j:=λi j h e=>h (Nat.add_left_cancel e);have ne2:∀(c:Nat)(i:Nat),c<n->c≠n+i:=λc i h e=>absurd h (by rw[e];exact Nat.not_lt.mpr (le_add_right n i))
 have D:ZipApart (n+4) (n+2) (n+3) (n+0) (n+1) p q:=⟨ne1 2 4 (by decide),ne1 3 4 (by decide),ne1 0 4 (by decide),ne1 1 4 (by decide),ne1 2 3 (by decide),ne1 2 0 (by decide),ne1 2 1 (by decide),ne1 3 0 (by decide),ne1 3 1 (by decide),ne1 0 1 (by decide),
  ne2 p 4 L,ne2 p 3 L,ne2 p 0 L,ne2 p 1 L,ne2 q 4 l,ne2 q 3 l,ne2 q 0 l,ne2 q 1 l⟩
 refine⟨n+4,[n+4,n+2,n+3,n,n+1],_,_,H1,rfl,g.kept (t':=s1.toks) kp,Ek c1 c2 p q _ _ _ _ _ D,⟨z,A,⟨_,_,y⟩,x,Z⟩,λc w=>?_,Y⟩;have f:s1.heap.objs.size<=c:=by
  rw[<- E];simp only[mem_cons,not_mem_nil,or_false]at w;rcases w with rfl|rfl|rfl|rfl|rfl
  ·exact le_add_right _ _
  ·exact le_add_right _ _
  ·exact le_add_right _ _
  ·exact ao _
  ·exact le_add_right _ _
 exact g.fpOk f (g.hok.fresh f)
noncomputable def zip2:Option W->Option W->Option W
 |some x,some y=>some (.tup [x,y])|_,_=>none
def yH (w a:W)(n:Nat):jt:=⟨λA i=>match zW w A,zW a A with
 |some us,some vs=>some (zip2 us[i]? vs[i]?)|_,_=>none,n⟩
def AK {K:Frag}{w a:W}{p P:Addr}(q:RV K φ H w (.ref p))(Q:RV K φ H a (.ref P)):gA K φ H (yH w a n) (VG (Zy w) (Zy a) K p P):=λi c D A lw S=>by
 unfold yH;dsimp only;cases es:zW w A with
 |none=>exact⟨λ_ z=>(by cases z),λz=>(by cases z)⟩|some us=>
  cases E:zW a A with
  |none=>exact⟨λ_ z=>(by cases z),λz=>(by cases z)⟩|some vs=>
   dsimp only;obtain⟨xs,b,f⟩:=GZ q lw S es;obtain⟨Y,h,d⟩:=GZ Q lw S E;have non:∀{us:List W}{xs:List V},zL K c D us xs->us[i]? =none->xs[i]? =none:=λr e=>by
    rw[List.getElem?_eq_none_iff]at e ⊢;rw[<- r.length];exact e
   cases l:us[i]? with
   |none=>exact⟨λ_ z=>(by cases z),λ_=>⟨xs,Y,b,h,.inl (non f l)⟩⟩|some x=>
    cases j:vs[i]? with
    |none=>exact⟨λ_ z=>(by cases z),λ_=>⟨xs,Y,b,h,.inr (non d j)⟩⟩|some y=>
     refine⟨λu z=>?_,λz=>(by cases z)⟩
     cases z;obtain⟨m,f1,f2⟩:=f.get l;obtain⟨v,g,f4⟩:=d.get j;refine⟨⟨xs,Y,m,v,b,h,f1,g⟩,λX H1 ⟨t,J,I,s,o,ht,ex,B⟩=>?_⟩;subst ex B;have g1:=s xs b;have g2:=o Y h;rw[f1]at g1;cases g1;rw[g]at g2;cases g2;obtain⟨a1,a2,C⟩:=Qf S ht (.cons f2 (.one f4));exact⟨a1,a2,C⟩
def jH (m M:Ev):Ei:=λρ A=>(m ρ A).bind λw A1=>(M ρ A1).bind λa A2=>match zW w A2,zW a A2 with
 |some us,some _=>.ok (yH w a us.length) A2|_,_=>.bad
variable {K:Frag}{c:Expr}
noncomputable def O6:Ev:=λ_ A=>.ok (.ref A.length) (A++[.dct []])
noncomputable def Wv:W->Option Key
 |.int i=>some (.inl i)|_=>none
noncomputable def yw (k:Key):List (Key×W)->Option W
 |[]=>none|(j,w)::r=>if j=k then some w else yw k r
theorem G6 (k:Key):∀{kvs:List (Key×W)}{us:List (Key×V)},us.map (·.1)=kvs.map (·.1)->zL K φ H (kvs.map (·.2)) (us.map (·.2))->
  (∀w,yw k kvs=some w->∃v,yS us k=some v/\RV K φ H w v)/\(yw k kvs=none->yS us k=none)
 |[],[],_,_=>⟨λw h=>(by cases h),λ_=>rfl⟩|[],_::_,h,_=>by simp at h|_::_,[],h,_=>by simp at h|(j,w)::kvs,(J,v)::us,h,r=>by
  simp only[aS,List.cons.injEq]at h;obtain⟨g,l,e,d,c⟩:=r;simp only[aS,List.cons.injEq]at e;obtain⟨rfl,rfl⟩:=e;have i:=G6 k h.2 c;have b:J=j:=h.1;subst b
  by_cases a:J=k
  ·refine⟨λf hw=>⟨v,Kw a,?_⟩,λhn=>?_⟩
   ·unfold yw at hw;rw[ag a]at hw;cases hw;exact d
   ·unfold yw at hn;rw[ag a]at hn;cases hn
  ·unfold yw
   rw[aj a,Kn (p:=(J,v)) a];exact i
theorem zU.dct {A:Hx}{kvs:List (Key×W)}(S:zU K φ A H)(q:RV K φ H (.ref n) v)(e:A[n]? =some (.dct kvs)):∃p us,v=.ref p/\φ[n]? =some p/\H p=some (.dK us)/\us.map (·.1)=kvs.map (·.1)/\zL K φ H (kvs.map (·.2)) (us.map (·.2)):=by
 obtain⟨p,rfl,a⟩:=q;obtain⟨P,h,us,d,c,b⟩:=S.ob n _ e;rw[a]at h;cases h;exact⟨p,us,rfl,a,d,c,b⟩
def K7:W->W->Hx->R W:=λd k A=>match d,Wv k with
 |.ref n,some k=>match A[n]? with
  |some (.dct kvs)=>match yw k kvs with
   |some w=>.ok w A|none=>.bad
  |_=>.bad
 |_,_=>.bad
def DX:V->List V->Hp->VK->Prop:=λx vs H Q=>∃p us k d,x=.ref p/\vs=[kV k,d]/\H p=some (.dK us)/\us.length<sizeLine/\(∀v,yS us k=some v->Q v H)/\(yS us k=none->Q d (upd H p (.dK (putK us k d))))
def HS:Jz X "dict.setdefault" DX:=by
 intro pins s σ H x vs v us Q I i j h;obtain⟨p,kvs,k,d,rfl,rfl,f,A,n,m⟩:=h;cases i;obtain⟨U,u,rfl,l,c⟩:=j.two;obtain⟨z,hd,ws,rel,g⟩:=OQ I.hok f;refine call_meetsIn PySem.F.slot_dict_setdefault g.typeIs PySem.F.entry_dict_setdefault (PySem.F.args_dict_setdefault_3 _ _ _) (kt_meets_setdefault (yL X.prog X.w) p (X2 l) hd u) ⟨ws,g,by rw[<- rel.length];exact z,λv o=>?_,λhn h' D t=>?_⟩
 ·have r:=rel.val k
  rw[o]at r;cases e:yS kvs k with
  |none=>rw[e]at r;exact r.elim|some a=>rw[e]at r;exact⟨a,H,I.tok _,r,n a e⟩
 ·have r:=rel.val k
  rw[hn]at r;cases e:yS kvs k with
  |some a=>rw[e]at r;exact r.elim|none=>
   have b:(putK kvs k d).length<=sizeLine:=by have:=LX kvs k d;omega
   have he:∃q,h'.get? p=some q:=let ⟨q,_,_,y,_⟩:=D;⟨q,y⟩
   exact⟨d,_,D4 I (by rw[f];exact True.intro) t he (B8 b hd (rel.put k c) D),c,m e⟩
noncomputable def W0 (x:W)(A:Hx):Bool:=match x with
 |.ref n=>match A[n]? with
  |some (.dct _)=>true|_=>false
 |_=>false
def gI:W->W->W->Hx->R W:=λd k v A=>match d,Wv k with
 |.ref n,some k=>match A[n]? with
  |some (.dct kvs)=>if kvs.length<qf then(match yw k kvs with
   |some w=>.ok w A|none=>.ok v (A.set n (.dct (kvs++[(k,v)])))) else .bad
  |_=>.bad
 |_,_=>.bad
def Jc (g:W->W->W->Hx->R W)(a b c:Ev):Ev:=λρ A=>(a ρ A).bind λx A1=>if W0 x A1 then(b ρ A1).bind λy A2=>(c ρ A2).bind λz d=>g x y z d else .bad
def Fz {A:Hx}{w:W}(S:zU K φ A H)(q:RV K φ H w v)(e:W0 w A=true):WQ K "dict" v H:=by
 unfold W0 at e;cases w with
 |ref n=>
  dsimp only at e;cases E:A[n]? with
  |none=>rw[E]at e;cases e|some o=>cases o with
   |dct ws=>obtain⟨p,us,rfl,_,h,_⟩:=S.dct q E;exact .inr (.inr (.inl ⟨rfl,.inl ⟨us,h⟩⟩))|_=>rw[E]at e;cases e
 |_=>cases e
end
def VM (d:Addr)(o:Obj)(us:List (Key×V)):It:=
 ⟨λi H=>H d=some (.frz o (.dK us))/\i<us.length,λi H x h=>∃t p,us[i]? =some p/\H t=none/\x=.ref t/\h=upd H t (.tup [kV p.1,p.2]),λi H=>H d=some (.frz o (.dK us))/\us[i]? =none⟩
def By {k:Key}(h:(yL P w).is k u=true):RelV (kV k) u:=by
 rw[Im]at h;rcases gi h with ⟨i,t,rfl,rfl⟩|⟨x,t,rfl,rfl⟩
 ·exact⟨t,rfl⟩
 ·exact⟨t,rfl⟩
theorem KV.at:∀{us:List (Key×V)}{vs:List (Key×Value)}{i:Nat}{p:Key×V},KV us vs->us[i]? =some p->∃u,vs[i]? =some (p.1,u)/\RelV p.2 u
 |[],_,_,_,_,e=>by simp at e|q::us,_,0,p,.cons (b:=b) r t,e=>by
  simp at e;subst e;exact⟨b.2,by simp only[List.getElem?_cons_zero];rw[r.1],r.2⟩
 |q::us,_,i+1,p,.cons r t,e=>by
  obtain⟨u,H,h⟩:=KV.at (i:=i) (p:=p) t (by simpa using e)
  exact⟨u,by simpa using H,h⟩
section
def _root_.L2.Inv.frzD {d:Addr}{o:Obj}{us:List (Key×V)}{g:Nat}(I:Inv X pins σ H s)(h:H d=some (.frz o (.dK us)))(p:∃E,o.data=.dict E g):∃vs,KV us vs/\s.heap.DictAt (yL X.prog X.w) d vs g:=by
 obtain⟨a,z,hd,vs,rel,D⟩:=I.hok d _ h;obtain⟨j,o',e,f,i,c,r⟩:=D.dictAt;rw[a]at f;cases f;obtain⟨E,he⟩:=p;have b:=c;rw[he]at b;injection b with m l
 subst l;exact⟨vs,rel,o,e,a,i,c,r⟩
end
def FJ:entryFor table "dict_itemiterator.__iter__"=some Builtin.«dict_keyiterator.__iter__»:=entryFor_alias (id' := "dict_keyiterator.__iter__") (by kernel_rfl)
 (by first|rfl|decide +kernel|(unfold String.splitOn;simp +decide [String.splitOnAux])) (by decide +kernel) (by kernel_rfl)
def IG {K:Frag}(d it:Addr)(o:Obj)(us:List (Key×V))(l:Nat)(j:∃U,o.data=.dict U l):
  Turn P w K (.Tuple elts kk tpos) (VM d o us) [it] it (λi h=>∃ok a,IsItemIter h it d i us.length l ok a) where
 mem:=by simp
 obj:=λi h ⟨ok,a,st⟩ b c=>by
  rw[b1.mp c];exact⟨_,st,λv e=>nomatch e⟩
 keep:=λi h h' ⟨ok,a,st⟩ k=>⟨ok,a,k it (by simp) _ st⟩
 item:=by
  intro X q hw r x i pins s σ H E I hf st m;subst q hw r;obtain⟨ok,a,st⟩:=st;obtain⟨hd,g⟩:=m;obtain⟨vs,rel,D⟩:=I.frzD hd j;obtain⟨u,J,B⟩:=KV.at rel (i:=i) (p:=us[i]) (by simp[g])
  have S:IsItemIter s.heap it d i vs.length l ok a:=by rw[<- rel.length];exact st
  refine wpAny_pyNext_items_item S D J λkey T y M hT L kp=>⟨_,rfl,wpAny_letOwnedTupleGo_items M λN n f=>?_⟩;have lt:it<s.heap.objs.size:=aI st;have Y:N.get? s.heap.objs.size=some { cls:=.type "tuple",data:=.seq #[key,u] }:=f.extBut _ _ (ne_of_gt lt) hT;refine⟨.ref s.heap.objs.size,upd H s.heap.objs.size (.tup [kV us[i].1,us[i].2]),?_,rfl,⟨s.heap.objs.size,us[i],by simp[g],I.hok.fresh (ao _),rfl,rfl⟩,⟨_,_,by rw[rel.length];exact n⟩,λb c=>?_⟩
  ·refine I.spun (fp:=[it]) (t':=s.toks) (λb ob c t=>?_) hf (ao _) ?_
   ·exact f.extBut _ _ (λz=>c (by simp[z])) (kp b ob (λz=>c (by simp[z])) t)
   ·exact⟨by show 2<=sizeLine;decide,[key,u],.cons (By y) (.cons B .nil),_,Y,⟨rfl,rfl⟩,0,rfl⟩
  ·show upd H s.heap.objs.size _ b=none
   have bn:b≠s.heap.objs.size:=λz=>by rw[b1.mp c]at z;exact absurd lt (by rw[z];exact aW _)
   rw[qF bn];exact(hf b c).1
 done:=by
  intro X q hw r x i pins s σ H E I hf st m;subst q hw r;obtain⟨ok,a,st⟩:=st;obtain⟨hd,g⟩:=m;obtain⟨vs,rel,D⟩:=I.frzD hd j;have S:IsItemIter s.heap it d i vs.length l ok a:=by rw[<- rel.length];exact st
  have hn:vs[i]? =none:=by
   rw[List.getElem?_eq_none_iff]at g ⊢;rw[<- rel.length];exact g
  exact wpAny_pyNext_items_end (I.ok.hd x) S D hn λT C=>⟨rfl,I.spun0 (fp:=[it]) (t':=s.toks) (λb ob c t=>C b ob (λz=>c (by simp[z])) t) hf⟩
 self:=λA i s Q E ⟨ok,a,st⟩ h=>by
  have hT:s.TypeIs (.ref it) "dict_itemiterator":=⟨_,st,rfl⟩;refine wpAny_pyIter_slot hT F.slot_dict_itemiterator_iter (wpAny_call_entry F.slot_dict_itemiterator_iter hT FJ ?_ (F.args_dict_itemiterator_iter_1 _));show wpAny _ _ (ret (.ref it)) _ _ s;exact bV ⟨_,rfl,"dict_itemiterator",_,hT,F.slot_dict_itemiterator_next.lookup,h⟩
section
variable {a b:Expr}{m:Ev}
def CH (td:TE):TI:=λσ H R=>td σ H λx H1=>∃d us,x=.ref d/\H1 d=some (.dK us)/\∀o,R (VM d o us) (upd H1 d (.frz o (.dK us)))
def FE {td:TE}(u:PE X a td)(i:attributeBase a "items" X.env (eval a X.env)=eval a X.env)(g:(apos.endLine==cpos.line)=true):
  PI X (.Tuple elts kk tpos) (.Call (.Attribute a "items" apos) [] [] cpos) (CH td):=by
 intro pins s σ H R I h;refine wpAny_Call_method0_late i g (zY (u pins s σ H _ I h) λv s1 ⟨x,H1,m,n,d,us,ex,hd,q⟩=>?_);subst ex;cases n;obtain⟨z,f,vs,rel,D⟩:=OQ m.hok hd;obtain⟨o,l,p,c,hex,t,r⟩:=id D;refine⟨"dict","dict.items",PySem.F.plainAttrs_dict,PySem.F.slot_dict_items,PySem.F.type_dict_items,D.typeIs,λb E=>by cases E;exact⟨o,c,hex.2.1⟩,Calls.callWith_builtin rfl (PySem.evalArgs_none ?_)⟩
 refine call_meetsIn PySem.F.slot_dict_items D.typeIs PySem.F.entry_dict_items (PySem.F.args_dict_items_1 _) (meets_dict_items (yL X.prog X.w) d f) ⟨⟨vs,D⟩,?_⟩;have B:Inv X pins σ (upd H1 d (.frz o (.dK us))) { s1 with heap:=s1.heap,toks:=s1.toks }:=m.write (x:=d) (e:=d) (o:=.frz o (.dK us)) (t':=s1.toks) (h':=s1.heap) (by rw[hd];exact True.intro) (.inl rfl) (λ_ _ _ q=>q) ⟨o,c⟩ ⟨c,z,f,vs,rel,D⟩
 have j:Inv X pins σ (upd H1 d (.frz o (.dK us))) { s1 with heap:=s1.heap.push { cls:=.type "dict_items",data:=.fields #[.ref d] } }:=B.kept (t':=s1.toks) λb ob q=>af _ q
 have A:(s1.heap.push { cls:=.type "dict_items",data:=.fields #[.ref d] }).DictAt (yL X.prog X.w) d vs p:=⟨o,l,af _ c,hex,t,r⟩;refine wpAny_pyIter_items (s:={ s1 with heap:=s1.heap.push { cls:=.type "dict_items",data:=.fields #[.ref d] } }) ⟨_,aA _ rfl,rfl,rfl⟩ A ?_
 refine⟨_,[_],_,_,_,rfl,j.kept (t':=s1.toks) λb ob q=>af _ q,IG d _ o us p ⟨l,t⟩,⟨.none,.none,?_⟩,λb y=>?_,q o⟩
 ·rw[rel.length];exact aA _ rfl
 ·have E:=b1.mp y
  subst E;exact j.fpOk (ao _) (j.hok.fresh (ao _))
noncomputable def kW:Key->W
 |.inl i=>.int i|.inr x=>.str x
def Jt (kvs:List (Key×W)):jt:=⟨λ_ i=>some (kvs[i]?.map λp=>.tup [kW p.1,p.2]),kvs.length⟩
def Yo (m:Ev):Ei:=λρ A=>match A with
 |[]=>(m ρ []).bind λw A1=>match w,A1 with
  |.ref 0,[.dct kvs]=>if qI (kvs.map (·.2)) then .ok (Jt kvs) [] else .bad|_,_=>.bad
 |_=>.bad
def Aj {K:Frag}{d:Addr}{o:Obj}{us:List (Key×V)}{kvs:List (Key×W)}(hd:H d=some (.frz o (.dK us)))(f:us.map (·.1)=kvs.map (·.1))(y:zL K φ H (kvs.map (·.2)) (us.map (·.2)))(n:qI (kvs.map (·.2))=true):
  gA K φ H (Jt kvs) (VM d o us):=λi a g D lw S=>by
 unfold Jt;dsimp only;have h:=lw.fz d o _ hd;have E:zL K a g (kvs.map (·.2)) (us.map (·.2)):=y.nrm lw.tp lw.fz n;have l:us.length=kvs.length:=by have:=congrArg List.length f;simpa using this
 cases e:kvs[i]? with
 |none=>
  refine⟨λ_ z=>(by cases z),λ_=>⟨h,?_⟩⟩
  rw[List.getElem?_eq_none_iff]at e ⊢;rw[l];exact e
 |some p=>
  have j:i<kvs.length:=(bY.mp e).1;refine⟨λu z=>?_,λz=>(by cases z)⟩
  cases z;refine⟨⟨h,by rw[l];exact j⟩,λx H1 ⟨t,q,b,ht,ex,w⟩=>?_⟩
  subst ex w;have k1:q.1=p.1:=by
   have a1:(us.map (·.1))[i]? =some q.1:=by simp[b]
   rw[f]at a1;simp[e]at a1;exact a1.symm
  have a2:(kvs.map (·.2))[i]? =some p.2:=by simp[e]
  obtain⟨v,c,s⟩:=E.get a2;have m:v=q.2:=by simp[b]at c;exact c.symm
  subst m;rw[k1];have r:RV K a g (kW p.1) (kV p.1):=by cases p.1<;>rfl
  obtain⟨C,A,B⟩:=Qf S ht (.cons r (.one s));exact⟨C,A,B⟩
end
mutual
noncomputable def W.beq:W->W->Bool
 |.non,.non=>true|.bl a,.bl b=>a==b|.int a,.int b=>decide (a=b)|.str a,.str b=>decide (a=b)|.tup a,.tup b=>YB a b|_,_=>false
noncomputable def YB:List W->List W->Bool
 |[],[]=>true|a::as,b::bs=>a.beq b&&YB as bs|_,_=>false
end
mutual
theorem W.eq_of:∀{a b:W},a.beq b=true->a=b
 |.non,.non,_=>rfl|.bl a,.bl b,h=>by have h':(a==b)=true:=h;rw[aU]at h';rw[h']|.int a,.int b,h=>by have h':decide (a=b)=true:=h;rw[ai]at h';rw[h']|.str a,.str b,h=>by have h':decide (a=b)=true:=h;rw[ai]at h';rw[h']|.tup a,.tup b,h=>by have h':YB a b=true:=h;rw[PH h']|.non,.bl _,h=>nomatch h|.non,.int _,h=>nomatch h|.non,.str _,h=>nomatch h|.non,.tup _,h=>nomatch h|.non,.ref _,h=>nomatch h
 |.bl _,.non,h=>nomatch h|.bl _,.int _,h=>nomatch h|.bl _,.str _,h=>nomatch h|.bl _,.tup _,h=>nomatch h|.bl _,.ref _,h=>nomatch h
 |.int _,.non,h=>nomatch h|.int _,.bl _,h=>nomatch h|.int _,.str _,h=>nomatch h|.int _,.tup _,h=>nomatch h|.int _,.ref _,h=>nomatch h
 |.str _,.non,h=>nomatch h|.str _,.bl _,h=>nomatch h|.str _,.int _,h=>nomatch h|.str _,.tup _,h=>nomatch h|.str _,.ref _,h=>nomatch h
 |.tup _,.non,h=>nomatch h|.tup _,.bl _,h=>nomatch h|.tup _,.int _,h=>nomatch h|.tup _,.str _,h=>nomatch h|.tup _,.ref _,h=>nomatch h
 |.ref _,.non,h=>nomatch h|.ref _,.bl _,h=>nomatch h|.ref _,.int _,h=>nomatch h|.ref _,.str _,h=>nomatch h|.ref _,.tup _,h=>nomatch h|.ref _,.ref _,h=>nomatch h
theorem PH:∀{a b:List W},YB a b=true->a=b
 |[],[],_=>rfl|a::as,b::bs,h=>by
  have h':(a.beq b&&YB as bs)=true:=h;rw[aq]at h';rw[W.eq_of h'.1,PH h'.2]
 |[],_::_,h=>nomatch h
 |_::_,[],h=>nomatch h
end
section
variable {K:Frag}
def FD (K:Frag)(x:Str)(st:Stmt):Prop:=∃f fd,gx K x x st f fd/\nsIn K mainGlobals x=some (some (.ref f))
def zad {st:Stmt}{f:Addr}{b:Value}{o an:bS}{kV doc pm C ct:Value}(a:nsIn K mainGlobals x=some (some (.ref f)))
  (l:K.lookup f=some ⟨b,o,.func (fnOf x x (QW st) (gK st) (qh st) .none kV doc pm an C ct),osl⟩)(c:codeIn K C x=true)(k:keepIn K (.ref f)=true):FD K x st:=⟨f,_,BE l c k,a⟩
def CD (K:Frag)(x:Str)(i:Int):Prop:=∃t,nsIn K mainGlobals x=some (some (.int i t))
def Ay {i:Int}{t:Tok}(a:nsIn K mainGlobals x=some (some (.int i t))):CD K x i:=⟨t,a⟩
def OV (f:Fn):Prop:=∀ns:bF,ns.length<=63->∃A,f [.ref 0] [.ro (ns.map W.int)]=.ok (.bl true) A
def Hk (c:Wy H)(S:qV K H a (ns.map V.int)):zU K [a] [.ro (ns.map W.int)] H:=by
 refine⟨rfl,λi j b o o' m l e d m1 _=>?_,λn o h=>?_⟩
 ·have g:i=0:=by have:=(bY.mp e).1;simp at this;omega
  have f:j=0:=by have:=(bY.mp d).1;simp at this;omega
  omega
 ·have hn:n=0:=by have:=(bY.mp h).1;simp at this;omega
  subst hn;simp at h;subst h;refine⟨a,rfl,ns.map V.int,?_,zL.ints.mpr rfl⟩;rcases S with (z|z)|z
  ·rcases c a with q|⟨ob,xs,q⟩
   ·rw[z]at q;cases q
   ·rw[z]at q;cases q
  ·exact .inl z
  ·exact .inr z
def Ak {l:PySem.W.OpenLaw}{k:Nat}{q:Program}{loose:bK}{d:DefRec}{K:Params->Frag}{f:Fn}(ok:OV f)
  (hn:l.most=some 63)(b:d.params.defaults=[])(i:jZ k callerA)(Y:∀(w:World)(h:Heap),YP w h->(K w.params).In h)
  (F:∀(w:World)(mg:bO)(c:Addr)(h:Heap),(K w.params).In h->h.Ns mainGlobals mg->mg d.name=some (.ref c)->
   ∃fd:FuncData,(∀(s:Shared)(u:Value),BindsTo s fd ⟨[u],[]⟩ [(x,u)])/\∀base:Heap,(K w.params).In base->base.Ns mainGlobals mg->yR l.prog w (K w.params) mg base wB k c fd [x] (Zc (K w.params) 1 f)):
  PySem.W.WalkO q loose XP YP l.row.toRowW d [] (λf vs=>PySem.call f vs):=
 L2.Dk (n:=63) (k:=k) (x:=x) (CX:=λ_=>wB) (sp:=λw=>Zc (K w.params) 1 f) hn (by decide) b i Y F (λw H a ns j m S=>by
  refine⟨rfl,[a],[.ro (ns.map W.int)],[.ref 0],Hk m S,.one ⟨a,rfl,rfl⟩,?_⟩;obtain⟨A,e⟩:=ok ns j;rw[e];exactλg o v _ _ r=>r) λ_ _ _ _ _ z=>z
end
open PySem PySem.Spec PyProof.Rows L2 Mi
@[irreducible] noncomputable def zC (X:Cx)(x:XR)(e:Expr)(m:Ev):Prop:=Mi.SE X x e m
def XO:@zC=@Mi.SE:=by
 funext X xr e m
 unfold zC
 rfl
@[irreducible] noncomputable def w5 (X:Cx)(x:XR)(e:bM)(m:Ea):Prop:=Mi.SA X x e m
def XF:@w5=@Mi.SA:=by
 funext X xr es m
 unfold w5
 rfl
@[irreducible] noncomputable def yJ (X:Cx)(x:XR)(e:Expr)(m:Ev):Prop:=Mi.ST X x e m
def XQ:@yJ=@Mi.ST:=by
 funext X xr e m
 unfold yJ
 rfl
@[irreducible] noncomputable def wI (X:Cx)(x:XR)(e:Expr)(m:Ev):Prop:=Mi.SW X x e m
def X1:@wI=@Mi.SW:=by
 funext X xr e m
 unfold wI
 rfl
@[irreducible] noncomputable def yT (X:Cx)(x:XR)(st:Stmt)(m:Ex):Prop:=Mi.SS X x st m
def XU:@yT=@Mi.SS:=by
 funext X xr st m
 unfold yT
 rfl
@[irreducible] noncomputable def kK (X:Cx)(x:XR)(st:bT)(m:Ex):Prop:=Mi.YF X x st m
def Xx:@kK=@Mi.YF:=by
 funext X xr st m
 unfold kK
 rfl
@[irreducible] noncomputable def kf (X:Cx)(x:XR)(t e:Expr)(m:Ei):Prop:=Mi.SI X x t e m
def XN:@kf=@Mi.SI:=by
 funext X xr tg e m
 unfold kf
 rfl
@[irreducible] noncomputable def kO (X:Cx)(t:Expr)(m:Tg):Prop:=Mi.SG X t m
def XT:@kO=@Mi.SG:=by
 funext X tg m
 unfold kO
 rfl
@[irreducible] noncomputable def Zg (X:Cx)(x:XR)(e:Expr)(m:jD):Prop:=Mi.SF X x e m
def XS:@Zg=@Mi.SF:=by
 funext X xr e m
 unfold Zg
 rfl
@[irreducible] noncomputable def kP (X:Cx)(x:XR)(e:Expr)(m:jD):Prop:=Mi.SQ X x e m
def XH:@kP=@Mi.SQ:=by
 funext X xr e m
 unfold kP
 rfl
@[irreducible] noncomputable def wV (X:Cx)(e:bM)(m:Ev):Prop:=Mi.YN X e m
def Xo:@wV=@Mi.YN:=by
 funext X es m
 unfold wV
 rfl
@[irreducible] noncomputable def wu (X:Cx)(elt:Expr)(gens:List Comprehension)(sc:Scope)(c:Pos)(d:Nat)(em:Em):Prop:=Mi.SM X elt gens sc c d em
def XZ:@wu=@Mi.SM:=by
 funext X elt gens sc cpos d em
 unfold wu
 rfl
section
variable {xr:XR}{K:Frag}{a b c:Expr}{es:bM}{m ma mb mc:Ev}{m1 m2:Ex}{st:Stmt}{rest:bT}
def z9:@zC=@Mi.SE/\@w5=@Mi.SA/\@yJ=@Mi.ST/\@wI=@Mi.SW/\@yT=@Mi.SS/\@kK=@Mi.YF/\@kf=@Mi.SI/\@kO=@Mi.SG/\@Zg=@Mi.SF/\@kP=@Mi.SQ/\@wV=@Mi.YN/\@wu=@Mi.SM:=⟨XO,XF,XQ,X1,XU,Xx,XN,XT,XS,XH,Xo,XZ⟩
def zp {m:Ea}(d:zC X xr e ma)(r:w5 X xr es m)(s:starEach (e::es) X.env=(false,eval e X.env)::starEach es X.env:=by rfl):w5 X xr (e::es) (zh ma m):=by
 try simp only[z9]at*
 exact PA.imp (jK d r s) λσ H Q ⟨φ,A,ρ,S,re,h⟩=>by
   refine tM.go S re (qg.mp h) λw A1 b H1 v g l j c=>?_;refine WL.go j (re.mono l) (qB (qg.mp g) (λ_ _ z=>z) λ_ _ z=>z.mono l) λo A2 a n v2 f l2 i q=>?_;exact f a n _ (l.trans l2) i (.cons (c.mono l2) q)
def zB:w5 X xr [] zr:=by
 try simp only[z9]at*
 exact PA.imp yt λσ H Q ⟨φ,A,ρ,S,re,h⟩=>h φ H [] .refl S .nil
def yg (H:zC X xr a ma)(h:zC X xr b mb):zC X xr (.BinOp a .Add b pos) (zi qM ma mb):=by
 try simp only[z9]at*
 exact gp (CG.or (Cn.or (F0.or Ba))) Br Cg H h
def KA {q:jD}(H:X.calm=true)(hm:X.mg "all"=none)(a:kP X xr e q)(h:Gl X "all":=by rfl)(he:starEach [e] X.env=(false,eval e X.env)::starEach [] X.env:=by rfl):
  zC X xr (.Call (.Name "all" p) [e] [] pos) (mQ Jo q):=by
 try simp only[z9]at*
 exact Yq (Eh H) PM Py hm (by rfl) a h (by decide) (by decide) he (by rfl)
def gG {rest:bM}(f:zC X xr a ma)(e:zC X xr (.BoolOp .And (b::rest) pos) mb):zC X xr (.BoolOp .And (a::b::rest) pos) (ye ma mb):=by
 try simp only[z9]at*
 exact PE.imp (BZ f e) λσ H Q ⟨φ,A,ρ,S,re,h⟩=>by
   refine tM.go S re (qg.mp h) λw A1 d H1 v c l s q=>?_;cases w with
   |bl k=>
    refine⟨k,q,?_⟩;cases k with
    |true=>rw[ag rfl];exact⟨d,A1,ρ,s,re.mono l,qB c (λ_ _ z=>z.mono l) λ_ _ z=>z.mono l⟩|false=>rw[aj ay];exact c d H1 _ l s rfl
   |non=>cases c|int _=>cases c|str _=>cases c|tup _=>cases c|ref _=>cases c|clo _ _ _=>cases c|xc _=>cases c
def DD {q:jD}(H:X.calm=true)(hm:X.mg "any"=none)(a:kP X xr e q)(h:Gl X "any":=by rfl)(he:starEach [e] X.env=(false,eval e X.env)::starEach [] X.env:=by rfl):
  zC X xr (.Call (.Name "any" p) [e] [] pos) (mQ Jv q):=by
 try simp only[z9]at*
 exact Yq (Ft H) PM Py hm (by rfl) a h (by decide) (by decide) he (by rfl)
def kg {i j}:zC X xr (.Constant (.bool i) j pos) (z7 (.bl i)):=by
 try simp only[z9]at*
 exact PE.imp b6 λσ H Q ⟨φ,A,ρ,S,r,h⟩=>h φ H _ .refl S rfl
def kx {g:W->W->Hx->R W}(h:kF X op g)(c:zC X xr a ma)(H:zC X xr b mb)(e:op≠.In:=by decide)(d:op≠.NotIn:=by decide):zC X xr (.Compare a [op] [b] pos) (zi g ma mb):=by
 try simp only[z9]at*
 exact let ⟨r,a1,a2,A⟩:=h.ex;Ob a1 a2 A c H (h.mks b e d)
def CT {o:CmpOp}{g g':W->W->Hx->R W}(h:kF X op g)(h':kF X o g')(e:zC X xr a ma)(d:zC X xr b mb)(H:zC X xr c mc)(hm:lastMarks [op,o] [b,c]=false:=by with_unfolding_all rfl):
  zC X xr (.Compare a [op,o] [b,c] pos) (kE g g' ma mb mc):=by
 try simp only[z9]at*
 exact let ⟨r,a1,a2,A⟩:=h.ex;let ⟨j,i,f,B⟩:=h'.ex;F7 a1 a2 A i f B e d H hm
def zE {k:Nat}{f:Fn}{m:Ea}(F:zG X.prog X.w X.K X.mg X.base k x n f)(r:jZ k X.A)(o:w5 X kM (e::es) m)(d:Jr m n:=by repeat' (first|exact jc|refine qo ?_))(i:Gl X x:=by rfl)
  (c:(x==("__debug__":Str))=false:=by decide)(he:starEach (e::es) X.env=(false,eval e X.env)::starEach es X.env:=by rfl)(l:(backTo pos (starEach es X.env)).any (·.1)=false:=by rfl):
  zC X kM (.Call (.Name x p) (e::es) [] pos) (zx f m):=by
 try simp only[z9]at*
 obtain⟨y,fd,ps,F,hm,g,j⟩:=F;refine PE.imp (ER F r i hm g j .nil cL o c he l) λσ H Q ⟨φ,A,ρ,S,re,h⟩=>?_;have h':=qg.mp h;refine⟨φ,A,ρ,S,re,?_⟩;cases E:m ρ A with
 |ok ws A1=>
  rw[E]at h';intro b H1 vs L t q;have v:vs.length=n:=by rw[<- q.length];exact d ρ A ws A1 E
  rw[append_nil];exact⟨v,b,A1,ws,t,q,qB h' (λ_ _ z=>z.mono L) λx A2 z a u l2 s=>(z a u (L.trans l2) s).elim⟩
 |exc x A1=>rw[E]at h';exact h'|bad=>rw[E]at h';exact h'
def BM {g:W->W->Hx->R W}(h:O0 X op g)(c:zC X xr a ma)(H:zC X xr b mb)(hm:behindInMarks op b=false:=by rfl):zC X xr (.Compare a [op] [b] pos) (zi g ma mb):=by
 try simp only[z9]at*
 exact let ⟨r,a1,a2,A⟩:=h.ex;Ob a1 a2 A c H hm
def HA (t:zC X xr a ma)(he:zC X xr b mb)(s:starEach [b] X.env=(false,eval b X.env)::starEach [] X.env:=by rfl)
  (c:attributeBase a "count" X.env (eval a X.env)=eval a X.env:=by rfl)
  (f:((backTo cpos (starEach [b] X.env)).all (λx=>!x.1)&&(backToKw cpos (keywordEach [] X.env)).all (λx=>x.1.isSome)
   && decide ([b].length+([]:bR).length+(if ([]:bR).isEmpty then 0 else 1)<30))=true:=by rfl)(e:(apos.endLine==cpos.line)=true:=by rfl):
  zC X xr (.Call (.Attribute a "count" apos) [b] [] cpos) (K2 Yj ma mb):=by
 try simp only[z9]at*
 exact PE.imp (AW PySem.F.slot_tuple_count PySem.F.type_tuple_count FC t (jK he yt s) c f e s (by rfl)) λσ H Q ⟨φ,A,ρ,S,re,h⟩=>by
   refine tM.go S re (qg.mp h) λw A1 j H1 v i l y n=>?_;cases w with
   |tup ws=>
    obtain⟨p,vs,rfl,t1,r⟩:=n;refine⟨p,vs,rfl,t1,?_⟩;refine tM.go y (re.mono l) (qB (qg.mp i) (λ_ _ z=>z) λ_ _ z=>z.mono l) λm A2 g B v2 d l2 u q=>?_;unfold Yj at d;dsimp only at d
    by_cases hf:(yd m&&ws.all yd)=true
    ·rw[ag hf]at d
     rw[aq]at hf;obtain⟨o,I⟩:=GP q hf.1 (r.mono l2) hf.2;refine⟨p,vs,v2,rfl,rfl,l2.tp _ _ t1,J3 q hf.1,o,?_⟩;rw[I];rw[Xt]at d;exact d g B _ (l.trans l2) u (by simp[RV])
    ·rw[aj hf]at d;exact d.elim
   |_=>exact i.elim
def DV:zC X xr (.Dict [] [] pos) O6:=by
 try simp only[z9]at*
 exact PE.imp FI λσ H Q ⟨φ,A,ρ,S,re,h⟩ p a=>by
  obtain⟨l,s⟩:=S.alloc (o:=.dct []) a (u:=.dK []) ⟨[],yn,rfl,.nil⟩;exact h _ _ _ l s ⟨p,rfl,by rw[<- S.len];simp⟩
def HD {k:Nat}(u:jZ k X.A)(y:zC X xr a ma)(x:zC X xr b mb)(t:Vq b:=by intro _ _;rfl):zC X xr (.Subscript a b pos) (zi K7 ma mb):=by
 try simp only[z9]at*
 exact PE.imp (D3 (AF u) y x t) λσ H Q ⟨φ,A,ρ,S,re,h⟩=>by
   refine tM.go S re (qg.mp h) λw A1 f H1 v B l C j=>?_;refine tM.go C (re.mono l) (qB (qg.mp B) (λ_ _ z=>z) λ_ _ z=>z.mono l) λg A2 d D v2 c l2 s q=>?_;unfold K7 at c;cases w with
   |ref n=>
    cases g with
    |int i=>
     obtain rfl:=q;dsimp only[Wv]at c;cases e:A2[n]? with
     |none=>rw[e]at c;exact c.elim|some o=>cases o with
      |dct kvs=>
       rw[e]at c;dsimp only at c;obtain⟨p,us,rfl,f1,g1,g2,g3⟩:=s.dct (j.mono l2) e;cases E:yw (.inl i) kvs with
       |none=>rw[E]at c;exact c.elim|some w=>
        rw[E]at c;obtain⟨v,m,r⟩:=(G6 (.inl i) g2 g3).1 w E;refine⟨p,v,rfl,?_,c d D v (l.trans l2) s r⟩;rw[<- m];exact Jl.k (k:=.inl i) g1
      |_=>rw[e]at c;exact c.elim
    |_=>exact c.elim
   |_=>exact c.elim
def FP {i:Int}{t:Tok}(g:Gl X x)(hm:X.mg x=some (.int i t))(hd:(x==("__debug__":Str))=false:=by decide):zC X xr (.Name x pos) (z7 (.int i)):=by
 try simp only[z9]at*
 exact PE.imp (D9 g hm (v:=.int i) ⟨t,rfl⟩ hd) λσ H Q ⟨φ,A,ρ,S,r,h⟩=>h φ H _ .refl S rfl
def CO {c:Expr}(f:yJ X xr c mc)(i:zC X xr a ma)(g:zC X xr b mb):zC X xr (.IfExp c a b pos) (ND mc ma mb):=by
 try simp only[z9]at*
 exact PE.imp (Fh f i g) λσ H Q ⟨φ,A,ρ,S,re,h⟩=>by
   refine tT.go S re (qg.mp h) λw A1 d=>?_;cases w with
   |bl k=>
    refine⟨k,rfl,λe H1 l s=>?_⟩;cases k with
    |true=>rw[ag rfl];exact⟨e,A1,ρ,s,re.mono l,qB d (λ_ _ z=>z.mono l) λ_ _ z=>z.mono l⟩|false=>rw[aj ay];exact⟨e,A1,ρ,s,re.mono l,qB d (λ_ _ z=>z.mono l) λ_ _ z=>z.mono l⟩
   |non=>cases d|int _=>cases d|str _=>cases d|tup _=>cases d|ref _=>cases d|clo _ _ _=>cases d|xc _=>cases d
def zH {i j}:zC X xr (.Constant (.int i) j pos) (z7 (.int i)):=by
 try simp only[z9]at*
 exact PE.imp Ol λσ H Q ⟨φ,A,ρ,S,r,h⟩=>h φ H _ .refl S rfl
def KU (t:Ty){P:Pos}(hm:X.mg "isinstance"=none)(c:X.mg x=none)(f:bootBuiltins x=some (.type t.nm))(i:zC X xr e m)(g:Gl X "isinstance":=by rfl)(d:Gl X x:=by rfl)
  (hn:x ≠ "__name__":=by decide)(hd:(x==("__debug__":Str))=false:=by decide)
  (a:starEach [e,.Name x P] X.env=(false,eval e X.env)::starEach [.Name x P] X.env:=by rfl)(j:(backTo pos (starEach [.Name x P] X.env)).any (·.1)=false:=by rfl):
  zC X xr (.Call (.Name "isinstance" p) [e,.Name x P] [] pos) (YK t m):=by
 try simp only[z9]at*
 exact PE.imp (Km Du g hm (by rfl) (jK i (jK (EK d c f (v:=.ty t.nm) rfl hn hd) yt) a) (by decide) (by decide) a j) λσ H Q ⟨φ,A,ρ,S,re,h⟩=>by
   refine tM.go S re (qg.mp h) λw A1 b H1 v a l s q=>?_;cases E:WR w A1 with
   |none=>rw[E]at a;exact a.elim|some t'=>
    rw[E]at a;exact⟨v,t',t,rfl,Ez s q E,a b H1 _ l s rfl⟩
def qY (c:zC X xr a ma)(H:zC X xr b mb)(h:R9 b:=by intro _ _;rfl):zC X xr (.Subscript a b pos) (zi zI ma mb):=by
 try simp only[z9]at*
 exact PE.imp (cJ CN c H h) (zi.read As CZ)
def ju {q:jD}(hm:X.mg "len"=none)(H:kP X xr e q)(h:Gl X "len":=by rfl)(he:starEach [e] X.env=(false,eval e X.env)::starEach [] X.env:=by rfl):
  zC X xr (.Call (.Name "len" p) [e] [] pos) (mQ qm q):=by
 try simp only[z9]at*
 exact Yq Ly (λ_ _=>jR) DU hm (by rfl) H h (by decide) (by decide) he (by rfl)
def ZZ {q:jD}(h:Zg X xr e q):zC X xr e (jk q):=by
 try simp only[z9]at*
 exact PE.imp h jk.read
def IE {P pos':Pos}(t:X.calm=true)(hm:X.mg "list"=none)(f:X.mg "range"=none)(u:zC X xr a ma)(o:Gl X "list":=by rfl)(g:Gl X "range":=by rfl)(s:starEach [a] X.env=[(false,eval a X.env)]:=by rfl)
  (d:starEach [.Call (.Name "range" P) [a] [] pos'] X.env=(false,eval (.Call (.Name "range" P) [a] [] pos') X.env)::starEach [] X.env:=by rfl):
  zC X xr (.Call (.Name "list" p) [.Call (.Name "range" P) [a] [] pos'] [] pos) (KP ma):=by
 try simp only[z9]at*
 exact PE.imp (J2 (IA t) o hm (by rfl) (jK (Dj g f (jK u yt (by rw[s];rfl)) s) yt d) (by decide) (by decide) d (by rfl)) λσ H Q ⟨φ,A,ρ,S,re,h⟩=>by
   refine tM.go S re (qg.mp h) λw A1 b H1 v c L z q=>?_;cases w with
   |int j=>
    obtain rfl:=q;dsimp only at c
    by_cases e:(jJ j&&decide (j.toNat<=qf))=true
    ·rw[ag e]at c
     rw[aq,ai]at e;refine⟨j,rfl,λp m=>⟨p,j,rfl,yn,Zk e.1,QP e.2,λl n=>?_⟩⟩;have ln:Le X.K b H1 b (upd H1 p (.rng 0 j)):=Le.new m;have r:zL X.K b (upd H1 p (.rng 0 j)) ((List.range j.toNat).map λ(i:Nat)=>W.int i) (Qo j.toNat):=by
      have:=(zL.ints (K:=X.K) (φ:=b) (H:=upd H1 p (.rng 0 j)) (ns:=(List.range j.toNat).map λ(i:Nat)=>(i:Int)) (vs:=Qo j.toNat)).mpr (by unfold Qo;simp)
      rw[aR]at this;exact this
     obtain⟨y,x,B⟩:=Q8 (z.lay m) n r;exact c _ _ _ ((L.trans ln).trans y) x B
    ·rw[aj e]at c;exact c.elim
   |_=>exact c.elim
def j8 {m:Ea}(h:w5 X xr es m)(H:Jr m n)(hn:n<=qf:=by decide):zC X xr (.List es pos) (js m):=by
 try simp only[z9]at*
 exact BK h λρ A ws a e=>by rw[H ρ A ws a e];exact QP hn
def J4 {q:jD}(H:X.calm=true)(hm:X.mg "max"=none)(a:kP X xr e q)(h:Gl X "max":=by rfl)(he:starEach [e] X.env=(false,eval e X.env)::starEach [] X.env:=by rfl):
  zC X xr (.Call (.Name "max" p) [e] [] pos) (mQ yY q):=by
 try simp only[z9]at*
 exact Yq (HG H) Bt Df hm (by rfl) a h (by decide) (by decide) he (by rfl)
def RC (e:X.calm=true)(hm:X.mg "min"=none)(n:zC X xr a ma)(m:zC X xr b mb)(l:Gl X "min":=by rfl)(r:starEach [a,b] X.env=(false,eval a X.env)::starEach [b] X.env:=by rfl)(o:starEach [b] X.env=(false,eval b X.env)::starEach [] X.env:=by rfl)(h:(backTo pos (starEach [b] X.env)).any (·.1)=false:=by rfl):
  zC X xr (.Call (.Name "min" p) [a,b] [] pos) (zi We ma mb):=by
 try simp only[z9]at*
 exact OU (Hh e) gU (λφ A H x y u v Q S d c p=>by
   obtain⟨i,j,s,E,q⟩:=gO (K:=X.K) (f:=λi j=>.int (if j<i then j else i)) (g:=λi j=>.int (if j<i then j else i)) (λ_ _ _ _=>rfl) φ A H x y u v Q S d c p;subst s;subst E;exact⟨i,j,rfl,q⟩) hm (by rfl) n m l (by decide) (by decide) r o h
def kS (H:zC X xr a ma)(h:zC X xr b mb):zC X xr (.BinOp a .Mod b pos) (zi yu ma mb):=by
 try simp only[z9]at*
 exact gp CB Yv (Ym D7 λ_ _ _ _=>rfl) H h
def jE (H:zC X xr a ma)(h:zC X xr b mb):zC X xr (.BinOp a .Mult b pos) (zi zZ ma mb):=by
 try simp only[z9]at*
 exact gp (CI.or Bv) CK Dm H h
def EW (h:zC X xr a ma):zC X xr (.UnaryOp .USub a pos) (ka Qq ma):=by
 try simp only[z9]at*
 exact AY Ou (λx A=>by unfold Qq;split;exact jR;exact jh) (λφ A H x u Q S q p=>by
  cases u with
  |int i=>obtain rfl:=q;exact⟨i,rfl,p φ H _ .refl S rfl⟩|_=>exact p.elim) h
def Xs {j}:zC X xr (.Constant .none j pos) (z7 .non):=by
 try simp only[z9]at*
 exact PE.imp Ae λσ H Q ⟨φ,A,ρ,S,r,h⟩=>h φ H _ .refl S rfl
def EM (d:zC X xr a ma):zC X xr (.UnaryOp .Not a pos) (jW ma):=by
 try simp only[z9]at*
 exact PE.imp (Af d) λσ H Q ⟨φ,A,ρ,S,re,h⟩=>by
   refine tM.go S re (qg.mp h) λw A1 c H1 v b l s q=>?_;cases w with
   |bl k=>exact⟨k,q,b c H1 _ l s rfl⟩|non=>cases b|int _=>cases b|str _=>cases b|tup _=>cases b|ref _=>cases b|clo _ _ _=>cases b|xc _=>cases b
def Z5 {op}(h:zC X xr a ma):zC X xr (.BoolOp op [a] pos) ma:=by
 try simp only[z9]at*
 exact Bb h
def Ig (ho:zC X xr a ma)(he:zC X xr b mb)(hf:zC X xr c mc)(m:starEach [b,c] X.env=(false,eval b X.env)::starEach [c] X.env:=by rfl)(N:starEach [c] X.env=(false,eval c X.env)::starEach [] X.env:=by rfl)
  (j:attributeBase a "setdefault" X.env (eval a X.env)=eval a X.env:=by rfl)
  (r:((backTo cpos (starEach [b,c] X.env)).all (λx=>!x.1)&&(backToKw cpos (keywordEach [] X.env)).all (λx=>x.1.isSome)
   && decide ([b,c].length+([]:bR).length+(if ([]:bR).isEmpty then 0 else 1)<30))=true:=by rfl)(g:(apos.endLine==cpos.line)=true:=by rfl)(M:(backTo cpos (starEach [c] X.env)).any (·.1)=false:=by rfl):
  zC X xr (.Call (.Attribute a "setdefault" apos) [b,c] [] cpos) (Jc gI ma mb mc):=by
 try simp only[z9]at*
 exact PE.imp (OT PySem.F.plainAttrs_dict PySem.F.slot_dict_setdefault PySem.F.type_dict_setdefault HS ho (jK he (jK hf yt N) m) j r g m M) λσ H Q ⟨φ,A,ρ,S,re,h⟩=>by
   refine tM.go S re (qg.mp h) λw A1 φ1 H1 v m D S1 q1=>?_
   by_cases hd:W0 w A1=true
   ·rw[ag hd]at m
    refine⟨Fz S1 q1 hd,?_⟩;refine tM.go S1 (re.mono D) (qB (qg.mp m) (λ_ _ z=>z) λ_ _ z=>z.mono D) λt A2 φ2 H2 v2 N l2 S2 q2=>?_;have l:=D.trans l2;refine tM.go S2 (re.mono l) (qB (qg.mp N) (λ_ _ z=>z) λ_ _ z=>z.mono l) λw3 A3 f T q d l3 P Z=>?_;have L:=l.trans l3;unfold gI at d;cases w with
    |ref n=>cases t with
     |int i=>
      obtain rfl:=q2;dsimp only[Wv]at d;cases s:A3[n]? with
      |none=>rw[s]at d;exact d.elim|some o=>cases o with
       |dct kvs=>
        rw[s]at d;dsimp only at d;obtain⟨p,us,rfl,f1,g1,g2,g3⟩:=P.dct ((q1.mono l2).mono l3) s;have hlen:us.length=kvs.length:=by have:=congrArg List.length g2;simpa using this
        by_cases I:kvs.length<qf
        ·rw[ag I]at d
         have C:=G6 (.inl i) g2 g3;refine⟨p,us,.inl i,q,rfl,rfl,g1,?_,λv' J=>?_,λhn=>?_⟩
         ·rw[hlen]
          have:sizeLine=16777216:=sizeLine_eq
          unfold qf at I;omega
         ·cases E:yw (.inl i) kvs with
          |none=>rw[C.2 E]at J;cases J|some y=>
           rw[E]at d;obtain⟨B,e,Y⟩:=C.1 y E;rw[J]at e;cases e;exact d f T _ L P Y
         ·cases E:yw (.inl i) kvs with
          |some y=>obtain⟨B,e,Y⟩:=C.1 y E;rw[hn]at e;cases e|none=>
           rw[E]at d;dsimp only at d;rw[FV q hn];have ln:Le X.K f T f (upd T p (.dK (us++[(.inl i,q)]))):=Le.upd f1 (λxs z=>by rw[g1]at z;cases z) (λ_ _ z=>by rw[g1]at z;cases z)
           obtain⟨U,t⟩:=P.write (o:=.dct kvs) (o':=.dct (kvs++[(.inl i,w3)])) s rfl rfl f1 (u:=.dK (us++[(.inl i,q)])) ⟨us++[(.inl i,q)],yn,by simp[g2],by
            rw[aP,aP];exact(g3.mono ln).append (.one (Z.mono ln))⟩
           exact d _ _ _ (L.trans U) t (Z.mono U)
        ·rw[aj I]at d;exact d.elim
       |_=>rw[s]at d;exact d.elim
     |_=>exact d.elim
    |_=>exact d.elim
   ·rw[aj hd]at m;exact m.elim
def gJ (H:zC X xr a ma)(h:zC X xr b mb):zC X xr (.BinOp a .Sub b pos) (zi yy ma mb):=by
 try simp only[z9]at*
 exact gp CP gU (gO λ_ _ _ _=>rfl) H h
def Q0 {q:jD}(H:X.calm=true)(hm:X.mg "sum"=none)(a:kP X xr e q)(h:Gl X "sum":=by rfl)(he:starEach [e] X.env=(false,eval e X.env)::starEach [] X.env:=by rfl):
  zC X xr (.Call (.Name "sum" p) [e] [] pos) (mQ jX q):=by
 try simp only[z9]at*
 exact Yq (IP H) CV DP hm (by rfl) a h (by decide) (by decide) he (by rfl)
def wm {x1}{m:Ea}(h:w5 X xr es m)(d:Jr m n)(hn:n<=qf:=by decide):zC X xr (.Tuple es x1 pos) (yk m):=by
 try simp only[z9]at*
 exact PE.imp (Bq h) λσ H Q ⟨φ,A,ρ,S,re,h⟩=>by
   have h':=qg.mp h;cases e:m ρ A with
   |ok ws a=>
    rw[e]at h';refine⟨φ,A,ρ,S,re,?_⟩;rw[e];intro b H1 vs l s q;refine⟨by rw[<- q.length,d ρ A ws a e];exact QP hn,λp c=>?_⟩
    obtain⟨a1,a2,f⟩:=Qf s c q;exact h' _ _ _ (l.trans a1) a2 f
   |exc x a=>rw[e]at h';refine⟨φ,A,ρ,S,re,?_⟩;rw[e];exact h'|bad=>rw[e]at h';exact h'.elim
def jv {q:jD}(hm:X.mg "tuple"=none)(H:kP X xr e q)(h:Gl X "tuple":=by rfl)(he:starEach [e] X.env=(false,eval e X.env)::starEach [] X.env:=by rfl):
  zC X xr (.Call (.Name "tuple" p) [e] [] pos) (mQ qU q):=by
 try simp only[z9]at*
 exact AM MZ (λ_ _=>jR) E1 hm (by rfl) H h (by decide) (by decide) he (by rfl)
def zc (i:Nat)(b:X.N[i]? =some x:=by rfl)(a:WT X.env.scope x:=by first|exact Or.inl rfl|exact Or.inr (Or.inl rfl)|exact Or.inr (Or.inr rfl))(hd:(x==("__debug__":Str))=false:=by decide)
  (d:(x==("__classdict__":Str))=false:=by decide):zC X xr (.Name x pos) (zO i):=by
 try simp only[z9]at*
 exact PE.imp (BP b a hd d) λσ H Q ⟨φ,A,ρ,S,r,h⟩=>by
  unfold zO at h;cases e:ρ[i]? with
  |none=>rw[e]at h;cases h|some o=>cases o with
   |none=>rw[e]at h;cases h|some w=>
    rw[e]at h;obtain⟨v,f,c⟩:=r.get i w e;exact⟨v,f,h φ H v .refl S c⟩
def Fm {iter:Expr}{mi:Ei}{tw:Tg}{m:Ev}{em:Em}(nl:Nat)(cap:bJ)(c:X.calm=true)(S:gm X sc)(p:Zx X.N N sc nl cap=true)(hw:kf X xr tg iter mi)
  (n:∀s H fp,kO (jM X N sc s H fp yx) tg tw/\wV (jM X N sc s H fp yx) ifs m/\wu (jM X N sc s H fp yx) elt (⟨tg,iter,ifs,0⟩::gs) sc pos 0 em)
  (b:∀g',gs[0]? =some g'->g'.is_async=0:=by intro _ h;cases h<;>rfl)
  (a:∀x,foldedSetIterable iter X.env x=pure x:=by intro _;rfl):Zg X xr (.ListComp elt (⟨tg,iter,ifs,0⟩::gs) sc pos) (zT nl cap mi tw m em):=by
 try simp only[z9]at*
 exact PE.imp (Ds (g:=tG X.K tw) (ti:=tT X.K kM m) (tm:=tE X.K em) c S p b hw n a) zT.read
def yK (i j:Nat){y:Str}{q:Pos}{k:Nat}(n:X.calm=true)(h:X.N.Nodup)(l:X.N[i]? =some x:=by rfl)(f:Loc X.env.scope x:=by first|exact Or.inl rfl|exact Or.inr rfl)(hf:X.fn x=true∨X.env.scope.names.lookup x=some .local:=by first|exact .inl rfl|exact .inr rfl)
  (g:X.N[j]? =some y:=by rfl)(d:Loc X.env.scope y:=by first|exact Or.inl rfl|exact Or.inr rfl)(m:X.fn y=true∨X.env.scope.names.lookup y=some .local:=by first|exact .inl rfl|exact .inr rfl):kO X (.Tuple [.Name x p,.Name y q] k pos) (qG i j):=by
 try simp only[z9]at*
 exact PG.imp (XM n (QU (QY h l f hf) (QU (QY h g d m) Xr))) λv σ H Q ⟨φ,A,ρ,w,b,S,re,c,e,K⟩=>by
   unfold qG at e
   split at e
   ·rename_i x1 Y
    have E:=aD e;subst E;obtain⟨a,vs,rfl,s,rs⟩:=c;obtain⟨v1,u,rfl,r,v2,t,rfl,o,rfl⟩:=rs;exact⟨a,[v1,v2],rfl,s,rfl,v1,[v2],rfl,v2,[],rfl,rfl,K _ ((re.set r).set o)⟩
   ·cases e
def HF (i j k:Nat){y z:Str}{q r pp:Pos}{o:Nat}(f:X.calm=true)(c:X.N.Nodup)(E:X.N[i]? =some x:=by rfl)(u:Loc X.env.scope x:=by first|exact Or.inl rfl|exact Or.inr rfl)(hf:X.fn x=true∨X.env.scope.names.lookup x=some .local:=by first|exact .inl rfl|exact .inr rfl)
  (D:X.N[j]? =some y:=by rfl)(t:Loc X.env.scope y:=by first|exact Or.inl rfl|exact Or.inr rfl)(J:X.fn y=true∨X.env.scope.names.lookup y=some .local:=by first|exact .inl rfl|exact .inr rfl)
  (C:X.N[k]? =some z:=by rfl)(s:Loc X.env.scope z:=by first|exact Or.inl rfl|exact Or.inr rfl)(I:X.fn z=true∨X.env.scope.names.lookup z=some .local:=by first|exact .inl rfl|exact .inr rfl):
  kO X (.Tuple [.Name x p,.Tuple [.Name y q,.Name z r] o pp] n pos) (Je i j k):=by
 try simp only[z9]at*
 exact PG.imp (XM f (QU (QY c E u hf) (QU (XM f (QU (QY c D t J) (QU (QY c C s I) Xr))) Xr))) λv σ H Q ⟨φ,A,ρ,w,g,S,re,m,e,K⟩=>by
   unfold Je at e
   split at e
   ·rename_i x1 Y Z
    have U:=aD e;subst U;obtain⟨a,vs,rfl,B,rs⟩:=m;obtain⟨v1,r1,rfl,T,v2,r2,rfl,P,rfl⟩:=rs;obtain⟨a2,l,rfl,h,b⟩:=P;obtain⟨d,r3,rfl,M,v4,r4,rfl,L,rfl⟩:=b;exact⟨a,[v1,.ref a2],rfl,B,rfl,v1,[.ref a2],rfl,.ref a2,[],rfl,a2,[d,v4],rfl,h,rfl,d,[v4],rfl,v4,[],rfl,rfl,rfl,K _ (((re.set T).set M).set L)⟩
   ·cases e
def qC (i:Nat)(c:X.N.Nodup)(b:X.N[i]? =some x:=by rfl)(h:Loc X.env.scope x:=by first|exact Or.inl rfl|exact Or.inr rfl)(hf:X.fn x=true∨X.env.scope.names.lookup x=some .local:=by first|exact .inl rfl|exact .inr rfl):kO X (.Name x pos) (zP i):=by
 try simp only[z9]at*
 exact PG.imp (QY c b h hf) λv σ H Q ⟨φ,A,ρ,w,a,S,re,q,e,k⟩=>by
   have E:ρ.set i (some w)=a:=aD e;subst E;exact k _ (re.set q)
def jB (h:zC X xr e m):kf X xr tg e (qi m):=by
 try simp only[z9]at*
 exact PI.imp (Ai h) λσ H Rr ⟨φ,A,ρ,S,re,h⟩=>by
  refine tM.go S re (qg.mp h) λw A1 g H1 v d U Q T=>?_;unfold Ws at d;cases e:zW w A1 with
  |none=>rw[e]at d;exact d.elim|some ws=>
   rw[e]at d;dsimp only at d;cases w with
   |tup us=>
    obtain⟨a,Y,rfl,j,t⟩:=T;refine⟨a,rfl,.inr ⟨⟨Y,j⟩,d g H1 _ U Q λi c l f lw s=>⟨λD b=>?_,λb=>?_⟩⟩⟩
    ·have E:us[i]? =some D:=aD b
     obtain⟨y,p,J⟩:=(t.monoW lw).get E;refine⟨⟨Y,y,lw.tp _ _ j,p⟩,λx H3 C=>?_⟩;obtain⟨P,N⟩:=C;subst P;have q:=N Y (lw.tp _ _ j);rw[p]at q;cases q;exact⟨.refl,s,J⟩
    ·have E:us[i]? =none:=aD b
     refine⟨Y,lw.tp _ _ j,?_⟩;rw[<- t.length];exact List.getElem?_eq_none_iff.mp E
   |ref n=>
    obtain⟨a,rfl,j⟩:=T;have read:∀{c l f us},Zd X.K g H1 c l->zU X.K c f l->zW (.ref n) f=some us->∃Y,qV X.K l a Y/\zL X.K c l us Y:=λ {c l f us} lw s es=>by
     obtain⟨a',Y,Z,z,r⟩:=Kh (w:=.ref n) (v:=.ref a) s ⟨a,rfl,lw.ex _ _ j⟩ es;cases Z;unfold zW at es;dsimp only at es;cases M:f[n]? with
     |none=>rw[M]at es;cases es|some o=>
      rw[M]at es;obtain⟨a',t,r⟩:=s.ob n o M;rw[lw.ex _ _ j]at t;cases t;cases o with
      |lst xs=>cases es;obtain⟨Y,d,L⟩:=r;exact⟨Y,qV.of d,L⟩|ro xs=>cases es;obtain⟨Y,d,L⟩:=r;exact⟨Y,d.sq,L⟩|dct xs=>cases es|td _=>cases es|tr _=>cases es|tab _ _=>cases es
    obtain⟨B,I,_⟩:=read ⟨λ_ _ h=>h,λ_ _ h=>h,λ_ _ _ h=>h⟩ Q e;refine⟨a,rfl,.inl ⟨⟨B,I⟩,d g H1 _ U Q λi c l f lw s=>⟨λD b=>?_,λb=>?_⟩⟩⟩
    ·dsimp only at b
     cases es:zW (.ref n) f with
     |none=>rw[es]at b;cases b|some us=>
      rw[es]at b;have E:us[i]? =some D:=aD b;obtain⟨Y,u,r⟩:=read lw s es;obtain⟨y,p,J⟩:=r.get E;refine⟨⟨Y,y,u,p⟩,λx H3 C=>?_⟩;obtain⟨P,N⟩:=C;subst P;have q:=N Y u;rw[p]at q;cases q;exact⟨.refl,s,J⟩
    ·dsimp only at b
     cases es:zW (.ref n) f with
     |none=>rw[es]at b;cases b|some us=>
      rw[es]at b;have E:us[i]? =none:=aD b;obtain⟨Y,u,r⟩:=read lw s es;refine⟨Y,u,?_⟩;rw[<- r.length];exact List.getElem?_eq_none_iff.mp E
   |non=>cases e|bl _=>cases e|clo _ _ _=>cases e|xc _=>cases e|int _=>cases e|str _=>cases e
def Z1 (g:Gl X "enumerate")(hm:X.mg "enumerate"=none)(e:zC X xr a ma)(s:starEach [a] X.env=[(false,eval a X.env)]:=by rfl):kf X xr (.Tuple elts kk tpos) (.Call (.Name "enumerate" p) [a] [] pos) (yG ma):=by
 try simp only[z9]at*
 exact PI.imp (DN g hm (jK e yt (by rw[s];rfl)) s) λσ H r ⟨φ,A,ρ,S,re,h⟩=>by
   refine tM.go S re (qg.mp h) λw A1 c H1 v b l d q=>?_;cases es:zW w A1 with
   |none=>rw[es]at b;exact b.elim|some ws=>
    rw[es]at b;obtain⟨p,y,rfl,z,Z⟩:=Kt d q es;exact⟨p,Zy w,y,rfl,z,b c H1 _ l d (cY q)⟩
def Ha (m:zC X xr a ma)(d:attributeBase a "items" X.env (eval a X.env)=eval a X.env:=by rfl)(e:(apos.endLine==cpos.line)=true:=by rfl):
  kf X xr (.Tuple elts kk tpos) (.Call (.Attribute a "items" apos) [] [] cpos) (Yo ma):=by
 try simp only[z9]at*
 exact PI.imp (FE m d e) λσ H r ⟨φ,A,ρ,S,re,h⟩=>by
   unfold Yo at h;cases A with
   |cons o A=>exact h.elim|nil=>
    dsimp only at h;have i:φ=[]:=by have:=S.len;simpa using this
    subst i;refine tM.go S re (qg.mp h) λw A1 j H1 v f l s q=>?_
    split at f
    ·rename_i kvs
     by_cases hn:qI (kvs.map (·.2))=true
     ·rw[ag hn]at f
      obtain⟨p,us,rfl,f1,g1,g2,g3⟩:=s.dct q (kvs:=kvs) rfl;have h0:H p=none:=by
       rcases l.nw 0 p f1 with z|z
       ·simp at z
       ·exact z
      refine⟨p,us,rfl,g1,λo=>?_⟩;have tp:∀c vs,qA X.K H1 c vs->qA X.K (upd H1 p (.frz o (.dK us))) c vs:=λc vs t=>KJ t (λxs z=>by rw[g1]at z;cases z) (λ_ _ z=>by rw[g1]at z;cases z)
      have le:Le X.K [] H [] (upd H1 p (.frz o (.dK us))):=by
       refine⟨λn c z=>z,λc vs t=>tp c vs (l.tp c vs t),λc u b nn=>?_,λn c z=>.inl z,λc z=>?_,λc u U b=>?_⟩
       ·rw[qF (wg b h0)];exact l.fr c u b nn
       ·by_cases g:c=p
        ·rw[g];exact h0
        ·rw[qF g]at z;exact l.st c z
       ·rw[qF (wg b h0)];exact l.fz c u U b
      exact f [] _ _ le zU.none (Aj (o:=o) yn g2 (g3.nrm tp (λc u U b=>by rw[qF (b4 b g1 (by intro z;cases z))];exact b) hn) hn)
     ·rw[aj hn]at f;exact f.elim
    ·exact f.elim
def j9 (g:Gl X "range")(hm:X.mg "range"=none)(e:zC X xr a ma)(s:starEach [a] X.env=[(false,eval a X.env)]:=by rfl):kf X xr tg (.Call (.Name "range" p) [a] [] pos) (jL ma):=by
 try simp only[z9]at*
 exact PI.imp (HN g hm (jK e yt (by rw[s];rfl)) s) λσ H r ⟨φ,A,ρ,S,re,h⟩=>by
   refine tM.go S re (qg.mp h) λw A1 c H1 v b l i q=>?_;cases w with
   |int j=>
    obtain rfl:=q;dsimp only at b
    by_cases d:jJ j=true
    ·rw[ag d]at b
     obtain⟨f,B⟩:=Zk d;exact⟨j,rfl,f,B,b c H1 _ l i Om⟩
    ·rw[aj d]at b;exact b.elim
   |non=>exact b.elim|bl _=>exact b.elim|str _=>exact b.elim|tup _=>exact b.elim|ref _=>exact b.elim|clo _ _ _=>exact b.elim|xc _=>exact b.elim
def Fc (n:Gl X "range")(hm:X.mg "range"=none)(r:zC X xr a ma)(o:zC X xr b mb)(s:starEach [a,b] X.env=[(false,eval a X.env),(false,eval b X.env)]:=by rfl)(d:starEach [b] X.env=[(false,eval b X.env)]:=by rfl):kf X xr tg (.Call (.Name "range" p) [a,b] [] pos) (OC ma mb):=by
 try simp only[z9]at*
 exact PI.imp (HP n hm (jK r (jK o yt (by rw[d];rfl)) (by rw[s,d])) s d) λσ H I ⟨φ,A,ρ,S,re,h⟩=>by
   refine tM.go S re (qg.mp h) λw A1 g H1 v t l D Q=>?_;refine tM.go D (re.mono l) (qB (qg.mp t) (λ_ _ z=>z) λ_ _ z=>z.mono l) λm A2 f E v2 c l2 C q=>?_;cases w with
   |int i=>
    obtain rfl:=Q;cases m with
    |int j=>
     obtain rfl:=q;dsimp only at c
     by_cases e:(jJ i&&jJ j)=true
     ·rw[ag e]at c
      rw[aq]at e;obtain⟨y,x⟩:=Zk e.1;obtain⟨u,B⟩:=Zk e.2;exact⟨i,j,rfl,⟨y,x,u,B⟩,c f E _ (l.trans l2) C Om⟩
     ·rw[aj e]at c;exact c.elim
    |non=>exact c.elim|bl _=>exact c.elim|str _=>exact c.elim|tup _=>exact c.elim|ref _=>exact c.elim|clo _ _ _=>exact c.elim|xc _=>exact c.elim
   |non=>exact c.elim|bl _=>exact c.elim|str _=>exact c.elim|tup _=>exact c.elim|ref _=>exact c.elim|clo _ _ _=>exact c.elim|xc _=>exact c.elim
def Eo {d P:Pos}{k}(o:Gl X "range")(hm:X.mg "range"=none)(s:zC X xr a ma)(r:zC X xr b mb)
  (f:starEach [a,b,.UnaryOp .USub (.Constant (.int 1) k d) P] X.env=(false,eval a X.env)::starEach [b,.UnaryOp .USub (.Constant (.int 1) k d) P] X.env:=by rfl)
  (c:starEach [b,.UnaryOp .USub (.Constant (.int 1) k d) P] X.env=(false,eval b X.env)::starEach [.UnaryOp .USub (.Constant (.int 1) k d) P] X.env:=by rfl)
  (t:(backTo pos (starEach [b,.UnaryOp .USub (.Constant (.int 1) k d) P] X.env)).any (·.1)=false:=by rfl):
  kf X xr tg (.Call (.Name "range" p) [a,b,.UnaryOp .USub (.Constant (.int 1) k d) P] [] pos) (Yr ma mb):=by
 try simp only[z9]at*
 exact PI.imp (IY o hm (jK s (jK r (jK (OJ Ou Ol) yt (by rfl)) c) f) f t) λσ H I ⟨φ,A,ρ,S,re,h⟩=>by
   refine tM.go S re (qg.mp h) λw A1 m H1 v f l D Q=>?_;refine tM.go D (re.mono l) (qB (qg.mp f) (λ_ _ z=>z) λ_ _ z=>z.mono l) λn A2 g E v2 c l2 C q=>?_;cases w with
   |int i=>
    obtain rfl:=Q;cases n with
    |int j=>
     obtain rfl:=q;dsimp only at c
     by_cases e:(jJ i&&jJ j)=true
     ·rw[ag e]at c
      rw[aq]at e;obtain⟨y,x⟩:=Zk e.1;obtain⟨u,B⟩:=Zk e.2;exact⟨1,rfl,i,j,rfl,⟨y,x,u,B⟩,c g E _ (l.trans l2) C cX⟩
     ·rw[aj e]at c;exact c.elim
    |_=>exact c.elim
   |_=>exact c.elim
def gH (r:Gl X "zip")(hm:X.mg "zip"=none)(u:zC X xr a ma)(t:zC X xr b mb)(i:starEach [a,b] X.env=(false,eval a X.env)::starEach [b] X.env:=by rfl)(f:starEach [b] X.env=(false,eval b X.env)::starEach [] X.env:=by rfl)(o:(backTo pos (starEach [b] X.env)).any (·.1)=false:=by rfl):
  kf X xr (.Tuple elts kk tpos) (.Call (.Name "zip" p) [a,b] [] pos) (jH ma mb):=by
 try simp only[z9]at*
 exact PI.imp (Cy r hm (jK u (jK t yt f) i) i o) λσ H I ⟨φ,A,ρ,S,re,h⟩=>by
   refine tM.go S re (qg.mp h) λw A1 j H1 v x l B n=>?_;refine tM.go B (re.mono l) (qB (qg.mp x) (λ_ _ z=>z) λ_ _ z=>z.mono l) λg A2 d C v2 c l2 s Q=>?_;cases es:zW w A2 with
   |none=>rw[es]at c;exact c.elim|some us=>
    cases e:zW g A2 with
    |none=>rw[es,e]at c;exact c.elim|some vs=>
     rw[es,e]at c;have q:=n.mono l2;obtain⟨p,xs,rfl,m,E⟩:=Kt s q es;obtain⟨P,y,rfl,Z,D⟩:=Kt s Q e;exact⟨p,P,Zy w,Zy g,xs,y,rfl,m,Z,c d C _ (l.trans l2) s (AK q Q)⟩
def DQ {d:Nat}{me:Ev}(x:∀e s,X.xe e s->False)(he:zC X kM elt me)(m:gens[d+1]? =none):wu X elt gens sc pos d (zR me):=by
 try simp only[z9]at*
 exact kQ.imp (Er x he m) λD σ H Q ⟨φ,A,ρ,acc,y,S,re,o,n,r,h⟩=>by
   refine tM.go S re (Xk (qg.mp h)) λw A1 g H1 v f l p q=>?_;obtain⟨c,n1⟩:=l.off o n
   by_cases z:acc.length<qf
   ·rw[ag z]at f
    have j:=r.length;refine⟨y,c,?_,?_⟩
    ·rw[<- j]
     have:sizeLine=16777216:=sizeLine_eq
     unfold qf at z;omega
    ·exact f g _ σ _ (l.toD.trans (yA.upd c)) n1 (p.off c n1) ⟨re.len,λi w e=>let ⟨v,a,b⟩:=re.get i w e;⟨v,a,(b.mono l).monoD (yA.upd c)⟩⟩ yn
      (((r.mono l).monoD (yA.upd c)).append (.one (q.monoD (yA.upd c))))
   ·rw[aj z]at f;exact f.elim
def Xw {iter:Expr}{d:Nat}{mi:Ei}{tw:Tg}{m:Ev}{em:Em}(o:∀e s,X.xe e s->False)(w:X.calm=true)(v:gens[d+1]? =some ⟨tg,iter,ifs,0⟩)(y:∀g',gens[d+2]? =some g'->g'.is_async=0)
  (hw:kf X kM tg iter mi)(t:kO X tg tw)(u:wV X ifs m)(hm:wu X elt gens sc pos (d+1) em)(q:∀x,foldedSetIterable iter X.env x=pure x:=by intro _;rfl):wu X elt gens sc pos d (k5 mi tw m em):=by
 try simp only[z9]at*
 exact kQ.imp (Ef o w v y hw t u hm q) λD σ H Q ⟨φ,A,ρ,acc,Y,S,re,B,n,f,h⟩=>by
   refine⟨φ,A,ρ,S,re,qB (Xk (qg.mp h)) (λj A1 E c H1 J l M i=>?_) λ_ _ z=>z⟩;obtain⟨K,n1⟩:=l.off B n;exact jl.read i M (re.mono l) K n1 (f.mono l) (qB E (λp A2 C a P b zs l2 N L r I g=>C a P b zs (l.toD.trans l2) N L r I g) λ_ _ z=>z)
def qJ (h:zC X xr e m):kP X xr e (zV m):=by
 try simp only[z9]at*
 exact PE.imp h λσ H Q ⟨φ,A,ρ,S,re,h⟩=>by
  refine tM.go S re (qg.mp h) λw A1 c H1 v b l s q=>?_;cases e:zW w A1 with
  |none=>rw[e]at b;exact b.elim|some ws=>
   rw[e]at b;obtain⟨a,y,rfl,d,E⟩:=Kh s q e;exact b c H1 a y l s d E
def jx {q:jD}(h:Zg X xr e q):kP X xr e q:=by
 try simp only[z9]at*
 exact PE.imp h λσ H Q ⟨φ,A,ρ,S,re,h⟩=>
  ⟨φ,A,ρ,S,re,qB h (λws A1 c a H1 D y l s h0 b n r=>c a H1 D y l s (.inl (qV.of b)) r) λ_ _ z=>z⟩
def Ec {o i:Expr}{mo mi:Ev}(ho:zC X xr o mo)(hi:zC X xr i mi)(he:zC X xr e m)
  (ha:∀c I new,augStore i c I new=(do holding [new,c,I] (setItem c I new);release [new,c,I] [];pure .next):=by intros;rfl):yT X xr (.AugAssign (.Subscript o i tpos) .Add e pos) (Yw mo mi m):=by
 try simp only[z9]at*
 exact PS.imp (Di ho hi ED he BJ set_list ha) λD σ H ⟨φ,A,ρ,S,re,h⟩=>by
   refine tM.go S re (qg.mp h) λP A1 J H1 v1 h1 j S1 q=>?_;refine tM.go S1 (re.mono j) (qB (qg.mp h1) (λ_ _ z=>z) λ_ _ z=>z.mono j) λw A2 C H2 v2 a l2 s Y=>?_;have l:=j.trans l2;cases P with
   |ref n=>cases w with
    |int k=>
     obtain rfl:=Y;dsimp only at a
     by_cases h0:0<=k
     ·rw[ag h0]at a
      cases d:(A2[n]?:Option O) with
      |none=>rw[d]at a;exact a.elim|some ob=>cases ob with
       |lst ws=>
        rw[d]at a;dsimp only at a;obtain⟨p,vs,rfl,f1,g1,T⟩:=s.lst (q.mono l2) d;cases E:ws[k.toNat]? with
        |none=>rw[E]at a;exact a.elim|some M=>cases M with
         |int x=>
          rw[E]at a;dsimp only at a;obtain⟨v,Z,Q⟩:=T.get E;obtain rfl:=Q;refine⟨p,vs,k,_,rfl,rfl,h0,g1,Z,?_⟩;refine tM.go s (re.mono l) (qB (qg.mp a) (λ_ _ z=>z) λ_ _ z=>z.mono l) λN B g H3 v3 b l3 S3 U=>?_;have L:=l.trans l3;cases N with
          |int y=>
           obtain rfl:=U;dsimp only at b;refine⟨x,y,rfl,rfl,?_⟩;refine RM (K:=X.K) g B H3 (.ref p) (.int k) (.int (x+y)) (.ref n) (.int k) (.int (x+y)) _ S3 ((q.mono l2).mono l3) rfl rfl ?_;cases r:k6 (.ref n) (.int k) (.int (x+y)) B with
           |ok u t=>
            rw[r]at b;exactλf H4 l4 S4=>b f H4 σ (L.trans l4) S4 (re.mono (L.trans l4))
           |exc z t=>exact absurd r (Og _ _ _ _ z t)|bad=>rw[r]at b;exact b.elim
          |_=>exact b.elim
         |_=>rw[E]at a;exact a.elim
       |_=>rw[d]at a;exact a.elim
     ·rw[aj h0]at a;exact a.elim
    |_=>exact a.elim
   |_=>cases w<;>exact a.elim
def Q5:yT X xr st Qn:=by
 try simp only[z9]at*
 exactλpins s σ H D I ⟨φ,A,ρ,S,re,h⟩=>h.elim
def zu (a:yT X xr st m1)(d:kK X xr rest m2):kK X xr (st::rest) (zq m1 m2):=by
 try simp only[z9]at*
 exact yU.imp (Fq a d) λD σ H ⟨φ,A,ρ,S,re,h⟩=>by
   refine⟨φ,A,ρ,S,re,qB (qg.mp h) (λf A1 a=>?_) λ_ _ z=>z⟩;cases f with
   |nx ρ1=>exactλb e c l s r=>⟨b,A1,ρ1,s,r,qB a (λ_ _ z=>z.mono l) λ_ _ z=>z.mono l⟩|rt w=>exact a|bk ρ1=>exact a|ct ρ1=>exact a
def jw (he:zC X xr e m)(s:swapsWith e none pos.line X.env=pure false:=by rfl):yT X xr (.Expr e pos) (jd m):=by
 try simp only[z9]at*
 exact PS.imp (E7 he s) λD σ H ⟨φ,A,ρ,S,re,h⟩=>tM.go S re (qg.mp h) λw A1 a H1 v b l c q=>b a H1 σ l c (re.mono l)
def j4 {iter:Expr}{mi:Ei}{tw:Tg}(hp:PassesOwn (model X.prog X.w) X.A X.env X.xe)(hc:X.calm=true)(hi:kf X xr tg iter mi)(hg:kO X tg tw)(hb:kK X xr body m1)
  (hs:∀x,foldedSetIterable iter X.env x=pure x:=by intro _;rfl):yT X xr (.For tg iter body [] pos) (jm mi tw m1):=by
 try simp only[z9]at*
 exact PS.imp (Bf hp hc hi hg hb hs) λD σ H ⟨φ,A,ρ,S,re,h⟩=>by
   refine⟨φ,A,ρ,S,re,qB (qg.mp h) (λj A1 h1 g H1 J L S1 jr=>?_) λ_ _ z=>z⟩;refine⟨λi f d v=>Nq X.K xr j (turn tw m1) D g H1 f i d v,
    ⟨j.len,g,A1,ρ,.refl,S1,re.mono L,qB h1 (λ_ _ z=>z.mono L) λ_ _ z=>z.mono L⟩,?_⟩
   rintro i f B P ⟨c,A2,n,l2,N,p,b⟩
   obtain⟨j1,j2⟩:=jr i c P A2 ⟨l2.ex,l2.tp,l2.fz⟩ N;cases E:j.at_ A2 i with
   |none=>cases f<;>(unfold jT at b;rw[E]at b;exact b.elim)|some o=>
    cases o with
    |none=>
     left
     refine⟨j2 E,?_⟩;cases f<;>(unfold jT at b;rw[E]at b;exact b c P B .refl N p)
    |some w=>
     right
     obtain⟨go,Y⟩:=j1 w E;cases f with
     |zero=>unfold jT at b;rw[E]at b;exact b.elim|succ f=>
      unfold jT at b;rw[E]at b;refine⟨go,λd v=>Nq X.K xr j (turn tw m1) D g H1 f (i+1) d v,λd v z=>⟨f,br _,z⟩,λx H3 y=>?_⟩;obtain⟨l3,M,Z⟩:=Y x H3 y;have q:=qg.mp b;unfold turn at q;cases I:tw w n with
      |none=>rw[I]at q;exact q.elim|some m=>
       rw[I]at q;refine⟨c,A2,n,w,m,M,p.mono l3,Z,I,λT C=>?_⟩;refine⟨c,A2,m,M,C,qB q (λfl Q u=>?_) λ_ _ z=>z.mono l3⟩;cases fl with
       |nx e=>exactλa t l l4 s r=>⟨a,Q,e,(l2.trans l3).trans l4,s,r,qB u (λ_ _ z=>z.mono (l3.trans l4)) λ_ _ z=>z.mono (l3.trans l4)⟩|ct e=>exactλa t l l4 s r=>⟨a,Q,e,(l2.trans l3).trans l4,s,r,qB u (λ_ _ z=>z.mono (l3.trans l4)) λ_ _ z=>z.mono (l3.trans l4)⟩|bk e=>exactλa t l l4 s r=>u a t l (l3.trans l4) s r|rt w4=>exactλa t v4 l4 s U=>u a t v4 (l3.trans l4) s U
def jF {sa s:bT}(e:yJ X xr c mc)(g:kK X xr sa m1)(f:kK X xr s m2):yT X xr (.If c sa s pos) (qR mc m1 m2):=by
 try simp only[z9]at*
 exact PS.imp (cp e g f) λD σ H ⟨φ,A,ρ,S,re,h⟩=>by
   refine tT.go S re (qg.mp h) λw A1 a=>?_;cases w with
   |bl k=>
    refine⟨k,rfl,λb H1 l d=>?_⟩;cases k with
    |true=>rw[ag rfl];exact⟨b,A1,ρ,d,re.mono l,qB a (λ_ _ z=>z.mono l) λ_ _ z=>z.mono l⟩|false=>rw[aj ay];exact⟨b,A1,ρ,d,re.mono l,qB a (λ_ _ z=>z.mono l) λ_ _ z=>z.mono l⟩
   |non=>cases a|int _=>cases a|str _=>cases a|tup _=>cases a|ref _=>cases a|clo _ _ _=>cases a|xc _=>cases a
def zD:kK X xr [] zA:=by
 try simp only[z9]at*
 exact yU.imp EN λD σ H ⟨φ,A,ρ,S,re,h⟩=>h φ H σ .refl S re
def qk (he:zC X xr e m):yT X xr (.Return (some e) pos) (qt m):=by
 try simp only[z9]at*
 exact PS.imp (BN he) λD σ H ⟨φ,A,ρ,S,re,h⟩=>tM.go S re (qg.mp h) λw A1 a H1 v b l s q=>b a H1 v l s q
def qE (i:Nat){pos':Pos}(b:X.N.Nodup)(he:zC X xr e m)(a:X.N[i]? =some x:=by rfl)(h:Loc X.env.scope x:=by first|exact Or.inl rfl|exact Or.inr rfl)(H:swapsWith e (some (.Name x pos')) pos.line X.env=pure false:=by rfl)
  (hf:X.fn x=true∨X.env.scope.names.lookup x=some .local:=by first|exact .inl rfl|exact .inr rfl):yT X xr (.Assign [.Name x pos'] e pos) (zX i m):=by
 try simp only[z9]at*
 exact PS.imp (BX b a h he H hf) zX.read
def ZW (i:Nat){iter:Expr}{mi:Ei}{tw:Tg}{m:Ev}{em:Em}{P a:Pos}(nl:Nat)(cap:bJ)(j:X.N.Nodup)
  (e:X.calm=true)(S:gm X sc)(p:Zx X.N N sc nl cap=true)(hw:kf X xr tg iter mi)
  (n:∀s H fp,kO (jM X N sc s H fp yx) tg tw/\wV (jM X N sc s H fp yx) ifs m/\wu (jM X N sc s H fp yx) elt (⟨tg,iter,ifs,0⟩::gs) sc pos 0 em)
  (b:X.N[i]? =some x:=by rfl)(c:X.env.scope.names.lookup x=some .local:=by rfl)
  (w:swapsWith (.ListComp elt (⟨tg,iter,ifs,0⟩::gs) sc pos) (some (.Name x P)) a.line X.env=pure true:=by rfl)
  (f:∀g',gs[0]? =some g'->g'.is_async=0:=by intro _ h;cases h<;>rfl)
  (d:∀x,foldedSetIterable iter X.env x=pure x:=by intro _;rfl):yT X xr (.Assign [.Name x P] (.ListComp elt (⟨tg,iter,ifs,0⟩::gs) sc pos) a) (zX i (jk (zT nl cap mi tw m em))):=by
 try simp only[z9]at*
 exact PS.imp (L2.Ik (g:=tG X.K tw) (ti:=tT X.K kM m) (tm:=tE X.K em) j b c w e S p f hw n d) λD σ H h=>zT.read σ H _ (jk.read σ H _ (zX.read D σ H h))
def Z0 (h:wI X xr e m):yJ X xr e m:=by
 try simp only[z9]at*
 exact PW.pt h
def j5 {g:W->W->Hx->R W}(h:kF X op g)(c:zC X xr a ma)(H:zC X xr b mb)(e:op≠.In:=by decide)(d:op≠.NotIn:=by decide):yJ X xr (.Compare a [op] [b] pos) (zi g ma mb):=by
 try simp only[z9]at*
 exact let ⟨r,a1,a2,A⟩:=h.ex;Aa a1 a2 A c H (h.mks b e d)
def Cz {o:CmpOp}{g g':W->W->Hx->R W}(h:kF X op g)(h':kF X o g')(e:zC X xr a ma)(d:zC X xr b mb)(H:zC X xr c mc)(hm:lastMarks [op,o] [b,c]=false:=by with_unfolding_all rfl):
  yJ X xr (.Compare a [op,o] [b,c] pos) (kE g g' ma mb mc):=by
 try simp only[z9]at*
 exact let ⟨r,a1,a2,A⟩:=h.ex;let ⟨j,i,f,B⟩:=h'.ex;HX a1 a2 A i f B e d H hm
def kU (f:yJ X xr a ma):yJ X xr (.UnaryOp .Not a pos) (jW ma):=by
 try simp only[z9]at*
 exact PT.imp (BS f) λσ H Q ⟨φ,A,ρ,S,re,h⟩=>by
   refine tT.go S re (qg.mp h) λw A1 c=>?_;cases w with
   |bl k=>obtain⟨b,e,q⟩:=c;cases e;exact⟨k,rfl,λd H1 l s=>q d H1 l s⟩|non=>cases c|int _=>cases c|str _=>cases c|tup _=>cases c|ref _=>cases c|clo _ _ _=>cases c|xc _=>cases c
def kB (h:zC X xr e m)(he:∀whole,isTrue e X.env whole=(do let v <- whole;standAt e.pos;holding [v] (truthy v)):=by intro _;rfl):yJ X xr e m:=by
 try simp only[z9]at*
 exact PT.imp (CU h he) λσ H Q h=>h.toM
def qN:wV X [] (z7 (.bl true)):=by
 try simp only[z9]at*
 exactλpins s σ H Q I ⟨φ,A,ρ,S,re,h⟩=>FW pins s σ H Q I (by
  obtain⟨b,e,q⟩:=h;cases e;exact q φ H .refl S)
def FQ (h:yJ X kM c mc):wV X [c] mc:=by
 try simp only[z9]at*
 exact Fb h
def RX {rest:bM}(g:yJ X xr a ma)(f:wI X xr (.BoolOp .And (b::rest) pos) mb):wI X xr (.BoolOp .And (a::b::rest) pos) (ye ma mb):=by
 try simp only[z9]at*
 exact PW.imp (pw_and g f) λσ H Q ⟨φ,A,ρ,S,re,h⟩=>by
   refine tT.go S re (qg.mp h) λw A1 c=>?_;cases w with
   |bl k=>
    refine⟨k,rfl,λd H1 l s=>?_⟩;cases k with
    |true=>rw[ag rfl];exact tT.mono s l re c|false=>rw[aj ay];obtain⟨b,e,q⟩:=c;cases e;exact q d H1 l s
   |non=>cases c|int _=>cases c|str _=>cases c|tup _=>cases c|ref _=>cases c|clo _ _ _=>cases c|xc _=>cases c
def RB (h:yJ X xr a ma):wI X xr (.BoolOp .And [a] pos) ma:=by
 try simp only[z9]at*
 exact pw_and1 h
def Yh {rest:bM}(g:yJ X xr a ma)(f:wI X xr (.BoolOp .Or (b::rest) pos) mb):wI X xr (.BoolOp .Or (a::b::rest) pos) (wc ma mb):=by
 try simp only[z9]at*
 exact PW.imp (pw_or g f) λσ H Q ⟨φ,A,ρ,S,re,h⟩=>by
   refine tT.go S re (qg.mp h) λw A1 c=>?_;cases w with
   |bl k=>
    refine⟨k,rfl,λd H1 l s=>?_⟩;cases k with
    |false=>rw[aj ay];exact tT.mono s l re c|true=>rw[ag rfl];obtain⟨b,e,q⟩:=c;cases e;exact q d H1 l s
   |non=>cases c|int _=>cases c|str _=>cases c|tup _=>cases c|ref _=>cases c|clo _ _ _=>cases c|xc _=>cases c
def Ya (h:yJ X xr a ma):wI X xr (.BoolOp .Or [a] pos) ma:=by
 try simp only[z9]at*
 exact pw_or1 h
def qD {K:Frag}{st:Stmt}{f:Addr}{ps:bK}{k:Nat}{m:Ex}(F:gx K x x st f fd)(hm:mg x=some (.ref f))(S:qv N ps (qh st))
  (i:∀(kV doc pm:Value)(an:bS)(c ct:Value)(us:bG),us.length=ps.length->bindArgs (fnOf x x (QW st) (gK st) (qh st) .none kV doc pm an c ct) ⟨us,[]⟩=pure (ps.zip us))
  (a:∀(c:Value)(A:Around)(outer:bP)(s:Shared)(H:Hp)(E:XK),jZ k (A.deeper (envOfC x (qh st) s.heap.objs.size f c))->kK (ZC wB P w K mg base N x (qh st) f c A outer s H E).nox kM (gK st) m):
  zG P w K mg base (k+1) x ps.length (qu N.length m):=by
 try simp only[z9]at*
 refine⟨f,fd,ps,?_,hm,F.kp,F.binds i⟩;refine F.ok S (λvs H Q E h=>h.len) λc A outer s H vs Q E g ⟨q,φ,A1,ws,n,r,h⟩=>⟨_,a c A outer s H E g,?_⟩;refine⟨φ,A1,ws.map some++List.replicate (N.length-ws.length) none,n,RE.start r,?_⟩;have h':=qg.mp h;show R.post _ (FB K φ H _) _;cases e:m (ws.map some++List.replicate (N.length-ws.length) none) A1 with
 |ok j A2=>
  rw[e]at h';cases j with
  |rt w=>exact h'|nx ρ=>exactλb p d l o _=>h' b p .non l o rfl|bk ρ=>exact h'.elim|ct ρ=>exact h'.elim
 |exc y A2=>
  rw[e]at h';exact h'.elim
 |bad=>rw[e]at h';exact h'.elim
def c0 {K:Frag}{st:Stmt}{f:Addr}{ps:bK}{k:Nat}{m:Ex}(F:gx K x x st f fd)(S:qv N ps (qh st))
  (a:∀(c:Value)(A:Around)(outer:bP)(s:Shared)(H:Hp)(E:XK),jZ k (A.deeper (envOfC x (qh st) s.heap.objs.size f c))->kK (ZC wB P w K mg base N x (qh st) f c A outer s H E).nox kM (gK st) m):
  yR P w K mg base wB (k+1) f fd ps (Zc K ps.length (qu N.length m)):=by
 try simp only[z9]at*
 refine F.ok S (λvs H Q E h=>h.len) λc A outer s H vs Q E g ⟨p,φ,A1,ws,j,r,h⟩=>⟨_,a c A outer s H E g,?_⟩;refine⟨φ,A1,ws.map some++List.replicate (N.length-ws.length) none,j,RE.start r,?_⟩;have h':=qg.mp h;show R.post _ (FB K φ H _) _;cases e:m (ws.map some++List.replicate (N.length-ws.length) none) A1 with
 |ok i A2=>
  rw[e]at h';cases i with
  |rt w=>exact h'|nx ρ=>exactλb o d l n _=>h' b o .non l n rfl|bk ρ=>exact h'.elim|ct ρ=>exact h'.elim
 |exc y A2=>rw[e]at h';exact h'.elim|bad=>rw[e]at h';exact h'.elim
def gj (i:zC X xr a ma)(he:zC X xr b mb)(s:starEach [b] X.env=(false,eval b X.env)::starEach [] X.env:=by rfl)
  (e:attributeBase a "append" X.env (eval a X.env)=eval a X.env:=by rfl)
  (w:((backTo cpos (starEach [b] X.env)).all (λx=>!x.1)&&(backToKw cpos (keywordEach [] X.env)).all (λx=>x.1.isSome)
   && decide ([b].length+([]:bR).length+(if ([]:bR).isEmpty then 0 else 1)<30))=true:=by rfl)(h:(apos.endLine==cpos.line)=true:=by rfl):
  zC X xr (.Call (.Attribute a "append" apos) [b] [] cpos) (jU yr ma mb):=by
 try simp only[z9]at*
 exact K8 PySem.F.slot_list_append PySem.F.type_list_append Sz Hn (λφ A H x y u v Q S g q p=>by
   unfold yr at p;cases u with
   |ref n=>
    dsimp only at p;cases E:A[n]? with
    |none=>rw[E]at p;exact p.elim|some o=>cases o with
     |lst ws=>
      rw[E]at p;dsimp only at p
      by_cases c:ws.length<qf
      ·rw[ag c]at p
       obtain⟨l,vs,rfl,f1,g1,r⟩:=S.lst g E;refine⟨l,vs,y,rfl,rfl,g1,?_,?_⟩
       ·rw[<- r.length]
        have:sizeLine=16777216:=sizeLine_eq
        unfold qf at c;omega
       ·have ln:Le X.K φ H φ (upd H l (.lst (vs++[y]))):=Le.upd f1 (λxs z=>by rw[g1]at z;cases z) (λ_ _ z=>by rw[g1]at z;cases z)
        obtain⟨f,d⟩:=S.write (o:=.lst ws) (o':=.lst (ws++[v])) E rfl rfl f1 ⟨_,yn,(r.mono ln).append (.one (q.mono ln))⟩;exact p _ _ _ f d rfl
      ·rw[aj c]at p;exact p.elim
     |_=>rw[E]at p;exact p.elim
   |_=>exact p.elim) i he s e w h
def G4 (hm:X.mg "int"=none)(a:zC X xr e m)(h:Gl X "int":=by rfl)(he:starEach [e] X.env=(false,eval e X.env)::starEach [] X.env:=by rfl):zC X xr (.Call (.Name "int" p) [e] [] pos) (ka Yx m):=by
 try simp only[z9]at*
 exact Bj Hw (λw A=>by unfold Yx;split;exact jR;exact jR;exact jh) (λφ A H x u Q S q p=>by
   cases u with
   |int i=>obtain rfl:=q;exact .inl ⟨i,rfl,p φ H _ .refl S rfl⟩|bl k=>obtain rfl:=q;exact .inr ⟨k,rfl,p φ H _ .refl S rfl⟩|_=>exact p.elim) hm (by rfl) a h (by decide) (by decide) he (by rfl)
def Fy (e:X.calm=true)(hm:X.mg "max"=none)(n:zC X xr a ma)(m:zC X xr b mb)(l:Gl X "max":=by rfl)(r:starEach [a,b] X.env=(false,eval a X.env)::starEach [b] X.env:=by rfl)(o:starEach [b] X.env=(false,eval b X.env)::starEach [] X.env:=by rfl)(h:(backTo pos (starEach [b] X.env)).any (·.1)=false:=by rfl):
  zC X xr (.Call (.Name "max" p) [a,b] [] pos) (zi X5 ma mb):=by
 try simp only[z9]at*
 exact OU (Hf e) gU (λφ A H x y u v Q S d c p=>by
   obtain⟨i,j,s,E,q⟩:=gO (K:=X.K) (f:=λi j=>.int (if j > i then j else i)) (g:=λi j=>.int (if j > i then j else i)) (λ_ _ _ _=>rfl) φ A H x y u v Q S d c p;subst s;subst E;exact⟨i,j,rfl,q⟩) hm (by rfl) n m l (by decide) (by decide) r o h
def I9 (B:zC X xr a ma)(he:zC X xr b mb)(t:starEach [b] X.env=(false,eval b X.env)::starEach [] X.env:=by rfl)
  (e:attributeBase a "pop" X.env (eval a X.env)=eval a X.env:=by rfl)
  (c:((backTo cpos (starEach [b] X.env)).all (λx=>!x.1)&&(backToKw cpos (keywordEach [] X.env)).all (λx=>x.1.isSome)
   && decide ([b].length+([]:bR).length+(if ([]:bR).isEmpty then 0 else 1)<30))=true:=by rfl)(h:(apos.endLine==cpos.line)=true:=by rfl):
  zC X xr (.Call (.Attribute a "pop" apos) [b] [] cpos) (jU wU ma mb):=by
 try simp only[z9]at*
 exact K8 PySem.F.slot_list_pop PySem.F.type_list_pop Eb FY (λφ A H x y u v Q S s q p=>by
   unfold wU at p;cases u with
   |ref n=>cases v with
    |int i=>
     obtain rfl:=q;dsimp only at p;cases E:A[n]? with
     |none=>rw[E]at p;exact p.elim|some o=>cases o with
      |lst ws=>
       rw[E]at p;dsimp only at p
       by_cases d:jJ i=true
       ·rw[ag d]at p
        obtain⟨J,I⟩:=Zk d;cases g:seqIndex? i ws.length with
        |none=>rw[g]at p;exact p.elim|some k=>
         rw[g]at p;dsimp only at p;cases f:ws[k]? with
         |none=>rw[f]at p;exact p.elim|some w=>
          rw[f]at p;obtain⟨l,vs,rfl,f1,g1,r⟩:=S.lst s E;obtain⟨y,D,C⟩:=r.get f;have ln:Le X.K φ H φ (upd H l (.lst (vs.eraseIdx k))):=Le.upd f1 (λxs z=>by rw[g1]at z;cases z) (λ_ _ z=>by rw[g1]at z;cases z)
          obtain⟨j,m⟩:=S.write (o:=.lst ws) (o':=.lst (ws.eraseIdx k)) E rfl rfl f1 ⟨_,yn,(r.erase k).mono ln⟩;exact⟨l,vs,i,k,y,rfl,rfl,g1,by omega,by omega,by rw[<- r.length];exact g,D,p _ _ _ j m (C.mono j)⟩
       ·rw[aj d]at p;exact p.elim
      |_=>rw[E]at p;exact p.elim
    |_=>exact p.elim
   |_=>cases v<;>exact p.elim) B he t e c h
def RR (H:zC X xr a ma)(h:zC X xr b mb):zC X xr (.BinOp a .Pow b pos) (zi WD ma mb):=by
 try simp only[z9]at*
 exact gp BQ Yv (Ym R5 λ_ _ _ _=>rfl) H h
def RU (H:zC X xr a ma)(h:zC X xr b mb):zC X xr (.BinOp a .BitXor b pos) (zi Vm ma mb):=by
 try simp only[z9]at*
 exact gp BA gU (gO λ_ _ _ _=>rfl) H h
def FZ {q:jD}(hm:X.mg "list"=none)(d:kP X xr e q)(g:Gl X "list":=by rfl)(he:starEach [e] X.env=(false,eval e X.env)::starEach [] X.env:=by rfl):
  zC X xr (.Call (.Name "list" p) [e] [] pos) (jk q):=by
 try simp only[z9]at*
 exact PE.imp (J2 Lz g hm (by rfl) (jK d yt he) (by decide) (by decide) he (by rfl)) λσ H Q ⟨φ,A,ρ,S,re,h⟩=>by
   refine⟨φ,A,ρ,S,re,qB (qg.mp h) (λws A1 f b H1 a y L s z r=>?_) λ_ _ z=>z⟩;refine⟨a,y,rfl,z,λl c=>?_⟩;obtain⟨a1,a2,i⟩:=Q8 s c r;exact f _ _ _ (L.trans a1) a2 i
def RP {o i:Expr}{mo mi:Ev}(he:zC X xr e m)(H:zC X xr o mo)(a:zC X xr i mi)
  (h:swapsWithSole [.Subscript o i tpos] e pos.line X.env=pure false:=by rfl)(hw:swappedStores [.Subscript o i tpos] e X.env=pure none:=by rfl)
  (c:(assignEach [.Subscript o i tpos] X.env).map (·.2)=[assign (.Subscript o i tpos) X.env]:=by rfl)
  (b:∀v,assign (.Subscript o i tpos) X.env v=(do
   let ov <- holding [v] (eval o X.env)
   let iv <- holding [v,ov] (eval i X.env)
   standAt tpos
   holding [v,ov,iv] (setItem ov iv v)
   release [v,ov,iv] []):=by intro _;rfl):yT X xr (.Assign [.Subscript o i tpos] e pos) (Jd k6 m mo mi):=by
 try simp only[z9]at*
 exact Ew set_list Og RM he H a h hw c b
def Hs (f:Nat)(x:PassesOwn (model X.prog X.w) X.A X.env X.xe)(y:yJ X xr c mc)(B:kK X xr body m1):yT X xr (.While c body [] pos) (Ot f mc m1):=by
 try simp only[z9]at*
 exact PS.imp (Fs x y B) λD σ H ⟨φ,A,ρ,S,re,h⟩=>by
   refine⟨λf g e=>∃a A2 d,Le X.K φ H a e/\zU X.K a A2 e/\RE X.K a e d g/\(gX mc m1 f d A2).post (FB X.K a e D) (EB X.K a e xr),⟨f,φ,A,ρ,.refl,S,re,h⟩,?_⟩
   rintro f q M ⟨a,A2,d,l2,E,m,t⟩
   cases f with
   |zero=>exact t.elim|succ f=>
    unfold gX at t;refine tT.go E m (qg.mp t) λw J j=>?_;cases w with
    |bl k=>
     refine⟨k,rfl,λn I l3 u=>?_⟩;cases k with
     |true=>
      rw[ag rfl];refine⟨λg e=>∃a A2 d,Le X.K φ H a e/\zU X.K a A2 e/\RE X.K a e d g/\(gX mc m1 f d A2).post (FB X.K a e D) (EB X.K a e xr),λg e z=>⟨f,br _,z⟩,?_⟩;refine⟨n,J,d,u,m.mono l3,qB (qg.mp j) (λC v p=>?_) λ_ _ z=>z.mono l3⟩;cases C with
      |nx i=>exactλb o l l4 s r=>⟨b,v,i,(l2.trans l3).trans l4,s,r,qB p (λ_ _ z=>z.mono (l3.trans l4)) λ_ _ z=>z.mono (l3.trans l4)⟩|ct i=>exactλb o l l4 s r=>⟨b,v,i,(l2.trans l3).trans l4,s,r,qB p (λ_ _ z=>z.mono (l3.trans l4)) λ_ _ z=>z.mono (l3.trans l4)⟩|bk i=>exactλb o l l4 s r=>p b o l (l3.trans l4) s r|rt L=>exactλb o v4 l4 s Q=>p b o v4 (l3.trans l4) s Q
     |false=>
      rw[aj ay];exact j n I q l3 u (m.mono l3)
    |non=>cases j|int _=>cases j|str _=>cases j|tup _=>cases j|ref _=>cases j|clo _ _ _=>cases j|xc _=>cases j
end
end Mi
variable {mi:Mi.Ei}{em:Mi.Em}{ρ:Mi.En}{m me:Mi.Ev}{A A1:Mi.Hx}{us ws:List Mi.W}{tw:Mi.Tg}{g:Mi.W->Mi.W->Mi.Hx->Mi.R Mi.W}{xr:Mi.XR}{q:Mi.jD}{j:Mi.jt}
set_option maxHeartbeats 4000000
namespace Mi
open PySem L2
section
variable {ρ1:En}{A2:Hx}{w x y:W}{ma mb mc:Ev}{m1 m2:Ex}{f:Fn}
def zo (h:ρ[i]? =some (some w)):zO i ρ A=.ok w A:=by unfold zO;rw[h]
def qw:z7 w ρ A=.ok w A:=rfl
def zN (H:ma ρ A=.ok x A1)(h:mb ρ A1=.ok y A2):zi g ma mb ρ A=g x y A2:=by unfold zi;rw[H,zS,h,zS]
def Bg {g:W->Hx->R W}(h:ma ρ A=.ok x A1):ka g ma ρ A=g x A1:=by unfold ka;rw[h,zS]
def wq {k:Bool}(h:ma ρ A=.ok (.bl k) A1):jW ma ρ A=.ok (.bl (!k)) A1:=by unfold jW;rw[h,zS]
def gL (h:ma ρ A=.ok (.bl true) A1):ye ma mb ρ A=mb ρ A1:=by unfold ye;rw[h,zS]
def Oa (h:ma ρ A=.ok (.bl false) A1):ye ma mb ρ A=.ok (.bl false) A1:=by unfold ye;rw[h,zS]
def Yp (h:ma ρ A=.ok (.bl false) A1):wc ma mb ρ A=mb ρ A1:=by unfold wc;rw[h,zS]
def zQ {a:Ea}(h:a ρ A=.ok ws A1):zx f a ρ A=f ws A1:=by unfold zx;rw[h,zS]
def zM:zr ρ A=.ok [] A:=rfl
def zy {r:Ea}(H:ma ρ A=.ok x A1)(h:r ρ A1=.ok ws A2):zh ma r ρ A=.ok (x::ws) A2:=by unfold zh;rw[H,zS,h,zS]
def Xp {a:Ea}(h:a ρ A=.ok ws A1):yk a ρ A=.ok (.tup ws) A1:=by unfold yk;rw[h,zS]
def kC {a:Ea}(h:a ρ A=.ok ws A1):js a ρ A=.ok (.ref A1.length) (A1++[.lst ws]):=by unfold js;rw[h,zS]
def zK (h:m1 ρ A=.ok (.nx ρ1) A1):zq m1 m2 ρ A=m2 ρ1 A1:=by unfold zq;rw[h,zS]
def qy (h:m1 ρ A=.ok (.rt w) A1):zq m1 m2 ρ A=.ok (.rt w) A1:=by unfold zq;rw[h,zS]
def jf:zA ρ A=.ok (.nx ρ) A:=rfl
def qK (h:m ρ A=.ok w A1):zX i m ρ A=.ok (.nx (ρ.set i (some w))) A1:=by unfold zX;rw[h,zS]
def yh (h:m ρ A=.ok w A1):jd m ρ A=.ok (.nx ρ) A1:=by unfold jd;rw[h,zS]
def qX (h:m ρ A=.ok w A1):qt m ρ A=.ok (.rt w) A1:=by unfold qt;rw[h,zS]
def Qm (h:mc ρ A=.ok (.bl true) A1):qR mc m1 m2 ρ A=m1 ρ A1:=by unfold qR;rw[h,zS]
def yc (h:mc ρ A=.ok (.bl false) A1):qR mc m1 m2 ρ A=m2 ρ A1:=by unfold qR;rw[h,zS]
def yM (h:mi ρ A=.ok j A1):jm mi tw m1 ρ A=jT j (turn tw m1) j.len 0 ρ A1:=by unfold jm;rw[h,zS]
def kq (h:tw w ρ=some ρ1):turn tw m1 w ρ A=m1 ρ1 A:=by unfold turn;rw[h]
def GW {st:W->Ex}(h:j.at_ A i=some none):jT j st n i ρ A=.ok (.nx ρ) A:=by
 cases n with
 |zero=>unfold jT;rw[h]|succ n=>unfold jT;rw[h]
def Ko {st:W->Ex}(h:j.at_ A i=some (some w))(H:st w ρ A=.ok (.nx ρ1) A1):jT j st (n+1) i ρ A=jT j st n (i+1) ρ1 A1:=by
 rw[jT,h];dsimp only;rw[H,zS]
def Z2 {k:Int}(h:m ρ A=.ok (.int k) A1)(H:jJ k=true):jL m ρ A=.ok (kZ 0 k.toNat) A1:=by unfold jL;rw[h,zS];dsimp only;rw[ag H]
def Qc {lo:Int}{k:Nat}(h:i<k):(kZ lo k).at_ A i=some (some (.int (lo+i))):=by unfold kZ;dsimp only;rw[ag h]
def Z8 {lo:Int}{k:Nat}(h:¬i<k):(kZ lo k).at_ A i=some none:=by unfold kZ;dsimp only;rw[aj h]
def qQ (h:m1 (ws.map some++List.replicate (n-ws.length) none) A=.ok (.rt w) A1):qu n m1 ws A=.ok w A1:=by unfold qu;rw[h];rfl
def Yb (h:m1 (ws.map some++List.replicate (n-ws.length) none) A=.ok (.nx ρ) A1):qu n m1 ws A=.ok .non A1:=by unfold qu;rw[h];rfl
def yb {w:W}(hn:qI ws=true)(hw:w.nr=true)(h:f ws []=.ok w A1):iso f ws A=.ok w A:=by
 unfold iso;rw[ag hn,h];cases w with
 |ref k=>cases hw|_=>dsimp only;rw[ag hw]
end
end Mi
set_option maxHeartbeats 4000000
namespace Mi
open PySem L2
def F3 {ifs:Ev}{c:En}{N:Nat}{item g:Nat->W}{keep:Nat->Bool}(t:∀i,i<N->j.at_ A i=some (some (item i)))(d:j.at_ A N=some none)
  (b:∀i,i<N->ifs (some (item i)::c) A=.ok (.bl (keep i)) A)(he:∀i,i<N->keep i=true->me (some (item i)::c) A=.ok (g i) A):
  ∀(n i:Nat)(x:Option W)(acc:List W),i+n=N->acc.length+n<=qf->∃y,jl j (zP 0) ifs (zR me) n i (x::c) acc A=.ok (y::c,acc++((List.range' i n).filter keep).map g) A:=by
 intro n
 induction n with
 |zero=>
  intro i x acc h _
  have:i=N:=by omega
  subst this;refine⟨x,?_⟩;unfold jl;rw[d];simp
 |succ n I=>
  intro i x acc h l;have H:i<N:=by omega
  rw[jl,t i H];dsimp only[zP,List.set];rw[b i H,zS];rw[range'_succ];cases a:keep i with
  |true=>
   dsimp only;obtain⟨y,e⟩:=I (i+1) (some (item i)) (acc++[g i]) (by omega) (by rw[aE,aZ];omega)
   refine⟨y,?_⟩;have E:zR me (some (item i)::c) acc A=.ok (some (item i)::c,acc++[g i]) A:=by
    unfold zR;rw[he i H a,zS,ag (by omega)]
   rw[E,zS];dsimp only;rw[e,List.filter_cons_of_pos a,aS,aQ]
   rfl
  |false=>
   dsimp only;obtain⟨y,e⟩:=I (i+1) (some (item i)) acc (by omega) (by omega)
   exact⟨y,by rw[e,List.filter_cons_of_neg (by rw[a];exact ay)]⟩
def L5 {ifs:Ev}{N:Nat}{item g:Nat->W}{keep:Nat->Bool}(hm:mi ρ A=.ok j A)(a:j.len=N)(d:N<=qf)
  (H:∀i,i<N->j.at_ A i=some (some (item i)))(h:j.at_ A N=some none)(b:∀i,i<N->ifs (some (item i)::cap.map λi=>(ρ[i]?).join) A=.ok (.bl (keep i)) A)
  (he:∀i,i<N->keep i=true->me (some (item i)::cap.map λi=>(ρ[i]?).join) A=.ok (g i) A):
  zT 1 cap mi (zP 0) ifs (zR me) ρ A=.ok (((List.range N).filter keep).map g) A:=by
 obtain⟨y,e⟩:=F3 H h b he N 0 none [] (zero_add N) (by simpa using d)
 unfold zT;rw[hm,zS,a];have c:Qk 1 cap ρ=none::cap.map λi=>(ρ[i]?).join:=rfl;rw[c,e,bA,<- range_eq_range']
 rfl
def gE {N:Nat}{item g:Nat->W}(hm:mi ρ A=.ok j A)(a:j.len=N)(c:N<=qf)
  (t:∀i,i<N->j.at_ A i=some (some (item i)))(H:j.at_ A N=some none)(he:∀i,i<N->me (some (item i)::cap.map λi=>(ρ[i]?).join) A=.ok (g i) A):
  zT 1 cap mi (zP 0) (z7 (.bl true)) (zR me) ρ A=.ok ((List.range N).map g) A:=by
 have h:=L5 (ifs:=z7 (.bl true)) (keep:=λ_=>true) hm a c t H (λ_ _=>rfl) λi b _=>he i b;have f:(List.range N).filter (λ_=>true)=List.range N:=List.filter_eq_self.mpr λ_ _=>rfl;rw[f]at h;exact h
def jS {g:List W->Hx->R W}(h:q ρ A=.ok ws A1):mQ g q ρ A=g ws A1:=by unfold mQ;rw[h,zS]
def kR (h:q ρ A=.ok ws A1):jk q ρ A=.ok (.ref A1.length) (A1++[.lst ws]):=by unfold jk;rw[h,zS]
def yE {w:W}(h:m ρ A=.ok w A1)(H:zW w A1=some ws):zV m ρ A=.ok ws A1:=by unfold zV;rw[h,zS,H]
open PySem PySem.Spec PyProof.Rows L2
noncomputable def mJ:List Ev->Str->Ev
 |[],acc=>λ_ A=>.ok (.str acc) A|m::ms,acc=>λρ A=>(m ρ A).bind λw A1=>match w with
  |.str y=>if (acc++y).length<=sizeLine then mJ ms (acc++y) ρ A1 else .bad|_=>.bad
section
variable {es:bM}{ms:List Ev}
inductive SJ (X:Cx)(xr:XR):List Expr->List Ev->Prop where
 |nil:SJ X xr [] []
 |cons {e:Expr} {es:bM} {m:Ev} {ms:List Ev} (h:SE X xr e m) (r:SJ X xr es ms):SJ X xr (e::es) (m::ms)
end
open PySem PySem.W PySem.Spec PySem.Calls PyProof.Rows Builtin Builtin.ObjectAttr Builtin.Getset_descriptor
section
variable {ma mb:Ev}
noncomputable def WG (m:Ev)(tw:Tg):Ex:=λρ A=>(m ρ A).bind λw A1=>match tw w ρ with
 |some a=>.ok (.nx a) A1|none=>.bad
noncomputable def g0 (i j:Nat)(ma m:Ev):Ex:=λρ A=>(ma ρ A).bind λx A1=>(m ρ A1).bind λy A2=>.ok (.nx ((ρ.set i (some x)).set j (some y))) A2
end
open Classical in
def Yf:W->W->Hx->R W:=λx y A=>match x,y with
 |.ref n,.ref k=>match A[n]?,A[k]? with
  |some (.lst ws),some (.lst us)=>if ws.length+us.length<=qf then .ok .non (A.set n (.lst (ws++us))) else .bad|_,_=>.bad
 |_,_=>.bad
def HM:∀x y A,qT (Yf x y A):=λx y A=>by
 unfold Yf
 split
 ·split
  ·exact gR jR jh
  ·exact jh
 ·exact jh
section
variable {prog:Program}{A:Around}
noncomputable abbrev wX (led:Bool):Obj:={ cls:=.type "set",dict:=none,data:=.set #[] 0 (.fresh 0 0 led) }
noncomputable abbrev g7 (ns:bF)(k:Nat):bF:=firstMet (λi=>ns.getD i 0) k
def Lp {led:Bool}{t:Addr}(x:A.handled=none)(ht:s.heap.IsTuple t its.toArray)(r:IntsAre its ns)(y:its.length+1<scanBound)
  (h:∀(h':Heap)(m:Nat),h'.SetOf (intKind prog w) s.heap.objs.size (λk=>(g7 ns its.length).any (·==k)) (g7 ns its.length).length->
   (∀b o,b<s.heap.objs.size->s.heap.get? b=some o->h'.get? b=some o)->Q .none { s with heap:=h',toks:=m }):
  codeAny (model prog w) A (.call (.builtin "set.__init__") ⟨[.ref s.heap.objs.size,.ref t],[]⟩) (wants Q E) { s with heap:=s.heap.push (wX led) }:=by
 have g:(s.heap.push (wX led)).get? s.heap.objs.size=some (wX led):=aA _ rfl;refine codeAny_call_builtin F.called_set.init.plain F.entry_set_init (check_set_init_1 ⟨_,g,rfl⟩ ?_);obtain⟨ob,f,d,n,H⟩:=ht;obtain⟨K,J,q,p⟩:=ob;dsimp only at d H;cases d;cases H;have g1:=af (wX led) f;have n1:=F.sub_tuple_set;have N:=F.sub_tuple_frozenset;have n3:(Value.type "tuple" == Value.type "dict")=false:=by decide
 have j:(s.heap.push (wX led)).IsTuple t its.toArray:=⟨_,g1,rfl,n,rfl⟩;unfold Builtin.«set.__init__» noKeywords Builtin.Frozenset.updateFrom;generalize u:pyIter=PI
 wp_walk
 subst u;refine wpAny_pyIter_tuple j (bU (wpAny_runValue ?_));have lt:t<s.heap.objs.size:=aI f;have sz:(s.heap.push (wX led)).objs.size=s.heap.objs.size+1:=bg ..;have ne:t≠(s.heap.push (wX led)).objs.size:=by rw[sz];exact aT (bb lt)
 have W:=(Walks.tuple (prog:=prog) (w:=w) (A:=A.in1.in1) (by simp[x]) (s.heap.push (wX led)).objs.size t ne its.toArray).toS
 have c:its.toArray.size=its.length:=az;rw[c]at W;have off:s.heap.objs.size∉[(s.heap.push (wX led)).objs.size,t]:=by
  rw[sz];intro hm;rcases b0.mp hm with z|hm
  ·exact aT (br _) z
  ·exact ne_of_gt lt (b1.mp hm)
 refine codeAny_set_update_loopS W s.heap.objs.size off (λi=>ns.getD i 0) (λi v e=>IntsAre.int_at r i v (by simpa using e)) y its.length 0 _ rfl (zero_le _) ⟨⟨_,aA _ rfl,rfl,rfl⟩,j.push _⟩ ?_ ?_
 ·exact SetOf_congr ((setObjOf_fresh (knd:=intKind prog w) led).setOf (af _ g) (by unfold scanBound;omega)) (λ_=>rfl) rfl
 ·intro S mv I
  obtain⟨h',g',d',T,a⟩:=S;have D:g'=s.gens:=mv.gens;have C:d'=s.drawn:=mv.drawn;have B:a=s.os:=mv.os;subst D C B;refine bV ?_;show wpAny _ _ (ret Value.none) _ _ _;refine bV (h h' T I λb o l e=>mv.heap b o (λhm=>?_) (af _ (af _ e)));rcases b0.mp hm with z|hm
  ·exact aT l z
  ·exact aT (bb l) ((b1.mp hm).trans sz)
def LB {t:Addr}(l:A.handled=none)(ht:s.heap.IsTuple t its.toArray)(j:IntsAre its ns)(m:its.length+1<scanBound)
  (h:∀(h':Heap)(a:Nat),h'.SetOf (intKind prog w) s.heap.objs.size (λk=>(g7 ns its.length).any (·==k)) (g7 ns its.length).length->
   (∀b o,b<s.heap.objs.size->s.heap.get? b=some o->h'.get? b=some o)->Q (.ref s.heap.objs.size) { s with heap:=h',toks:=a }):
  wpAny (model prog w) A (call (.type "set") [.ref t]) Q E s:=by
 obtain⟨c,p,g⟩:=F.called_set.mro;have a1:=F.called_set.made;have a2:=F.called_set.sub;have z:=F.called_set.notType;have y:=F.called_set.canCreate;have x:=F.typeCall_set_1 (.ref t);refine wpAny_call (codeAny_of_tree ?_);show wpAny _ _ (callAny (.type "set") _) _ _ _;refine bV ⟨Code.quiet_builtin _ (by decide +kernel),codeAny_builtin F.entry_type_call ?_⟩
 rw[Around.under_plain (weight_type_call_type "set" [.ref t] []) rfl]
 repeat (any_goals (first|assumption|wp_step))
 refine codeAny_mono (code_set_new_1 (.ref t) (E:=E) (Q₁:=λu s1=>∃led,u=.ref s.heap.objs.size/\s1={ s with heap:=s.heap.push (wX led) }) λled=>⟨led,rfl,rfl⟩) λr s1 d=>?_
 cases r with
 |error e=>exact d|ok n=>
  cases n with
  |ret u=>
   obtain⟨led,rfl,rfl⟩:=d;have T:Shared.TypeIs { s with heap:=s.heap.push (wX led) } (.ref s.heap.objs.size) "set":=⟨_,aA _ rfl,rfl⟩
   have q:=F.called_set.init.lookup;have B:=F.called_set.init.bind (.ref s.heap.objs.size)
   repeat (any_goals (first|assumption|wp_step))
   refine codeAny_mono (Lp (E:=E) (Q:=λv s2=>v=.none/\∃h' a,s2={ s with heap:=h',toks:=a }/\h'.SetOf (intKind prog w) s.heap.objs.size (λk=>(g7 ns its.length).any (·==k)) (g7 ns its.length).length/\
    ∀b o,b<s.heap.objs.size->s.heap.get? b=some o->h'.get? b=some o) (by simp[l]) ht j m λh' a S K=>⟨rfl,h',a,rfl,S,K⟩) λi s2 H=>?_
   cases i with
   |error e=>exact H|ok f=>
    cases f with
    |ret v=>
     obtain⟨rfl,h',a,rfl,S,K⟩:=H
     repeat (any_goals (first|assumption|wp_step))
     exact h _ _ S K
    |_=>exact H.elim
  |_=>exact d.elim
end
def intsAre_of:∀{ns:bF}{i:bG},Vals (ns.map V.int) i->IntsAre i ns:=by
 intro ns
 induction ns with
 |nil=>intro i h;cases h;exact .nil|cons n ns I=>
  intro i h;cases h with
  |cons r t=>obtain⟨T,rfl⟩:=r;exact .cons n T (I t)
section
abbrev Nl (ns:bF):HO:=.set (λk=>(g7 ns ns.length).any (·==k)) (g7 ns ns.length).length
def A9 (K:Frag):List V->Hp->VK->Prop:=λxs H Q=>∃p ns,xs=[.ref p]/\qA K H p (ns.map V.int)/\ns.length<=100/\∀l,H l=none->Q (.ref l) (upd H l (Nl ns))
def HH (d:X.calm=true):yv X (.type "set") (A9 X.K):=by
 intro pins s σ H xs us Q I r h;obtain⟨p,ns,rfl,c,z,q⟩:=h;obtain⟨u,rfl,a⟩:=vals1 r;cases a;obtain⟨i,v,P,_⟩:=I.tuple c;have hlen:i.length=ns.length:=by have:=v.length;rw[ae]at this;omega
 refine LB (I.ok.hd d) P (intsAre_of v) (by unfold scanBound;omega) λh' t S kp=>?_
 rw[hlen]at S;exact⟨.ref s.heap.objs.size,_,I.laid (t':=t) (o:=Nl ns) (λb o e=>kp b o (aI e) e) (ao _) S,rfl,q _ (I.hok.fresh (ao _))⟩
def Ht:yv X (.builtin "len") (λxs H Q=>∃p S n,xs=[.ref p]/\H p=some (.set S n)/\n<=100/\Q (.int n) H):=by
 intro pins s σ H xs us Q I r h;obtain⟨p,S,n,rfl,b,z,q⟩:=h;obtain⟨u,rfl,a⟩:=vals1 r;cases a;obtain⟨o,e,E,t,c,ex,hd,_,_,_,hf,hn⟩:=(show jG X.prog X.w H s.heap p (.set S n) from I.hok p _ b)
 subst hn;exact call_len_set c ex hd hf (by omega) ⟨.int e.size,H,I.tok _,⟨_,rfl⟩,q⟩
def PC:W->Hx->R W:=λw A=>match w with
 |.tup ws=>match intsOf ws with
  |some ns=>if ns.length<=100 then .ok (.int (g7 ns ns.length).length) A else .bad|none=>.bad
 |_=>.bad
def Pu (m:Ev):Ev:=λρ A=>(m ρ A).bind λw A1=>PC w A1
end
section
def YC:=w9 WE λi j=>.int (i * 2 ^ j.toNat)
end
section
open PySem.SeqAt
open PySem.AutoSeq1 (wpAny_loadPart')
open PySem.MeetsSeq PySem.MeetsSeq2 PySem.MeetsSeq3
end
open PySem
open PySem PySem.Spec PyProof.Rows
namespace F
end F
section
variable {prog:Program}{A:Around}
def NO {t S:Addr}{l v:Value}{lo i:bN}(ht:IsTup s.heap t items)(c:s.heap.IsSliceOf S l v .none)(p:IsPart l lo)(pu:IsPart v i)
  (hw:HT.qj items.size 0 lo=0/\HT.qj items.size items.size i=items.size)(h:Q (.ref t) s):wpAny (model prog w) A (getItem (.ref t) (.ref S)) Q E s:=by
 obtain⟨os,H,a,d⟩:=id c;have b:s.TypeIs (.ref S) "slice":=⟨os,H,a⟩;unfold getItem
 try with_reducible refine wpAny_holding ?_
 first|refine bU (bV ?_)|skip
 refine bU (wpAny_sequenceKey ht.typeIs (by decide) ?_)
 refine bU (wpAny_callSpecial?_slot (name:=Str.ofString "__getitem__") ht.typeIs PyProof.Rows.slot_tuple_getitem
  (wpAny_call_entry PyProof.Rows.slot_tuple_getitem ht.typeIs PyProof.Rows.entry_tuple_getitem ?_ (PyProof.Rows.args_tuple_getitem _ _)))
 show wpAny _ _ (Builtin.Tuple.tupleItemsOf (.ref t) >>= _) _ _ s;refine bU (PyProof.Rows.tupleItemsOf_ ht ?_);refine bU (wpAny_typeOf b ?_);rw[ag (by decide)]
 refine bU (HT.Ud c p pu ?_);show wpAny _ _ (if (((HT.qj items.size 0 lo:Nat):Int)==0&&(1:Int)==1&&(HT.qj items.size items.size i-HT.qj items.size 0 lo)==items.size)=true then _ else _) _ _ s;rw[ag (by rw[hw.1,hw.2];simp)]
 unfold Builtin.Tuple.tupleIsExact;refine bU (bU (wpAny_typeOf ht.typeIs (bV ?_)));rw[ag (by decide)]
 refine bU (wpAny_rule ?_)
 first
  |exact bV ⟨_,rfl,bV h⟩
  |exact bU (bV (bV ⟨_,rfl,bV h⟩))
end
section
variable {a:Expr}{lo hi:Option Expr}{K:Frag}
def Ng (K:Frag):V->Option Int->Option Int->Hp->VK->Prop:=λx lo h H Q=>∃a xs,x=.ref a/\qA K H a xs/\
 ((HT.qj xs.length 0 lo=0/\HT.qj xs.length xs.length h=xs.length)->Q (.ref a) H)/\
 (¬(HT.qj xs.length 0 lo=0/\HT.qj xs.length xs.length h=xs.length)->∀p,H p=none->Q (.ref p) (upd H p (.tup (wY xs lo h))))
def DM:YG X (Ng X.K):=by
 intro pins s σ H x v l u lo e S Q I b d p pu h;obtain⟨a,xs,rfl,c,f,q⟩:=h
 by_cases hw:HT.qj xs.length 0 lo=0/\HT.qj xs.length xs.length e=xs.length
 ·cases b
  obtain⟨i,r,ht,z⟩:=I.tuple c;have hlen:i.toArray.size=xs.length:=by rw[az];exact r.length.symm
  exact⟨"tuple",_,PyProof.Rows.slot_tuple_getitem.lookup,ht.typeIs,NO ht d p pu (by rw[hlen];exact hw) ⟨.ref a,H,I,rfl,f hw⟩⟩
 ·exact C0 pins s σ H _ v l u lo e S Q I b d p pu ⟨a,xs,rfl,c,hw,q hw⟩
abbrev Po:=En->Hx->R (bN)
noncomputable def Qv:Po:=λ_ A=>.ok none A
noncomputable def Za (m:Ev):Po:=λρ A=>(m ρ A).bind λw A1=>match w with
 |.int i=>.ok (some i) A1|_=>.bad
noncomputable def gq (ws:List W)(lo h:bN):List W:=(ws.drop (HT.qj ws.length 0 lo)).take (HT.qj ws.length ws.length h-HT.qj ws.length 0 lo)
inductive MP (K:Frag)(xr:XR)(p:Po)(σ:St)(H:Hp)(Q:Option Int->Hp->Prop):Prop
 |mk (φ:bH) (A:Hx) (ρ:En) (S:zU K φ A H) (re:RE K φ H ρ σ) (h:(p ρ A).post (λo A1=>∀φ1 H1,Le K φ H φ1 H1->zU K φ1 A1 H1->Q o H1) (EB K φ H xr))
noncomputable def tP (K:Frag)(x:XR)(p:Po):TO:=λσ H Q=>MP K x p σ H Q
def SP (X:Cx)(x:XR)(e:Option Expr)(p:Po):Prop:=PO X e (tP X.K x p)
def PO.imp {e:Option Expr}{t t':TO}(h:PO X e t)(i:∀σ H Q,t' σ H Q->t σ H Q):PO X e t':=λpins s σ H Q I hw=>h pins s σ H Q I (i σ H Q hw)
end
noncomputable def Wj (_ j:Int):Bool:=decide (0<j)&&decide (j<1152921504606846976)
def OS (i j:Int):Prop:=0<j/\j<1152921504606846976
def FR (i j:Int)(h:Wj i j=true):OS i j:=by
 unfold Wj at h;rw[aq]at h;exact⟨of_decide_eq_true h.1,of_decide_eq_true h.2⟩
def FU:qP X (binaryOp .FloorDiv) (rI OS λi j=>.int (i/j)):=Jx λi j _ _ _ _ _ h q=>by
 have a:(0:Int)<j:=h.1;have H:j<1152921504606846976:=h.2;refine floordiv_int (by omega) (by rw[Int.fdiv_eq_ediv_of_nonneg i (by omega)];exact q) (.inl (PyProof.noPylong_of_log2 ?_))
 have h0:j.natAbs≠0:=by omega
 have:j.natAbs.log2<60:=(Nat.log2_lt h0).mpr (by omega)
 omega
def ku:=w9 Wj λi j=>.int (i/j)
end Mi
namespace PySem.SeqAt
open PySem
end PySem.SeqAt
namespace Mi
open PySem PySem.Spec PyProof.Rows L2
open PySem.W (KasT kas_rev kas_asc kas_desc kas_tail3 kas_descPart kas_count kas_place kas_bin kas_sort)
open PySem.W (KasT kas_sort kas_ask kat_run kat_snds kat_kind kat_lt kat_cons kat_nil kat_yes kat_no kat_one KatLex KatGo KatTups)
section
variable {K:Frag}{a:Expr}
def DR (K:Frag):V->List V->Hp->VK->Prop:=λx vs H Q=>∃a xs y,x=.ref a/\vs=[y]/\qV K H a xs/\ki y=true/\xs.all ki=true/\Q (.int (xs.countP λz=>wd z y)) H
def IV:Jz X "list.count" (DR X.K):=by
 intro pins s σ H x vs v us Q I b d h;obtain⟨a,xs,y,rfl,rfl,ht,l,f,q⟩:=h;cases b;obtain⟨u,rfl,e⟩:=d.one;obtain⟨i,r,⟨⟨cls,D,data,S⟩,n,o,c,j,hd⟩,_⟩:=I.list ht;simp only at c hd;subst c hd;refine call_meets F.slot_list_count ⟨_,o,rfl⟩ F.entry_list_count (F.args_list_count_2 _ _) (SeqAt.list_countAt a i.toArray n D S u (wA y)) ⟨o,λz g=>J5 e l r f z (by simpa using g),?_⟩
 refine⟨.int _,H,I.tok _,⟨_,rfl⟩,?_⟩;rw[<- GU r f]at q;simpa using q
def Yg:W->W->Hx->R W:=λx y A=>match x with
 |.ref n=>match A[n]? with
  |some (.lst ws)=>if yd y&&ws.all yd then .ok (.int (ZD y ws 0)) A else .bad|_=>.bad
 |_=>.bad
def IS:∀x y A,qT (Yg x y A):=λx y A=>by
 unfold Yg
 split
 ·split
  ·exact gR jR jh
  ·exact jh
 ·exact jh
end
open PySem.W (kas_kind)
section
open PySem.SeqAt
open PySem.AutoSeq1 (wpAny_loadPart')
open PySem.MeetsSeq PySem.MeetsSeq2 PySem.MeetsSeq3
end
section
variable {lo hi:Option Expr}{K:Frag}
def c4:YG X (λx lo i H Q=>Ng X.K x lo i H Q∨Nc X.K x lo i H Q):=by
 intro pins s σ H x v l u lo i S Q I r a p pu h;rcases h with h|h
 ·exact DM pins s σ H x v l u lo i S Q I r a p pu h
 ·exact D0 pins s σ H x v l u lo i S Q I r a p pu h
def ZA (m:Ev)(p pu:Po):Ev:=λρ A=>(m ρ A).bind λw A1=>(p ρ A1).bind λl A2=>(pu ρ A2).bind λu a=>match w with
 |.tup ws=>.ok (.tup (gq ws l u)) a|.ref n=>match a[n]? with
  |some (.lst ws)=>.ok (.ref a.length) (a++[.lst (gq ws l u)])|_=>.bad
 |_=>.bad
end
section
def OA:=wy λi j=>.int (Builtin.bitAnd i j)
def Nk:=w9 (λ_ j=>decide (0<=j)) λi j=>.int (i/2 ^ j.toNat)
end
@[irreducible] noncomputable def WU (X:Cx)(x:XR)(e:bM)(ms:List Ev):Prop:=Mi.SJ X x e ms
def P6:@WU=@Mi.SJ:=by
 funext X xr es ms
 unfold WU
 rfl
section
def Qe:@zC=@Mi.SE/\@w5=@Mi.SA/\@yJ=@Mi.ST/\@wI=@Mi.SW/\@yT=@Mi.SS/\@kK=@Mi.YF/\@kf=@Mi.SI/\@kO=@Mi.SG/\@Zg=@Mi.SF/\@kP=@Mi.SQ/\@wV=@Mi.YN/\@wu=@Mi.SM/\@WU=@Mi.SJ:=⟨XO,XF,XQ,X1,XU,Xx,XN,XT,XS,XH,Xo,XZ,P6⟩
def Cm (he:zC X xr e m)(g:kO X tg tw)(f:swapsWithSole [tg] e pos.line X.env=pure false:=by rfl)(hw:swappedStores [tg] e X.env=pure none:=by rfl)(a:(assignEach [tg] X.env).map (·.2)=[assign tg X.env]:=by rfl):yT X xr (.Assign [tg] e pos) (WG m tw):=by
 try simp only[Qe]at*
 exact PS.imp (P1 he g f hw a) λD σ H ⟨φ,A,ρ,S,re,h⟩=>by
   refine tM.go S re (qg.mp h) λw A1 b H1 v a l s q=>?_;cases E:tw w ρ with
   |none=>rw[E]at a;exact a.elim|some d=>
    rw[E]at a;exact⟨b,A1,ρ,w,d,s,re.mono l,q,E,λc r=>a b H1 c l s r⟩
def KS {a:Expr}{b:Expr}{ma:Ev}{m:Ev}{pt:Pos}{kt:Nat}(i j:Nat){y:Str}{P py p:Pos}{K:Nat}(u:X.calm=true)(E:X.N.Nodup)(C:zC X xr a ma)(B:zC X xr b m)(t:X.N[i]? =some x:=by rfl)(r:X.N[j]? =some y:=by rfl)(d:i≠j:=by decide)
  (o:X.env.scope.names.lookup x=some .local:=by rfl)(n:X.env.scope.names.lookup y=some .local:=by rfl)
  (hw:swappedStores [.Tuple [.Name x P,.Name y py] kt pt] (.Tuple [a,b] K p) X.env=pure (some [x,y]):=by rfl)
  (s:swapsWithSole [.Tuple [.Name x P,.Name y py] kt pt] (.Tuple [a,b] K p) pos.line X.env=pure false:=by rfl)
  (f:starEach [a,b] X.env=(false,eval a X.env)::starEach [b] X.env:=by rfl)(e:starEach [b] X.env=(false,eval b X.env)::starEach [] X.env:=by rfl):
  yT X xr (.Assign [.Tuple [.Name x P,.Name y py] kt pt] (.Tuple [a,b] K p) pos) (g0 i j ma m):=by
 try simp only[Qe]at*
 exact PS.imp (CJ u E t r d o n (jK C (jK B yt e) f) hw s) λD σ H ⟨φ,A,ρ,S,re,h⟩=>by
   refine tM.go S re (qg.mp h) λw A1 g H1 v f l J Q=>?_;refine tM.go J (re.mono l) (qB (qg.mp f) (λ_ _ z=>z) λ_ _ z=>z.mono l) λM A2 c L v2 e l2 I q=>?_;exact⟨v,v2,rfl,e c L _ (l.trans l2) I (((re.mono (l.trans l2)).set (Q.mono l2)).set q)⟩
end
section
def Iy {a:Expr}{b:Expr}{ma:Ev}{m:Ev}(B:zC X xr a ma)(he:zC X xr b m)(t:starEach [b] X.env=(false,eval b X.env)::starEach [] X.env:=by rfl)
  (e:attributeBase a "extend" X.env (eval a X.env)=eval a X.env:=by rfl)
  (w:((backTo cpos (starEach [b] X.env)).all (λx=>!x.1)&&(backToKw cpos (keywordEach [] X.env)).all (λx=>x.1.isSome)
   && decide ([b].length+([]:bR).length+(if ([]:bR).isEmpty then 0 else 1)<30))=true:=by rfl)(h:(apos.endLine==cpos.line)=true:=by rfl):
  zC X xr (.Call (.Attribute a "extend" apos) [b] [] cpos) (jU Yf ma m):=by
 try simp only[Qe]at*
 exact K8 PySem.F.slot_list_extend (by kernel_rfl) IU HM (λφ A H x y u v Q S j q p=>by
   unfold Yf at p;cases u with
   |ref n=>
    cases v with
    |ref k=>
     dsimp only at p;cases c:A[n]? with
     |none=>rw[c]at p;exact p.elim|some o=>cases o with
      |lst ws=>
       cases E:A[k]? with
       |none=>rw[c,E]at p;exact p.elim|some s=>cases s with
        |lst us=>
         rw[c,E]at p;dsimp only at p
         by_cases d:ws.length+us.length<=qf
         ·rw[ag d]at p
          obtain⟨l,xs,rfl,f1,g1,f⟩:=S.lst j c;obtain⟨C,zs,rfl,f2,g2,r⟩:=S.lst q E;refine⟨l,C,xs,zs,rfl,rfl,g1,g2,?_,?_⟩
          ·rw[<- f.length,<- r.length]
           have:sizeLine=16777216:=sizeLine_eq
           unfold qf at d;omega
          ·obtain⟨i,g⟩:=S.write (o:=.lst ws) (o':=.lst (ws++us)) c rfl rfl f1 (u:=.lst (xs++zs)) ⟨xs++zs,yn,(f.append r).mono (Le.upd f1 (λ_ z=>by rw[g1]at z;cases z) λ_ _ z=>by rw[g1]at z;cases z)⟩
           exact p _ _ _ i g rfl
         ·rw[aj d]at p;exact p.elim
        |_=>rw[c,E]at p;exact p.elim
      |_=>rw[c]at p;cases E:A[k]? with
       |none=>rw[E]at p;exact p.elim|some _=>rw[E]at p;exact p.elim
    |_=>exact p.elim
   |_=>cases v<;>exact p.elim) B he t e w h
def L6 {P pos':Pos}(n:X.calm=true)(hm:X.mg "len"=none)(d:X.mg "set"=none)(o:zC X xr e m)(j:Gl X "len":=by rfl)(f:Gl X "set":=by rfl)(s:starEach [e] X.env=(false,eval e X.env)::starEach [] X.env:=by rfl)
  (c:starEach [.Call (.Name "set" P) [e] [] pos'] X.env=(false,eval (.Call (.Name "set" P) [e] [] pos') X.env)::starEach [] X.env:=by rfl):
  zC X xr (.Call (.Name "len" p) [.Call (.Name "set" P) [e] [] pos'] [] pos) (Pu m):=by
 try simp only[Qe]at*
 exact PE.imp (Km Ht j hm (by rfl) (jK (J2 (HH n) f d (by rfl) (jK o yt s) (by decide) (by decide) s (by rfl)) yt c) (by decide) (by decide) c (by rfl)) λσ H Q ⟨φ,A,ρ,S,re,h⟩=>by
   refine tM.go S re (qg.mp h) λw A1 i H1 v b L x q=>?_;cases w with
   |tup ws=>
    obtain⟨a,vs,rfl,t,r⟩:=q;unfold PC at b;dsimp only at b
    revert b
    cases u:intsOf ws with
    |none=>intro b;exact b.elim|some ns=>
     intro b;dsimp only at b;have E:=G8 u;subst E;have ev:=zL.ints.mp r;subst ev
     by_cases z:ns.length<=100
     ·rw[ag z]at b
      refine⟨a,ns,rfl,t,z,λl g=>⟨l,_,_,rfl,yn,a7 (firstMet_length_le _ _) z,?_⟩⟩;exact b _ _ _ (L.trans (Le.new g)) (x.lay g) rfl
     ·rw[aj z]at b;exact b.elim
   |_=>exact b.elim
def KO {a:Expr}{b:Expr}{ma:Ev}{m:Ev}(H:zC X xr a ma)(h:zC X xr b m):zC X xr (.BinOp a .LShift b pos) (zi YC ma m):=by
 try simp only[Qe]at*
 exact gp CF Yv (Ym R5 λ_ _ _ _=>rfl) H h
end
@[irreducible] noncomputable def Qy (X:Cx)(x:XR)(e:Option Expr)(p:Po):Prop:=Mi.SP X x e p
def Cw:@Qy=@Mi.SP:=by
 funext X xr e p
 unfold Qy
 rfl
def Yk:@zC=@Mi.SE/\@w5=@Mi.SA/\@yJ=@Mi.ST/\@wI=@Mi.SW/\@yT=@Mi.SS/\@kK=@Mi.YF/\@kf=@Mi.SI/\@kO=@Mi.SG/\@Zg=@Mi.SF/\@kP=@Mi.SQ/\@wV=@Mi.YN/\@wu=@Mi.SM/\@WU=@Mi.SJ/\@Qy=@Mi.SP:=⟨XO,XF,XQ,X1,XU,Xx,XN,XT,XS,XH,Xo,XZ,P6,Cw⟩
def Od:Qy X xr none Qv:=by
 try simp only[Yk]at*
 exact PO.imp ET λσ H Q ⟨φ,A,ρ,S,re,h⟩=>h φ H .refl S
def RT (c:zC X xr e m):Qy X xr (some e) (Za m):=by
 try simp only[Yk]at*
 exact PO.imp (Ce c) λσ H Q ⟨φ,A,ρ,S,re,h⟩=>by
  refine tM.go S re (qg.mp h) λw A1 a H1 v b l s q=>?_;cases w with
  |int i=>obtain rfl:=q;exact⟨i,rfl,b a H1 l s⟩|_=>exact b.elim
def gk {a b:Expr}{ma m:Ev}(H:zC X xr a ma)(h:zC X xr b m):zC X xr (.BinOp a .FloorDiv b pos) (zi ku ma m):=by
 try simp only[Qe]at*
 exact gp FU Yv (Ym FR λ_ _ _ _=>rfl) H h
section
variable {a b:Expr}{ma mb:Ev}
def Iw (d:zC X xr a ma)(he:zC X xr b mb)(s:starEach [b] X.env=(false,eval b X.env)::starEach [] X.env:=by rfl)
  (e:attributeBase a "count" X.env (eval a X.env)=eval a X.env:=by rfl)
  (w:((backTo cpos (starEach [b] X.env)).all (λx=>!x.1)&&(backToKw cpos (keywordEach [] X.env)).all (λx=>x.1.isSome)
   && decide ([b].length+([]:bR).length+(if ([]:bR).isEmpty then 0 else 1)<30))=true:=by rfl)(h:(apos.endLine==cpos.line)=true:=by rfl):
  zC X xr (.Call (.Attribute a "count" apos) [b] [] cpos) (jU Yg ma mb):=by
 try simp only[Qe]at*
 exact K8 PySem.F.slot_list_count PySem.F.type_list_count IV IS (λφ A H x y u v Q S c q p=>by
   unfold Yg at p;cases u with
   |ref n=>
    dsimp only at p;cases E:A[n]? with
    |none=>rw[E]at p;exact p.elim|some o=>cases o with
     |lst ws=>
      rw[E]at p;dsimp only at p
      by_cases hf:(yd v&&ws.all yd)=true
      ·rw[ag hf]at p
       rw[aq]at hf;obtain⟨l,rfl,f1⟩:=c;obtain⟨L,f2,vs,g1,g2⟩:=S.ob n _ E;rw[f1]at f2;cases f2;obtain⟨c1,c2⟩:=GP q hf.1 g2 hf.2;refine⟨l,vs,y,rfl,rfl,qV.of g1,J3 q hf.1,c1,?_⟩;rw[c2]
       have:=p φ H _ .refl S rfl
       rw[Xt]at this;simpa using this
      ·rw[aj hf]at p;exact p.elim
     |_=>rw[E]at p;exact p.elim
   |_=>exact p.elim) d he s e w h
end
def Rj {lo B:Option Expr}{P pu:Po}{C:Pos}(he:zC X xr e m)(I:Qy X xr lo P)(D:Qy X xr B pu):zC X xr (.Subscript e (.Slice lo B none C) pos) (ZA m P pu):=by
 try simp only[Yk]at*
 exact PE.imp (Eu c4 he I D) λσ H Q ⟨φ,A,ρ,S,re,h⟩=>by
   refine tM.go S re (qg.mp h) λw A1 g H1 v M d Y y=>?_;refine⟨g,A1,ρ,Y,re.mono d,qB (qg.mp M) (λl A2 J f H2 l2 U=>?_) λ_ _ z=>z.mono d⟩;refine⟨f,A2,ρ,U,(re.mono d).mono l2,qB (qg.mp J) (λu Z b c x l3 s=>?_) λ_ _ z=>z.mono (d.trans l2)⟩;have L:=(d.trans l2).trans l3;cases w with
   |tup ws=>
    obtain⟨a,vs,rfl,t,r⟩:=(y.mono l2).mono l3;have hlen:ws.length=vs.length:=r.length;refine .inl ⟨a,vs,rfl,t,λhw=>?_,λhw p j=>?_⟩
    ·refine b c x _ L s ⟨a,vs,rfl,t,?_⟩
     have:gq ws l u=ws:=by
      unfold gq;rw[hlen,hw.1,hw.2,Nat.sub_zero,List.drop_zero,<- hlen,List.take_length]
     rw[this];exact r
    ·have i:zL X.K c x (gq ws l u) (wY vs l u):=by
      unfold gq wY;rw[hlen];exact zL.take _ (zL.drop _ r)
     obtain⟨a1,a2,q⟩:=Qf s j i;exact b _ _ _ (L.trans a1) a2 q
   |ref n=>
    dsimp only at b;cases E:Z[n]? with
    |none=>rw[E]at b;exact b.elim|some o=>cases o with
     |lst ws=>
      rw[E]at b;dsimp only at b;obtain⟨a,vs,rfl,N,T,r⟩:=s.lst ((y.mono l2).mono l3) E;have hlen:ws.length=vs.length:=r.length;refine .inr ⟨a,vs,rfl,qV.of T,λp j=>?_⟩;have i:zL X.K c x (gq ws l u) (wY vs l u):=by
       unfold gq wY;rw[hlen];exact zL.take _ (zL.drop _ r)
      obtain⟨a1,a2,q⟩:=Q8 s j i;exact b _ _ _ (L.trans a1) a2 q
     |_=>rw[E]at b;exact b.elim
   |_=>exact b.elim
section
variable {a b:Expr}{ma mb:Ev}
def Es (H:zC X xr a ma)(h:zC X xr b mb):zC X xr (.BinOp a .BitAnd b pos) (zi OA ma mb):=by
 try simp only[Yk]at*
 exact gp BG gU (gO λ_ _ _ _=>rfl) H h
def Dq (c:zC X xr a ma)(H:zC X xr b mb):zC X xr (.BinOp a .RShift b pos) (zi Nk ma mb):=by
 try simp only[Yk]at*
 exact gp C6 Yv (Ym (λ_ _ h=>of_decide_eq_true h) λ_ _ _ _=>rfl) c H
end
def zG.up {K:Frag}{j k:Nat}{f:Fn}(F:zG P w K mg base j x n f)(h:j<=k:=by decide):zG P w K mg base k x n f:=F.mono h
section
variable {C:List Value->Prop}
theorem j0 (h:∀a,C [a]):∀us:bG,us.length=1->C us
 |[a],_=>h a
theorem yq (h:∀a b,C [a,b]):∀us:bG,us.length=2->C us
 |[a,b],_=>h a b
theorem ZL (h:∀a b c,C [a,b,c]):∀us:bG,us.length=3->C us
 |[a,b,c],_=>h a b c
end
def qL {l:bK}(h:decide l.Nodup=true):l.Nodup:=of_decide_eq_true h
noncomputable def Nz (N P:bK)(sc:Scope):Bool:=decide (sc.kind=.function)&&(!sc.isCoroutine&&(!sc.isGenerator&&(decide N.Nodup&&(decide (N.take P.length=P)&&(P.all (λx=>decide (sc.names.lookup x=some .local) || decide (sc.names.lookup x=some .cell))&&sc.names.all λy=>!decide (y.2=.free))))))
def qz {P:bK}(h:Nz N P sc=true):qv N P sc:=by
 unfold Nz at h;simp only[aq,ai,Bool.not_eq_true',ba,bh,decide_eq_false_iff_not]at h;obtain⟨g,f,e,d,c,b,a⟩:=h;exact⟨g,f,e,d,c,b,λy H=>a y H⟩
section
def jg {iter:Expr}{m:Ev}(nl:Nat)(cap:bJ)(hw:kf X xr tg iter mi)
  (n:∀s H fp,kO (jM X N sc s H fp yx) tg tw/\wV (jM X N sc s H fp yx) ifs m/\wu (jM X N sc s H fp yx) elt (⟨tg,iter,ifs,0⟩::gs) sc pos 0 em)
  (c:X.calm=true:=by rfl)(S:gm X sc:=by exact cps (by kernel_rfl))(p:Zx X.N N sc nl cap=true:=by kernel_rfl)
  (b:∀g',gs[0]? =some g'->g'.is_async=0:=by intro _ h;cases h<;>rfl)
  (a:∀x,foldedSetIterable iter X.env x=pure x:=by intro _;rfl):Zg X xr (.ListComp elt (⟨tg,iter,ifs,0⟩::gs) sc pos) (zT nl cap mi tw m em):=Fm nl cap c S p hw n b a
def qS {d:Nat}(he:zC X kM elt me)(h:∀e s,X.xe e s->False:=by exactλ_ _ z=>z)(H:gens[d+1]? =none:=by rfl):wu X elt gens sc pos d (zR me):=DQ h he H
end
open PySem L2
abbrev zt:Ev:=zO 0
abbrev zw:Ev:=zO 1
abbrev zF:Ev:=zO 2
abbrev qe:Ev:=zO 3
abbrev qH:Ev:=zO 4
abbrev jz:Ev:=zO 5
abbrev yD:Ev:=zO 6
abbrev yf:Ev:=zO 7
abbrev ZJ:Ev:=zO 8
abbrev WZ:Ev:=zO 9
abbrev Vf:Ev:=zO 10
abbrev Vt:Ev:=zO 11
abbrev O4:Ev:=zO 12
abbrev qx:Ev:=z7 (.int 0)
abbrev jj:Ev:=z7 (.int 1)
abbrev yB:Ev:=z7 (.int 2)
abbrev Ze:Ev:=z7 (.int 3)
abbrev kA:Ev:=z7 (.int 4)
abbrev WS:Ev:=z7 (.int 5)
abbrev WK:Ev:=z7 (.int 6)
abbrev WI:Ev:=z7 (.int 7)
abbrev VB:Ev:=z7 (.int 8)
abbrev YI:Ev:=z7 (.int 9)
abbrev Wl:Ev:=z7 (.int 10)
abbrev qd:Ev:=z7 (.bl true)
abbrev Np:Ev:=z7 (.bl false)
abbrev WV:Ev:=z7 .non
abbrev yI:Ex:=zq (qt Np) zA
end Mi
namespace G
open PySem L2 Mi
noncomputable def top (i:Nat):Stmt:=PySem.Challenge.pw_nearkinds_k33_whole_weights.main.body.getD i (.Pass ⟨0,0,0,0⟩)
structure Bu (mg:bO):Prop where
 Wa:mg "all"=none
 zar:mg "any"=none
 Ad:mg "bool"=none
 ZU:mg "enumerate"=none
 K6:mg "int"=none
 Kd:mg "isinstance"=none
 jq:mg "len"=none
 PZ:mg "list"=none
 Jj:mg "max"=none
 OP:mg "min"=none
 jQ:mg "range"=none
 zaj:mg "set"=none
 Jk:mg "sum"=none
 jo:mg "tuple"=none
 gW:mg "zip"=none
 MU:∃t,mg "MOST_PLACES"=some (.int 8 t)
abbrev Sa:Stmt:=top 1
def LZ:qv ["thing"] ["thing"] (qh Sa):=qz (by kernel_rfl)
def IC:Ex:=zq (qt (ye (YK .int zt) (jW (YK .bl zt)))) zA
abbrev TR:Stmt:=top 2
def Ln:qv ["thing","many"] ["thing","many"] (qh TR):=qz (by kernel_rfl)
def TM (L:Fn):Ex:=zq (qt (ye (YK .tup zt) (ye (zi jn (mQ qm (zV zt)) zw) (mQ Jo (zT 1 [] (qi zt) (zP 0) qd (zR (zx L (zh zt zr)))))))) zA
abbrev V3:Stmt:=top 3
def NQ:qv ["thing","many","limit"] ["thing","many","limit"] (qh V3):=qz (by kernel_rfl)
def V1 (Z:Fn):Ex:=zq (qt (ye (zx Z (zh zt (zh zw zr))) (mQ Jo (zT 1 [2] (qi zt) (zP 0) qd (zR (kE Qz gw qx zt zw)))))) zA
abbrev T8:Stmt:=top 14
def T4:qv ["thing","many"] ["thing"] (qh T8):=qz (by kernel_rfl)
def Sg (I:Fn)(N:Fn)(n:Fn):Ex:=zq (qR (wc (jW (YK .tup zt)) (jW (kE Qz Qz jj (mQ qm (zV zt)) VB))) yI zA) (zq (zX 1 (mQ qm (zV zt))) (zq (qR (jW (mQ Jo (zT 1 [1] (qi zt) (zP 0) qd (zR (zx N (zh zt (zh zw (zh zw zr)))))))) yI zA) (zq (qt (ye (zx I (zh zt zr)) (zx n (zh zt zr)))) zA)))
abbrev SD:Stmt:=top 15
def GY:qv ["rows","a","row","b","kind"] ["rows"] (qh SD):=qz (by kernel_rfl)
def SO:Ex:=zq (jm (yG zt) (qG 1 2) (zq (jm (yG zF) (qG 3 4) (zq (qR (wc (zi qZ (zi jn qH qx) (zi jn zw qe)) (zi qZ (zi zI (zi zI zt qe) zw) qH)) yI zA) zA)) zA)) (zq (qt qd) zA)
abbrev VP:Stmt:=top 16
def VN:qv ["rows","standing"] ["rows"] (qh VP):=qz (by kernel_rfl)
def VQ:Ex:=zq (zX 1 (jk (zT 2 [] (qi zt) (zP 0) qd (k5 (qi zt) (zP 1) qd (zR zw))))) (zq (qt (mQ Jo (zT 1 [1] (jL (mQ yY (zV zw))) (zP 0) qd (zR (zi Vw zt zw))))) zA)
abbrev Uo:Stmt:=top 17
def N3:qv ["table"] ["table"] (qh Uo):=qz (by kernel_rfl)
def Ul (I:Fn):Ex:=zq (qR (jW (zx I (zh zt zr))) (zq Qn zA) zA) zA
abbrev UH:Stmt:=top 18
def Ml:qv ["table"] ["table"] (qh UH):=qz (by kernel_rfl)
def Tb:Ex:=zq (qt (zi qM (mQ yY (zT 1 [] (qi zt) (zP 0) qd (zR (mQ yY (zV zt))))) jj)) zA
abbrev TU:Stmt:=top 19
def Lq:qv ["rows","names"] ["rows","names"] (qh TU):=qz (by kernel_rfl)
def TN:Ex:=zq (qt (mQ qU (zT 1 [1] (qi zt) (zP 0) qd (zR (mQ qU (zT 1 [1] (qi zt) (zP 0) qd (zR (zi zI zw zt)))))))) zA
abbrev Uq:Stmt:=top 20
def YV:qv ["table","one","other","many","counts","i","j"] ["table","one","other"] (qh Uq):=qz (by kernel_rfl)
def Us (w:Fn):Ex:=zq (zX 3 (zx w (zh zt zr))) (zq (zX 4 (jk (zT 1 [3] (jL qe) (zP 0) qd (zR (zi zZ (js (zh qx zr)) zw))))) (zq (jm (jH (zi zI zt zw) (zi zI zt zF)) (qG 5 6) (zq (Yw (zi zI qH jz) yD jj) zA)) (zq (qt (mQ qU (zT 1 [] (qi qH) (zP 0) qd (zR (mQ qU (zV zt)))))) zA)))
abbrev UE:Stmt:=top 21
def YY:qv ["table","firsts","a","row","b","kind"] ["table"] (qh UE):=qz (by kernel_rfl)
def UL:Ex:=zq (zX 1 O6) (zq (jm (yG zt) (qG 2 3) (zq (jm (yG qe) (qG 4 5) (zq (jd (Jc gI zw jz (yk (zh zF (zh qH zr))))) zA)) zA)) (zq (qt zw) zA))
abbrev Td:Stmt:=top 22
def Gr:qv ["table","firsts","pairs"] ["table"] (qh Td):=qz (by kernel_rfl)
def U8 (w:Fn)(Y:Fn)(g:Fn):Ex:=zq (zX 1 (zx g (zh zt zr))) (zq (zX 2 (jk (zT 1 [1] (jL (zx w (zh zt zr))) (zP 0) qd (zR (zi K7 zw zt))))) (zq (qt (jk (zT 2 [0] (qi zF) (qG 0 1) qd (zR (zx Y (zh zF (zh zt (zh zw zr)))))))) zA))
abbrev Ut:Stmt:=top 23
def JF:qv ["table","kind","a","b","shares","c","row","e","by"] ["table"] (qh Ut):=qz (by kernel_rfl)
def Gs (Y:Fn)(g:Fn):Ex:=zq (jm (Yo (zx g (zh zt zr))) (Je 1 2 3) (zq (zX 4 (zx Y (zh zt (zh zF (zh qe zr))))) (zq (jm (yG zt) (qG 5 6) (zq (jm (yG yD) (qG 7 8) (zq (qR (ye (zi jn ZJ zw) (zi qZ (zx Y (zh zt (zh jz (zh yf zr)))) qH)) (zq (qt (yk (zh zF (zh qe (zh jz (zh yf zr)))))) zA) zA) zA)) zA)) zA))) (zq (qt WV) zA)
abbrev V9:Stmt:=top 24
def NX:qv ["table"] ["table"] (qh V9):=qz (by kernel_rfl)
def V7 (g:Fn)(M:Fn):Ex:=zq (jd (zx g (zh zt zr))) (zq (qR (zi (Qx true) (zx M (zh zt zr)) WV) (zq Qn zA) zA) zA)
abbrev UQ:Stmt:=top 26
def Mt:qv ["table"] ["table"] (qh UQ):=qz (by kernel_rfl)
def Tc (w:Fn):Ex:=zq (qt (jk (zT 1 [0] (jL (zx w (zh zt zr))) (zP 0) qd (zR (K2 Yj (zi zI zw qx) zt))))) zA
abbrev R7:Stmt:=top 27
def Fj:qv ["table"] ["table"] (qh R7):=qz (by kernel_rfl)
def R0 (Z:Fn)(K:Fn):Ex:=zq (jd (zx K (zh zt zr))) (zq (qt (zx Z (zh zt zr))) zA)
abbrev UM:Stmt:=top 28
def Mm:qv ["table","mix"] ["table","mix"] (qh UM):=qz (by kernel_rfl)
def UK (w:Fn)(Z:Fn):Ex:=zq (qR (jW (zx Z (zh zw (zh (zx w (zh zt zr)) zr)))) (zq Qn zA) zA) zA
abbrev Rh:Stmt:=top 29
def Hd:qv ["table","mix"] ["table","mix"] (qh Rh):=qz (by kernel_rfl)
def RA (L:Fn)(g:Fn)(a:Fn):Ex:=zq (jd (zx a (zh zt zr))) (zq (jd (zx g (zh zt (zh zw zr)))) (zq (qt (zx L (zh zt (zh zw zr)))) zA))
abbrev SR:Stmt:=top 30
def IB:qv ["table","one","other"] ["table","one","other"] (qh SR):=qz (by kernel_rfl)
def SX (J:Fn)(L:Fn)(g:Fn)(K:Fn):Ex:=zq (jd (zx K (zh zt zr))) (zq (jd (zx g (zh zt (zh zw zr)))) (zq (jd (zx g (zh zt (zh zF zr)))) (zq (qt (zx L (zh (zx J (zh zt zr)) (zh zw (zh zF zr))))) zA)))
abbrev Sh:Stmt:=top 31
def LQ:qv ["shares","one","other"] ["shares","one","other"] (qh Sh):=qz (by kernel_rfl)
def Sj (M:Fn):Ex:=zq (qt (mQ qU (zT 1 [1,2] (qi zt) (zP 0) qd (zR (zx M (zh zt (zh zw (zh zF zr)))))))) zA
abbrev UR:Stmt:=top 32
def Mk:qv ["by_kind","one","other"] ["by_kind","one","other"] (qh UR):=qz (by kernel_rfl)
def UI:Ex:=zq (qt (mQ jX (zT 4 [2] (jH zw zt) (qG 0 1) qd (k5 (jH qH zw) (qG 2 3) qd (zR (zi zZ (zi zZ zt zF) qe)))))) zA
abbrev RQ:Stmt:=top 33
def Fx:qv ["table","one","other"] ["table","one","other"] (qh RQ):=qz (by kernel_rfl)
def Pr (g:Fn)(K:Fn):Ex:=zq (jd (zx K (zh zt zr))) (zq (jd (zx g (zh zt (zh zw zr)))) (zq (jd (zx g (zh zt (zh zF zr)))) (zq (qt (mQ qU (zT 2 [] (jH zw zF) (qG 0 1) qd (zR (zi qM zt zw))))) zA)))
abbrev PL:Stmt:=top 35
def Q4:qv ["shares","start","some","i","j","later","now"] ["shares","start"] (qh PL):=qz (by kernel_rfl)
def XW:Ex:=zq (zX 2 (mQ qm (zV zw))) (zq (jm (jL zF) (zP 3) (zq (jm (jL zF) (zP 4) (zq (zX 5 (jk (zT 1 [3,4] (qi (ZA zt (Za zF) Qv)) (zP 0) qd (zR (zi zI (zi zI zt zw) zF))))) (zq (zX 6 (jk (zT 2 [3,4] (jH zt zw) (qG 0 1) qd (zR (zi zZ (zi zI (zi zI zt zF) qe) zw))))) (zq (qR (ye (jW (mQ Jv (zV jz))) (zi qZ (zi zZ (zi zI zw qe) (zi zI zw qH)) (mQ jX (zV yD)))) yI zA) zA)))) zA)) (zq (qt qd) zA))
abbrev VV:Stmt:=top 36
def NN:qv ["table","thing"] ["table","thing"] (qh VV):=qz (by kernel_rfl)
def VW (w:Fn)(X:Fn)(Z:Fn)(J:Fn):Ex:=zq (qR (jW (zx Z (zh zw (zh (zx w (zh zt zr)) zr)))) yI zA) (zq (qt (ye (zi jn (zi zI zw qx) jj) (zx X (zh (zx J (zh zt zr)) (zh zw zr))))) zA)
abbrev Ta:Stmt:=top 37
def Mq:qv ["table","thing"] ["table","thing"] (qh Ta):=qz (by kernel_rfl)
def U2 (w:Fn)(K:Fn):Ex:=zq (jd (zx K (zh zt zr))) (zq (qt (zx w (zh zt (zh zw zr)))) zA)
abbrev V2:Stmt:=top 38
def NP:qv ["table","weights"] ["table","weights"] (qh V2):=qz (by kernel_rfl)
def V0 (w:Fn):Ex:=zq (qR (jW (zx w (zh zt (zh zw zr)))) (zq Qn zA) zA) zA
abbrev Ua:Stmt:=top 39
def QC:qv ["table","shares","starts","size","longer"] ["table"] (qh Ua):=qz (by kernel_rfl)
def Ug (Z:Fn)(X:Fn)(J:Fn):Ex:=zq (zX 1 (zx J (zh zt zr))) (zq (zX 2 (js (zh (yk (zh jj zr)) zr))) (zq (jm (qi (ZA (zx Z (zh zt zr)) (Za jj) Qv)) (zP 3) (zq (zX 4 (jk (zT 2 [3] (qi zF) (zP 0) qd (k5 (Yr zF (zi yy (ka Qq zF) jj)) (zP 1) qd (zR (zi qM zt (yk (zh zw zr)))))))) (zq (zX 2 (jk (zT 1 [1] (qi qH) (zP 0) (zx X (zh zw (zh zt zr))) (zR zt)))) zA))) (zq (qt zF) zA)))
abbrev UB:Stmt:=top 40
def Mp:qv ["table"] ["table"] (qh UB):=qz (by kernel_rfl)
def U7 (K:Fn)(J:Fn):Ex:=zq (jd (zx K (zh zt zr))) (zq (qt (zx J (zh zt zr))) zA)
abbrev V8:Stmt:=top 41
def NS:qv ["table"] ["table"] (qh V8):=qz (by kernel_rfl)
def Ue (w:Fn)(K:Fn)(J:Fn):Ex:=zq (jd (zx K (zh zt zr))) (zq (qt (zi jn (mQ qm (zV (zx J (zh zt zr)))) (zx w (zh zt zr)))) zA)
abbrev Um:Stmt:=top 42
def N4:qv ["table"] ["table"] (qh Um):=qz (by kernel_rfl)
def Uj (g:Fn):Ex:=zq (qR (jW (zx g (zh zt zr))) (zq Qn zA) zA) zA
abbrev UA:Stmt:=top 43
def QF:qv ["table","weights","top","bottom","size","weight"] ["table","weights"] (qh UA):=qz (by kernel_rfl)
def UN (Z:Fn):Ex:=zq (zX 2 qx) (zq (zX 3 jj) (zq (jm (jH (zx Z (zh zt zr)) zw) (qG 4 5) (zq (zX 2 (zi qM (zi zZ zF qH) (zi zZ (zi zZ jz jz) qe))) (zq (zX 3 (zi zZ qe qH)) zA))) (zq (qt (zi ku (zi zZ (mQ qm (zV zt)) qe) zF)) zA)))
abbrev TY:Stmt:=top 44
def Ll:qv ["table","weights"] ["table","weights"] (qh TY):=qz (by kernel_rfl)
def TK (g:Fn)(K:Fn)(a:Fn):Ex:=zq (jd (zx K (zh zt zr))) (zq (jd (zx a (zh zt (zh zw zr)))) (zq (qt (zx g (zh zt (zh zw zr)))) zA))
abbrev Pc:Stmt:=top 45
def Ee:qv ["weights","mix"] ["weights","mix"] (qh Pc):=qz (by kernel_rfl)
def Pl:Ex:=zq (qt (mQ jX (zT 2 [] (jH zt zw) (qG 0 1) qd (zR (zi zZ zt zw))))) zA
abbrev Sf:Stmt:=top 46
def LW:qv ["table","weights","mix"] ["table","weights","mix"] (qh Sf):=qz (by kernel_rfl)
def T9 (g:Fn)(K:Fn)(a:Fn)(D:Fn):Ex:=zq (jd (zx K (zh zt zr))) (zq (jd (zx a (zh zt (zh zw zr)))) (zq (jd (zx g (zh zt (zh zF zr)))) (zq (qt (zx D (zh zw (zh zF zr)))) zA)))
abbrev Rx:Stmt:=top 47
def QR:qv ["table","numbers","found","parts","mix","kind","size","total"] ["table","numbers"] (qh Rx):=qz (by kernel_rfl)
def Ru (g:Fn)(z:Fn)(Z:Fn)(M:Fn)(J:Fn):Ex:=zq (jd (zx M (zh zt zr))) (zq (zX 2 (zx J (zh zt zr))) (zq (qR (jW (zx Z (zh zw (zh (mQ qm (zV zF)) zr)))) (zq Qn zA) zA) (zq (zX 3 (jk (zT 2 [0] (jH zF zw) (qG 0 1) qd (zR (zi zZ (zx g (zh zF (zh zt zr))) zw))))) (zq (zX 4 (js zr)) (zq (jm (yG (zx z (zh zt zr))) (qG 5 6) (zq (zX 7 (mQ jX (zT 2 [5] (jH qe zF) (qG 0 1) qd (zR (zi zZ zt (zi zI zw zF)))))) (zq (qR (zi qZ (zi yu yf (zi zZ (mQ qm (zV zt)) yD)) qx) (zq (qt WV) zA) zA) (zq (jd (jU yr qH (zi ku yf (zi zZ (mQ qm (zV zt)) yD)))) zA)))) (zq (qt (mQ qU (zV qH))) zA))))))
abbrev T3:Stmt:=top 49
def Ka:qv ["_law_state_here","_law_many","_law_found","_law_stirred"] ["_law_state_here","_law_many"] (qh T3):=qz (by kernel_rfl)
def GQ:Ex:=zq (qR (zi zI zt jj) (zq (zX 2 (zi yu (zi zI zt qx) zw)) (zq (Jd k6 (zi ku (zi zI zt qx) zw) zt qx) (zq (qt zF) zA))) zA) (zq (Jd k6 (zi yu (zi qM (zi zZ (zi zI zt qx) (z7 (.int 48271))) (z7 (.int 29))) (z7 (.int 2147483647))) zt qx) (zq (zX 3 (zi yu (zi qM (zi qM (zi zZ (zi zI zt qx) (zi zI zt qx)) (zi zZ (z7 (.int 39373)) (zi zI zt qx))) WI) (z7 (.int 2147483629)))) (zq (zX 3 (zi yu (zi qM (zi zZ qe qe) (zi zZ (z7 (.int 16807)) qe)) (z7 (.int 2147483587)))) (zq (qt (zi yu (zi ku qe VB) zw)) zA))))
abbrev Ur:Stmt:=top 50
def N9:qv ["_law_script","_law_k"] ["_law_script","_law_k"] (qh Ur):=qz (by kernel_rfl)
def Gp:Ex:=zq (qR (zi gw zw (mQ qm (zV zt))) (zq (qt (zi zI zt zw)) zA) zA) (zq (qt qx) zA)
abbrev TJ:Stmt:=top 51
def UP:qv ["_law_script","_law_k","_law_cell"] ["_law_script","_law_k"] (qh TJ):=qz (by kernel_rfl)
def GK (M:Fn):Ex:=zq (zX 2 (zx M (zh zt (zh zw zr)))) (zq (qR (zi VA zF (zi WD Wl (z7 (.int 18)))) (zq (qt (js (zh (zi yy zF (zi WD Wl (z7 (.int 18)))) (zh qd zr)))) zA) zA) (zq (qt (js (zh (zi yu zF (z7 (.int 2147483647))) (zh Np zr)))) zA))
abbrev Tq:Stmt:=top 52
def MR:qv ["_law_many"] ["_law_many"] (qh Tq):=qz (by kernel_rfl)
def Lx:Ex:=zq (qt (mQ qU (zT 1 [0] (jL zt) (zP 0) qd (zR (mQ qU (zT 1 [0] (jL zw) (zP 0) qd (zR (ka Yx (zi qZ zw zt))))))))) zA
abbrev TL:Stmt:=top 53
def Lg:qv ["_law_many"] ["_law_many"] (qh TL):=qz (by kernel_rfl)
def LK:Ex:=zq (qt (mQ qU (zT 1 [0] (jL zt) (zP 0) qd (zR (mQ qU (zT 1 [0,1] (jL zw) (zP 0) qd (zR (zi We (zi yu (zi yy zw zt) zF) (zi yu (zi yy zt zw) zF))))))))) zA
abbrev UC:Stmt:=top 54
def JH:qv ["_law_many","_law_size","_law_found","_law_a","_law_row","_law_b"] ["_law_many","_law_size"] (qh UC):=qz (by kernel_rfl)
def MH:Ex:=zq (zX 2 (js zr)) (zq (jm (jL (zi zZ zt zw)) (zP 3) (zq (zX 4 (js zr)) (zq (jm (jL (zi zZ zt zw)) (zP 5) (zq (jd (jU yr qH (zi qM (ka Yx (zi qZ qe jz)) (ka Yx (ye (zi qZ (zi ku qe zw) (zi ku jz zw)) (zi VE zw jj)))))) zA)) (zq (jd (jU yr zF (mQ qU (zV qH)))) zA)))) (zq (qt (mQ qU (zV zF))) zA))
abbrev UT:Stmt:=top 55
def Gk:qv ["_law_many","_law_found","_law_a"] ["_law_many"] (qh UT):=qz (by kernel_rfl)
def MC:Ex:=zq (zX 1 (js zr)) (zq (jm (jL (zi YC jj zt)) (zP 2) (zq (jd (jU yr zw (mQ qU (zT 1 [0,2] (jL (zi YC jj zt)) (zP 0) qd (zR (jU Yg (jk (zT 1 [0,2] (jL zw) (zP 0) qd (zR (zi OA (zi Nk (zi Vm zF zw) zt) jj)))) jj)))))) zA)) (zq (qt (mQ qU (zV zw))) zA))
abbrev Up:Stmt:=top 56
def N7:qv ["_law_many"] ["_law_many"] (qh Up):=qz (by kernel_rfl)
def Mb:Ex:=zq (qt (mQ qU (zT 1 [0] (jL (zi YC jj zt)) (zP 0) qd (zR (mQ qU (zT 1 [0] (jL (zi YC jj zw)) (zP 0) qd (zR (zi Vm zw zt)))))))) zA
abbrev To:Stmt:=top 57
def JO:qv ["_law_many","_law_pairs_here","_law_a","_law_found","_law_one"] ["_law_many"] (qh To):=qz (by kernel_rfl)
def Lc:Ex:=zq (zX 1 (js zr)) (zq (jm (jL zt) (zP 2) (zq (jd (jU Yf zw (jk (zT 1 [2] (OC (zi qM zF jj) zt) (zP 0) qd (zR (yk (zh zw (zh zt zr)))))))) zA)) (zq (zX 3 (js zr)) (zq (jm (qi zw) (zP 4) (zq (jd (jU yr qe (mQ qU (zT 1 [4] (qi zw) (zP 0) qd (zR (zi yy kA (Pu (zi qM zw zt)))))))) zA)) (zq (qt (mQ qU (zT 1 [] (qi qe) (zP 0) qd (zR (mQ qU (zT 1 [] (qi zt) (zP 0) qd (zR (zi zI (js (zh yB (zh jj (zh qx zr)))) zt)))))))) zA))))
abbrev Tz:Stmt:=top 58
def MJ:qv ["_law_table"] ["_law_table"] (qh Tz):=qz (by kernel_rfl)
def Lh:Ex:=zq (qt (zi qM (mQ yY (zT 1 [] (qi zt) (zP 0) qd (zR (mQ yY (zV zt))))) jj)) zA
abbrev Uz:Stmt:=top 59
def QI:qv ["_law_one","_law_other","_law_many","_law_found","_law_a","_law_row","_law_b","_law_first"] ["_law_one","_law_other"] (qh Uz):=qz (by kernel_rfl)
def Mz (J:Fn):Ex:=zq (g0 2 3 (zx J (zh zw zr)) (js zr)) (zq (jm (jL (zi zZ (mQ qm (zV zt)) (mQ qm (zV zw)))) (zP 4) (zq (zX 5 (js zr)) (zq (jm (jL (zi zZ (mQ qm (zV zt)) (mQ qm (zV zw)))) (zP 6) (zq (zX 7 (zi zI (zi zI zt (zi ku qH (mQ qm (zV zw)))) (zi ku yD (mQ qm (zV zw))))) (zq (jd (jU yr jz (zi qM (zi zZ yf zF) (zi zI (zi zI zw (zi yu qH (mQ qm (zV zw)))) (zi yu yD (mQ qm (zV zw))))))) zA))) (zq (jd (jU yr qe (mQ qU (zV jz)))) zA)))) (zq (qt (mQ qU (zV qe))) zA))
abbrev Tp:Stmt:=top 60
def UD:qv ["_law_state_here","_law_way"] ["_law_state_here"] (qh Tp):=qz (by kernel_rfl)
def Ti (w:Fn)(J:Fn)(Z:Fn)(K:Fn):Ex:=zq (zX 1 (zx K (zh zt (zh WS zr)))) (zq (qt (zi zI (js (zh (zx w (zh yB zr)) (zh (zx w (zh Ze zr)) (zh (zx Z (zh kA zr)) (zh (zx w (zh kA zr)) (zh (zx J (zh yB zr)) zr)))))) zw)) zA)
abbrev UJ:Stmt:=top 61
def QG:qv ["_law_one","_law_other","_law_more","_law_found","_law_a","_law_row","_law_b","_law_first"] ["_law_one","_law_other"] (qh UJ):=qz (by kernel_rfl)
def Mw (J:Fn):Ex:=zq (g0 2 3 (zi yy (zx J (zh zw zr)) jj) (js zr)) (zq (jm (jL (zi zZ (mQ qm (zV zt)) (mQ qm (zV zw)))) (zP 4) (zq (zX 5 (js zr)) (zq (jm (jL (zi zZ (mQ qm (zV zt)) (mQ qm (zV zw)))) (zP 6) (zq (zX 7 (zi zI (zi zI zt (zi ku qH (mQ qm (zV zw)))) (zi ku yD (mQ qm (zV zw))))) (zq (jd (jU yr jz (ND (zi VE yf qx) (zi qM yf zF) (zi zI (zi zI zw (zi yu qH (mQ qm (zV zw)))) (zi yu yD (mQ qm (zV zw))))))) zA))) (zq (jd (jU yr qe (mQ qU (zV jz)))) zA)))) (zq (qt (mQ qU (zV qe))) zA))
abbrev TB:Stmt:=top 62
def Gu:qv ["_law_state_here","_law_many","_law_left","_law_found"] ["_law_state_here","_law_many"] (qh TB):=qz (by kernel_rfl)
def Th (K:Fn):Ex:=zq (zX 2 (KP zw)) (zq (zX 3 (js zr)) (zq (Ot 1000 (zi qZ zF (js zr)) (zq (jd (jU yr qe (jU wU zF (zx K (zh zt (zh (mQ qm (zV zF)) zr)))))) zA)) (zq (qt (mQ qU (zV qe))) zA)))
abbrev Tt:Stmt:=top 63
def MD:qv ["_law_table","_law_order","_law_names"] ["_law_table","_law_order","_law_names"] (qh Tt):=qz (by kernel_rfl)
def TH:Ex:=zq (qt (mQ qU (zT 1 [0,1,2] (qi zw) (zP 0) qd (zR (mQ qU (zT 1 [0,1,3] (qi zF) (zP 0) qd (zR (zi zI qe (zi zI (zi zI zF zw) zt))))))))) zA
abbrev VT:Stmt:=top 64
def W4:qv ["_law_state_here","_law_table","_law_kinds_here","_law_names"] ["_law_state_here","_law_table"] (qh VT):=qz (by kernel_rfl)
def VS (J:Fn)(T:Fn)(L:Fn):Ex:=zq (zX 2 (zx J (zh zw zr))) (zq (zX 3 (zi qM (js (zh qx zr)) (jk (zT 1 [] (qi (zx T (zh zt (zh (zi yy zF jj) zr)))) (zP 0) qd (zR (zi qM jj zt)))))) (zq (qt (zx L (zh zw (zh (zx T (zh zt (zh (mQ qm (zV zw)) zr))) (zh qe zr))))) zA))
abbrev U3:Stmt:=top 65
def wK:qv ["_law_state_here","_law_way","_law_table","_law_many","_law_size"] ["_law_state_here"] (qh U3):=qz (by kernel_rfl)
def U6 (w:Fn)(x:Fn)(b:Fn)(J:Fn)(N:Fn)(Z:Fn)(T:Fn)(K:Fn)(a:Fn)(C:Fn)(g:Fn):Ex:=zq (zX 1 (zx K (zh zt (zh (z7 (.int 12)) zr)))) (zq (qR (zi jn zw qx) (zq (zX 2 (zx w (zh (zi qM jj (zx K (zh zt (zh VB zr)))) zr))) zA) (zq (qR (zi gw zw Ze) (zq (zX 2 (zx Z (zh (zi qM Ze (zx K (zh zt (zh WK zr)))) zr))) zA) (zq (qR (zi jn zw Ze) (zq (WG (zi zI (js (zh (yk (zh yB (zh yB zr))) (zh (yk (zh yB (zh Ze zr))) (zh (yk (zh Ze (zh yB zr))) (zh (yk (zh yB (zh kA zr))) (zh (yk (zh kA (zh yB zr))) (zh (yk (zh jj (zh WS zr))) (zh (yk (zh WS (zh jj zr))) zr)))))))) (zx K (zh zt (zh WI zr)))) (qG 3 4)) (zq (zX 2 (zx b (zh qe (zh qH zr)))) zA)) (zq (qR (zi gw zw WK) (zq (zX 2 (zx C (zh (zi qM yB (zx K (zh zt (zh yB zr)))) zr))) zA) (zq (qR (zi jn zw WK) (zq (zX 2 (zx J (zh (zi qM yB (zx K (zh zt (zh yB zr)))) zr))) zA) (zq (qR (zi jn zw WI) (zq (zX 2 (zx N (zh kA zr))) zA) (zq (qR (zi gw zw Wl) (zq (zX 2 (zx x (zh (zx w (zh yB zr)) (zh (zx T (zh zt zr)) zr)))) zA) (zq (zX 2 (zx g (zh (zx w (zh yB zr)) (zh (zx T (zh zt zr)) zr)))) zA)) zA)) zA)) zA)) zA)) zA)) zA)) (zq (qt (zx a (zh zt (zh zF zr)))) zA))
abbrev V6:Stmt:=top 66
def YR:qv ["_law_state_here","_law_way","_law_some"] ["_law_state_here"] (qh V6):=qz (by kernel_rfl)
def V5 (w:Fn)(x:Fn)(b:Fn)(J:Fn)(N:Fn)(Z:Fn)(K:Fn)(a:Fn)(C:Fn)(g:Fn):Ex:=zq (zX 1 (zx K (zh zt (zh YI zr)))) (zq (zX 2 (js (zh (zx w (zh WS zr)) (zh (zx Z (zh WK zr)) (zh (zx Z (zh kA zr)) (zh (zx b (zh yB (zh Ze zr))) (zh (zx C (zh Ze zr)) (zh (zx J (zh yB zr)) zr)))))))) (zq (zX 2 (zi qM zF (js (zh (zx N (zh kA zr)) (zh (zx x (zh (zx w (zh yB zr)) (zh (zx w (zh Ze zr)) zr))) (zh (zx g (zh (zx w (zh yB zr)) (zh (zx Z (zh kA zr)) zr))) zr)))))) (zq (qt (zx a (zh zt (zh (zi zI zF zw) zr)))) zA)))
abbrev Tu:Stmt:=top 67
def gf:qv ["_law_state_here","_law_table","_law_rows","_law_one","_law_other","_law_both","_law_sums","_law_row","_law_mine","_law_theirs","_law_total","_law_worths","_law_alike_here"] ["_law_state_here","_law_table"] (qh Tu):=qz (by kernel_rfl)
def Tj (K:Fn)(d:Fn)(L:Fn)(M:Fn)(T:Fn)(g:Fn)(E:Fn)(h:Fn)(D:Fn)(H:Fn)(Z:Fn):Ex:=zq (zX 2 (zx L (zh zw zr))) (zq (zX 3 (mQ qU (zT 1 [0] (qi (zi zI zF qx)) (zP 0) qd (zR (zi yy (zx K (zh zw (zh YI zr))) kA))))) (zq (zX 4 (mQ qU (zT 1 [0] (qi (zi zI zF qx)) (zP 0) qd (zR (zi yy (zx K (zh zw (zh YI zr))) kA))))) (zq (g0 5 6 (zx h (zh zw (zh qe (zh qH zr)))) (zx d (zh zw (zh qe (zh qH zr))))) (zq (qR (wc (zi qZ (jk (zV (zi zI zF qx))) (zx D (zh zw zr))) (zi qZ (zx T (zh zw (zh (zi zI zF qx) zr))) jj)) yI zA) (zq (jm (qi zF) (zP 7) (zq (g0 8 9 (zx Z (zh zw (zh yf (zh qe zr)))) (zx Z (zh zw (zh yf (zh qH zr))))) (zq (qR (wc (zi (Qx true) (zx M (zh zw (zh yf zr))) qd) (zi qZ (zx Z (zh zw (zh yf (zh jz zr)))) (zi zZ ZJ WZ))) yI zA) (zq (qR (zi qZ (zx Z (zh zw (zh yf (zh yD zr)))) (zi qM ZJ WZ)) yI zA) zA)))) (zq (qR (zi qZ (jk (zT 1 [] (qi (zx H (zh zw (zh qe zr)))) (zP 0) qd (zR (mQ jX (zV zt))))) (zi zZ (js (zh (zx Z (zh zw (zh (zi zI zF qx) (zh qe zr)))) zr)) (mQ qm (zV zw)))) yI zA) (zq (zX 10 (mQ jX (zT 1 [1] (qi zF) (zP 0) qd (zR (zx T (zh zw (zh zt zr))))))) (zq (qR (jW (zx g (zh zw zr))) (zq (qt (zi gw Vf (mQ qm (zV zw)))) zA) zA) (zq (zX 11 (mQ qU (zT 1 [1,3] (qi zF) (zP 0) qd (zR (zx Z (zh zw (zh zt (zh zF zr)))))))) (zq (zX 12 (zi jn Vt (mQ qU (zT 1 [1,4] (qi zF) (zP 0) qd (zR (zx Z (zh zw (zh zt (zh zF zr))))))))) (zq (qt (ye (zi jn Vf (mQ qm (zV zw))) (ye (zi jn (zx E (zh zw (zh Vt zr))) qe) (zi jn O4 (zi jn qe qH))))) zA)))))))))))
abbrev Wd:Stmt:=top 68
def XI:qv ["_law_script","_law_k","_law_state_here"] ["_law_script"] (qh Wd):=qz (by kernel_rfl)
def X8 (J:Fn)(K:Fn)(y:Fn)(Y:Fn):Ex:=zq (jm (jL (zi X5 jj (zi We (mQ qm (zV zt)) kA))) (zP 1) (zq (zX 2 (zx K (zh zt (zh zw zr)))) (zq (qR (wc (jW (zx J (zh zF (zh (zx y (zh zF zr)) zr)))) (jW (zx J (zh zF (zh (zx Y (zh zF zr)) zr))))) yI zA) zA))) (zq (qt qd) zA)
def o_law {K:Frag}{k:Nat}(T:Bu mg){f:Addr}(F:gx K "law" "law" Wd f fd){J:Fn}(Zi:zG P w K mg base k "_law_right" 2 J){b:Fn}(QN:zG P w K mg base k "_law_state" 2 b){y:Fn}(ZP:zG P w K mg base k "_law_steady" 1 y){Y:Fn}(ZN:zG P w K mg base k "_law_whole_one" 1 Y):yR P w K mg base wB (k+1) f fd ["_law_script"] (Zc K 1 (qu 3 (X8 J b y Y))):=
 c0 F XI λc A outer s H E h=>zu (j4 PassesOwn.never rfl (j9 rfl T.jQ (Fy rfl T.Jj zH (RC rfl T.OP (ju T.jq (qJ (zc 0))) zH))) (qC 1 XI.nd) (zu (qE 2 XI.nd (zE QN h (zp (zc 0) (zp (zc 1) zB)))) (zu (jF (Z0 (Yh (kU (kB (zE Zi h (zp (zc 2) (zp (zE ZP h (zp (zc 2) zB)) zB))))) (Ya (kU (kB (zE Zi h (zp (zc 2) (zp (zE ZN h (zp (zc 2) zB)) zB)))))))) (zu (qk kg) zD) zD) zD))) (zu (qk kg) zD)
def GV:Fn:=qu 1 IC
def JZ:Fn :=  GV
def S9:Fn:=qu 5 SO
def G7:Fn:=iso S9
def VO:Fn:=qu 2 VQ
def W5:Fn:=iso VO
def UO:Fn:=qu 1 Tb
def wN:Fn:=iso UO
def TQ:Fn:=qu 2 TN
def GO:Fn:=iso TQ
def GB:Fn:=qu 6 UL
def QK:Fn:=iso GB
def UZ:Fn:=qu 3 UI
def Y4:Fn:=iso UZ
def KW:Fn:=qu 7 XW
def Zq:Fn:=j7 KW
def RO:Fn:=qu 2 Pl
def XA:Fn:=iso RO
def JV:Fn:=qu 4 GQ
def yV:Fn:=j7 JV
def Uu:Fn:=qu 2 Gp
def YW:Fn :=  Uu
def Y9:Fn:=qu 1 Lx
def gg:Fn:=iso Y9
def JU:Fn:=qu 1 LK
def Zj:Fn:=iso JU
def Y6:Fn:=qu 6 MH
def JM:Fn:=iso Y6
def Y7:Fn:=qu 3 MC
def JN:Fn:=iso Y7
def YU:Fn:=qu 1 Mb
def ZO:Fn:=iso YU
def GG:Fn:=qu 5 Lc
def JP:Fn:=iso GG
def Te:Fn:=qu 1 Lh
def JS:Fn:=iso Te
def GJ:Fn:=qu 3 TH
def Kc:Fn :=  GJ
def GR:Fn:=qu 2 (TM JZ)
def gC:Fn :=  GR
def Uv:Fn:=qu 7 (Us wN)
def wL:Fn:=iso Uv
def Uy:Fn:=qu 1 (Tc wN)
def gc:Fn:=iso Uy
def GX:Fn:=qu 3 (Sj Y4)
def Ki:Fn :=  GX
def TF:Fn:=qu 3 (GK YW)
def QN:Fn :=  TF
def Y2:Fn:=qu 8 (Mz JS)
def JK:Fn:=iso Y2
def TC:Fn:=qu 2 (Ti gg ZO Zj yV)
def JR:Fn:=j7 TC
def Y1:Fn:=qu 8 (Mw JS)
def JL:Fn:=iso Y1
def GH:Fn:=qu 4 (Th yV)
def ZS:Fn:=j7 GH
def W9:Fn:=qu 3 (V1 gC)
def JC:Fn :=  W9
def Ux:Fn:=qu 3 (U8 wN wL QK)
def ZR:Fn:=iso Ux
def Uw:Fn:=qu 9 (Gs wL QK)
def YX:Fn:=iso Uw
def U0:Fn:=qu 2 (UK wN gC)
def QM:Fn:=iso U0
def UG:Fn:=qu 6 (UN gc)
def JI:Fn:=iso UG
def W7:Fn:=qu 4 (VS JS ZS Kc)
def ZM:Fn:=j7 W7
def GS:Fn:=qu 2 (Sg G7 JC W5)
def J1:Fn :=  GS
def VU:Fn:=qu 2 (VW wN Zq gC ZR)
def YO:Fn:=iso VU
def Ub:Fn:=qu 5 (Ug gc Zq ZR)
def QE:Fn:=iso Ub
def US:Fn:=qu 5 (U6 gg JK JM ZO JP Zj JR yV ZM JN JL)
def ZP:Fn:=j7 US
def Uh:Fn:=qu 3 (V5 gg JK JM ZO JP Zj yV ZM JN JL)
def ZN:Fn:=j7 Uh
def Gh:Fn:=qu 1 (Ul J1)
def JE:Fn :=  Gh
def VY:Fn:=qu 2 (V0 YO)
def YQ:Fn:=iso VY
def Gb:Fn:=qu 1 (V7 JE YX)
def wJ:Fn :=  Gb
def Rm:Fn:=qu 2 (RA GO QM JE)
def QT:Fn:=iso Rm
def R4:Fn:=qu 1 (R0 gc wJ)
def Yd:Fn:=iso R4
def SU:Fn:=qu 3 (SX ZR Ki QM wJ)
def Kk:Fn:=iso SU
def PD:Fn:=qu 3 (Pr QM wJ)
def KG:Fn:=iso PD
def UU:Fn:=qu 2 (U2 YO wJ)
def Y0:Fn:=iso UU
def UX:Fn:=qu 1 (U7 wJ QE)
def Y5:Fn:=iso UX
def Uc:Fn:=qu 1 (Ue wN wJ QE)
def YS:Fn:=iso Uc
def TV:Fn:=qu 2 (TK JI wJ YQ)
def gD:Fn:=iso TV
def Si:Fn:=qu 3 (T9 QM wJ YQ XA)
def wj:Fn:=iso Si
def Uk:Fn:=qu 1 (Uj YS)
def Gi:Fn:=iso Uk
def Ro:Fn:=qu 8 (Ru JI gc gC Gi QE)
def Kr:Fn:=iso Ro
def GL:Fn:=qu 13 (Tj yV KG Y5 Y0 gD YS Kr Kk Yd QT wj)
def Zi:Fn:=j7 GL
structure Tx (K:Frag):Prop where
 Ie:FD K "is_whole" Sa
 HJ:FD K "is_even" SD
 NL:FD K "leaves_no_kind_out" VP
 M1:FD K "count_kinds" UH
 L0:FD K "put_names" TU
 M0:FD K "first_pairs" UE
 MW:FD K "multiply_at" UR
 BD:FD K "fits" PL
 Cd:FD K "worth" Pc
 LV:FD K "_law_take" T3
 Mj:FD K "_law_cell_at" Ur
 Li:FD K "_law_alike" Tq
 LN:FD K "_law_ring" TL
 M4:FD K "_law_blocks" UC
 Mx:FD K "_law_unlike" UT
 N8:FD K "_law_each_own" Up
 Lu:FD K "_law_pairs" To
 LD:FD K "_law_kinds" Tz
 Lk:FD K "_law_named" Tt
 LL:FD K "is_wholes" TR
 Mn:FD K "count_shares" Uq
 My:FD K "count_sizes" UQ
 Ib:FD K "multiply" Sh
 Lf:FD K "_law_state" TJ
 MB:FD K "_law_beside" Uz
 Lv:FD K "_law_small" Tp
 Lb:FD K "_law_within" UJ
 Lr:FD K "_law_mixed" TB
 NT:FD K "is_wholes_below" V3
 M9:FD K "kind_shares" Td
 Mo:FD K "search_break" Ut
 MO:FD K "require_mix" UM
 M3:FD K "count_often" UA
 NM:FD K "_law_turned_about" VT
 Iz:FD K "is_table" T8
 NR:FD K "is_weights_tuple" VV
 N5:FD K "search_weights" Ua
 M7:FD K "_law_steady" U3
 N6:FD K "_law_whole_one" V6
 Me:FD K "require_table" Uo
 NU:FD K "require_weights" V2
 N2:FD K "require_steady" V9
 Ep:FD K "square" Rh
 E9:FD K "sizes" R7
 Hq:FD K "product" SR
 Dy:FD K "added" RQ
 MY:FD K "are_weights" Ta
 MX:FD K "all_weights" UB
 N0:FD K "is_whole_table" V8
 LM:FD K "how_often" TY
 Iv:FD K "worth_by" Sf
 Md:FD K "require_whole" Um
 El:FD K "mix_by" Rx
 LA:FD K "_law_right" Tu
 An:FD K "law" Wd
 AH:nsIn K mainGlobals "all"=some none
 AE:nsIn K mainGlobals "any"=some none
 C8:nsIn K mainGlobals "bool"=some none
 LU:nsIn K mainGlobals "enumerate"=some none
 Am:nsIn K mainGlobals "int"=some none
 Lj:nsIn K mainGlobals "isinstance"=some none
 zaK:nsIn K mainGlobals "len"=some none
 B3:nsIn K mainGlobals "list"=some none
 AL:nsIn K mainGlobals "max"=some none
 Ar:nsIn K mainGlobals "min"=some none
 DG:nsIn K mainGlobals "range"=some none
 AQ:nsIn K mainGlobals "set"=some none
 zae:nsIn K mainGlobals "sum"=some none
 DY:nsIn K mainGlobals "tuple"=some none
 Ax:nsIn K mainGlobals "zip"=some none
 M6:CD K "MOST_PLACES" 8
section
variable {K:Frag}
def bu (X:K.In h)(G:h.Ns mainGlobals mg)(T:Tx K):Bu mg:=⟨aX X G T.AH,aX X G T.AE,aX X G T.C8,aX X G T.LU,aX X G T.Am,aX X G T.Lj,aX X G T.zaK,aX X G T.B3,aX X G T.AL,aX X G T.Ar,aX X G T.DG,aX X G T.AQ,aX X G T.zae,aX X G T.DY,aX X G T.Ax,(let ⟨t,e⟩:=T.M6;⟨t,aO X G e⟩)⟩
structure Zz (K:Frag)(h:Heap)(mg:bO):Prop where
 X:K.In h
 G:h.Ns mainGlobals mg
 T:Tx K
 B:Bu mg
def zz (X:K.In h)(G:h.Ns mainGlobals mg)(T:Tx K):Zz K h mg:=⟨X,G,T,bu X G T⟩
def Ip (Z:Zz K h mg):zG P w K mg base 1 "is_whole" 1 JZ:=by
 obtain⟨f,fd,F,a⟩:=Z.T.Ie;exact(qD F (aO Z.X Z.G a) LZ (λ_ _ _ _ _ _=>j0 λ_=>rfl) λc A outer s H E r=>zu (qk (gG (KU .int Z.B.Kd Z.B.K6 (by rfl) (zc 0)) (Z5 (EM (KU .bl Z.B.Kd Z.B.Ad (by rfl) (zc 0)))))) (zD):zG P w K mg base 1 "is_whole" 1 GV)
def IQ (Z:Zz K h mg):zG P w K mg base 1 "is_even" 1 G7:=by
 obtain⟨f,fd,F,a⟩:=Z.T.HJ;exact(qD F (aO Z.X Z.G a) GY (λ_ _ _ _ _ _=>j0 λ_=>rfl) λc A outer s H E r=>zu (j4 PassesOwn.never rfl (Z1 rfl Z.B.ZU (zc 0)) (yK 1 2 rfl GY.nd) (zu (j4 PassesOwn.never rfl (Z1 rfl Z.B.ZU (zc 2)) (yK 3 4 rfl GY.nd) (zu (jF (Z0 (Yh (j5 (kG r) (kx (ky r) (zc 4) zH) (kx (ky r) (zc 1) (zc 3))) (Ya (j5 (kG r) (qY (qY (zc 0) (zc 3)) (zc 1)) (zc 4))))) (zu (qk kg) zD) zD) zD)) zD)) (zu (qk kg) zD):zG P w K mg base 1 "is_even" 1 S9).iso
def NJ (Z:Zz K h mg):zG P w K mg base 1 "leaves_no_kind_out" 1 W5:=by
 obtain⟨f,fd,F,a⟩:=Z.T.NL;exact(qD F (aO Z.X Z.G a) VN (λ_ _ _ _ _ _=>j0 λ_=>rfl) λc A outer s H E r=>zu (qE 1 VN.nd (ZZ (jg (N:=["row","kind"]) 2 [] (jB (zc 0)) (λ_ _ _=>⟨qC 0 (qL (by kernel_rfl)),qN,Xw (λ_ _ z=>z) rfl rfl (by intro _ h;cases h<;>rfl) (jB (zc 0)) (qC 1 (qL (by kernel_rfl))) qN (qS (zc 1))⟩)))) (zu (qk (KA rfl Z.B.Wa (jx (jg (N:=["kind","standing"]) 1 [1] (j9 rfl Z.B.jQ (J4 rfl Z.B.Jj (qJ (zc 1)))) (λ_ _ _=>⟨qC 0 (qL (by kernel_rfl)),qN,qS (BM cV (zc 0) (zc 1))⟩))))) zD):zG P w K mg base 1 "leaves_no_kind_out" 1 VO).iso
def QL (Z:Zz K h mg):zG P w K mg base 1 "count_kinds" 1 wN:=by
 obtain⟨f,fd,F,a⟩:=Z.T.M1;exact(qD F (aO Z.X Z.G a) Ml (λ_ _ _ _ _ _=>j0 λ_=>rfl) λc A outer s H E r=>zu (qk (yg (J4 rfl Z.B.Jj (jx (jg (N:=["row"]) 1 [] (jB (zc 0)) (λ_ _ _=>⟨qC 0 (qL (by kernel_rfl)),qN,qS (J4 rfl Z.B.Jj (qJ (zc 0)))⟩)))) zH)) (zD):zG P w K mg base 1 "count_kinds" 1 UO).iso
def LS (Z:Zz K h mg):zG P w K mg base 1 "put_names" 2 GO:=by
 obtain⟨f,fd,F,a⟩:=Z.T.L0;exact(qD F (aO Z.X Z.G a) Lq (λ_ _ _ _ _ _=>yq λ_ _=>rfl) λc A outer s H E r=>zu (qk (jv Z.B.jo (jx (jg (N:=["row","names"]) 1 [1] (jB (zc 0)) (λ_ _ _=>⟨qC 0 (qL (by kernel_rfl)),qN,qS (jv Z.B.jo (jx (jg (N:=["kind","names"]) 1 [1] (jB (zc 0)) (λ_ _ _=>⟨qC 0 (qL (by kernel_rfl)),qN,qS (qY (zc 1) (zc 0))⟩))))⟩))))) (zD):zG P w K mg base 1 "put_names" 2 TQ).iso
def UW (Z:Zz K h mg):zG P w K mg base 1 "first_pairs" 1 QK:=by
 obtain⟨f,fd,F,a⟩:=Z.T.M0;exact(qD F (aO Z.X Z.G a) YY (λ_ _ _ _ _ _=>j0 λ_=>rfl) λc A outer s H E r=>zu (qE 1 YY.nd DV) (zu (j4 PassesOwn.never rfl (Z1 rfl Z.B.ZU (zc 0)) (yK 2 3 rfl YY.nd) (zu (j4 PassesOwn.never rfl (Z1 rfl Z.B.ZU (zc 3)) (yK 4 5 rfl YY.nd) (zu (jw (Ig (zc 1) (zc 5) (wm (zp (zc 2) (zp (zc 4) zB)) (qo (qo jc))))) zD)) zD)) (zu (qk (zc 1)) zD)):zG P w K mg base 1 "first_pairs" 1 GB).iso
def MN (Z:Zz K h mg):zG P w K mg base 1 "multiply_at" 3 Y4:=by
 obtain⟨f,fd,F,a⟩:=Z.T.MW;exact(qD F (aO Z.X Z.G a) Mk (λ_ _ _ _ _ _=>ZL λ_ _ _=>rfl) λc A outer s H E r=>zu (qk (Q0 rfl Z.B.Jk (jx (jg (N:=["first","row","second","many","other"]) 4 [2] (gH rfl Z.B.gW (zc 1) (zc 0)) (λ_ _ _=>⟨yK 0 1 rfl (qL (by kernel_rfl)),qN,Xw (λ_ _ z=>z) rfl rfl (by intro _ h;cases h<;>rfl) (gH rfl Z.B.gW (zc 4) (zc 1)) (yK 2 3 rfl (qL (by kernel_rfl))) qN (qS (jE (jE (zc 0) (zc 2)) (zc 3)))⟩))))) (zD):zG P w K mg base 1 "multiply_at" 3 UZ).iso
def Oo (Z:Zz K h mg):zG P w K mg base 1 "fits" 2 Zq:=by
 obtain⟨f,fd,F,a⟩:=Z.T.BD;exact(qD F (aO Z.X Z.G a) Q4 (λ_ _ _ _ _ _=>yq λ_ _=>rfl) λc A outer s H E r=>zu (qE 2 Q4.nd (ju Z.B.jq (qJ (zc 1)))) (zu (j4 PassesOwn.never rfl (j9 rfl Z.B.jQ (zc 2)) (qC 3 Q4.nd) (zu (j4 PassesOwn.never rfl (j9 rfl Z.B.jQ (zc 2)) (qC 4 Q4.nd) (zu (ZW 5 (N:=["by_kind","i","j"]) 1 [3,4] Q4.nd rfl (cps (by kernel_rfl)) (by kernel_rfl) (jB (Rj (zc 0) (RT (zc 2)) Od)) (λ_ _ _=>⟨qC 0 (qL (by kernel_rfl)),qN,qS (qY (qY (zc 0) (zc 1)) (zc 2))⟩)) (zu (ZW 6 (N:=["by_kind","weight","i","j"]) 2 [3,4] Q4.nd rfl (cps (by kernel_rfl)) (by kernel_rfl) (gH rfl Z.B.gW (zc 0) (zc 1)) (λ_ _ _=>⟨yK 0 1 rfl (qL (by kernel_rfl)),qN,qS (jE (qY (qY (zc 0) (zc 2)) (zc 3)) (zc 1))⟩)) (zu (jF (Z0 (RX (kU (kB (DD rfl Z.B.zar (qJ (zc 5))))) (RB (j5 (kG r) (jE (qY (zc 1) (zc 3)) (qY (zc 1) (zc 4))) (Q0 rfl Z.B.Jk (qJ (zc 6))))))) (zu (qk kg) zD) zD) zD)))) zD)) (zu (qk kg) zD)):zG P w K mg base 1 "fits" 2 KW).j7
def E3 (Z:Zz K h mg):zG P w K mg base 1 "worth" 2 XA:=by
 obtain⟨f,fd,F,a⟩:=Z.T.Cd;exact(qD F (aO Z.X Z.G a) Ee (λ_ _ _ _ _ _=>yq λ_ _=>rfl) λc A outer s H E r=>zu (qk (Q0 rfl Z.B.Jk (jx (jg (N:=["weight","part"]) 2 [] (gH rfl Z.B.gW (zc 0) (zc 1)) (λ_ _ _=>⟨yK 0 1 rfl (qL (by kernel_rfl)),qN,qS (jE (zc 0) (zc 1))⟩))))) (zD):zG P w K mg base 1 "worth" 2 RO).iso
def wO (Z:Zz K h mg):zG P w K mg base 1 "_law_take" 2 yV:=by
 obtain⟨f,fd,F,a⟩:=Z.T.LV;exact(qD F (aO Z.X Z.G a) Ka (λ_ _ _ _ _ _=>yq λ_ _=>rfl) λc A outer s H E r=>zu (jF (kB (qY (zc 0) zH)) (zu (qE 2 Ka.nd (kS (qY (zc 0) zH) (zc 1))) (zu (RP (gk (qY (zc 0) zH) (zc 1)) (zc 0) zH) (zu (qk (zc 2)) zD))) zD) (zu (RP (kS (yg (jE (qY (zc 0) zH) zH) zH) zH) (zc 0) zH) (zu (qE 3 Ka.nd (kS (yg (yg (jE (qY (zc 0) zH) (qY (zc 0) zH)) (jE zH (qY (zc 0) zH))) zH) zH)) (zu (qE 3 Ka.nd (kS (yg (jE (zc 3) (zc 3)) (jE zH (zc 3))) zH)) (zu (qk (kS (gk (zc 3) zH) (zc 1))) zD)))):zG P w K mg base 1 "_law_take" 2 JV).j7
def Ms (Z:Zz K h mg):zG P w K mg base 1 "_law_cell_at" 2 YW:=by
 obtain⟨f,fd,F,a⟩:=Z.T.Mj;exact(qD F (aO Z.X Z.G a) N9 (λ_ _ _ _ _ _=>yq λ_ _=>rfl) λc A outer s H E r=>zu (jF (j5 Jq (zc 1) (ju Z.B.jq (qJ (zc 0)))) (zu (qk (qY (zc 0) (zc 1))) zD) zD) (zu (qk zH) zD):zG P w K mg base 1 "_law_cell_at" 2 Uu)
def gh (Z:Zz K h mg):zG P w K mg base 1 "_law_alike" 1 gg:=by
 obtain⟨f,fd,F,a⟩:=Z.T.Li;exact(qD F (aO Z.X Z.G a) MR (λ_ _ _ _ _ _=>j0 λ_=>rfl) λc A outer s H E r=>zu (qk (jv Z.B.jo (jx (jg (N:=["_law_a","_law_many"]) 1 [0] (j9 rfl Z.B.jQ (zc 0)) (λ_ _ _=>⟨qC 0 (qL (by kernel_rfl)),qN,qS (jv Z.B.jo (jx (jg (N:=["_law_b","_law_a"]) 1 [0] (j9 rfl Z.B.jQ (zc 1)) (λ_ _ _=>⟨qC 0 (qL (by kernel_rfl)),qN,qS (G4 Z.B.K6 (kx (kG r) (zc 1) (zc 0)))⟩))))⟩))))) (zD):zG P w K mg base 1 "_law_alike" 1 Y9).iso
def JX (Z:Zz K h mg):zG P w K mg base 1 "_law_ring" 1 Zj:=by
 obtain⟨f,fd,F,a⟩:=Z.T.LN;exact(qD F (aO Z.X Z.G a) Lg (λ_ _ _ _ _ _=>j0 λ_=>rfl) λc A outer s H E r=>zu (qk (jv Z.B.jo (jx (jg (N:=["_law_a","_law_many"]) 1 [0] (j9 rfl Z.B.jQ (zc 0)) (λ_ _ _=>⟨qC 0 (qL (by kernel_rfl)),qN,qS (jv Z.B.jo (jx (jg (N:=["_law_b","_law_a","_law_many"]) 1 [0,1] (j9 rfl Z.B.jQ (zc 1)) (λ_ _ _=>⟨qC 0 (qL (by kernel_rfl)),qN,qS (RC rfl Z.B.OP (kS (gJ (zc 1) (zc 0)) (zc 2)) (kS (gJ (zc 0) (zc 1)) (zc 2)))⟩))))⟩))))) (zD):zG P w K mg base 1 "_law_ring" 1 JU).iso
def U4 (Z:Zz K h mg):zG P w K mg base 1 "_law_blocks" 2 JM:=by
 obtain⟨f,fd,F,a⟩:=Z.T.M4;exact(qD F (aO Z.X Z.G a) JH (λ_ _ _ _ _ _=>yq λ_ _=>rfl) λc A outer s H E r=>zu (qE 2 JH.nd (j8 zB jc)) (zu (j4 PassesOwn.never rfl (j9 rfl Z.B.jQ (jE (zc 0) (zc 1))) (qC 3 JH.nd) (zu (qE 4 JH.nd (j8 zB jc)) (zu (j4 PassesOwn.never rfl (j9 rfl Z.B.jQ (jE (zc 0) (zc 1))) (qC 5 JH.nd) (zu (jw (gj (zc 4) (yg (G4 Z.B.K6 (kx (kG r) (zc 3) (zc 5))) (G4 Z.B.K6 (gG (kx (kG r) (gk (zc 3) (zc 1)) (gk (zc 5) (zc 1))) (Z5 (kx Na (zc 1) zH))))))) zD)) (zu (jw (gj (zc 2) (jv Z.B.jo (qJ (zc 4))))) zD)))) (zu (qk (jv Z.B.jo (qJ (zc 2)))) zD)):zG P w K mg base 1 "_law_blocks" 2 Y6).iso
def U9 (Z:Zz K h mg):zG P w K mg base 1 "_law_unlike" 1 JN:=by
 obtain⟨f,fd,F,a⟩:=Z.T.Mx;exact(qD F (aO Z.X Z.G a) Gk (λ_ _ _ _ _ _=>j0 λ_=>rfl) λc A outer s H E r=>zu (qE 1 Gk.nd (j8 zB jc)) (zu (j4 PassesOwn.never rfl (j9 rfl Z.B.jQ (KO zH (zc 0))) (qC 2 Gk.nd) (zu (jw (gj (zc 1) (jv Z.B.jo (jx (jg (N:=["_law_b","_law_many","_law_a"]) 1 [0,2] (j9 rfl Z.B.jQ (KO zH (zc 0))) (λ_ _ _=>⟨qC 0 (qL (by kernel_rfl)),qN,qS (Iw (ZZ (jg (N:=["_law_at","_law_b","_law_a"]) 1 [0,2] (j9 rfl Z.B.jQ (zc 1)) (λ_ _ _=>⟨qC 0 (qL (by kernel_rfl)),qN,qS (Es (Dq (RU (zc 2) (zc 1)) (zc 0)) zH)⟩))) zH)⟩)))))) zD)) (zu (qk (jv Z.B.jo (qJ (zc 1)))) zD)):zG P w K mg base 1 "_law_unlike" 1 Y7).iso
def Gj (Z:Zz K h mg):zG P w K mg base 1 "_law_each_own" 1 ZO:=by
 obtain⟨f,fd,F,a⟩:=Z.T.N8;exact(qD F (aO Z.X Z.G a) N7 (λ_ _ _ _ _ _=>j0 λ_=>rfl) λc A outer s H E r=>zu (qk (jv Z.B.jo (jx (jg (N:=["_law_a","_law_many"]) 1 [0] (j9 rfl Z.B.jQ (KO zH (zc 0))) (λ_ _ _=>⟨qC 0 (qL (by kernel_rfl)),qN,qS (jv Z.B.jo (jx (jg (N:=["_law_b","_law_a"]) 1 [0] (j9 rfl Z.B.jQ (KO zH (zc 1))) (λ_ _ _=>⟨qC 0 (qL (by kernel_rfl)),qN,qS (RU (zc 1) (zc 0))⟩))))⟩))))) (zD):zG P w K mg base 1 "_law_each_own" 1 YU).iso
def Tw (Z:Zz K h mg):zG P w K mg base 1 "_law_pairs" 1 JP:=by
 obtain⟨f,fd,F,a⟩:=Z.T.Lu;exact(qD F (aO Z.X Z.G a) JO (λ_ _ _ _ _ _=>j0 λ_=>rfl) λc A outer s H E r=>zu (qE 1 JO.nd (j8 zB jc)) (zu (j4 PassesOwn.never rfl (j9 rfl Z.B.jQ (zc 0)) (qC 2 JO.nd) (zu (jw (Iy (zc 1) (ZZ (jg (N:=["_law_b","_law_a"]) 1 [2] (Fc rfl Z.B.jQ (yg (zc 2) zH) (zc 0)) (λ_ _ _=>⟨qC 0 (qL (by kernel_rfl)),qN,qS (wm (zp (zc 1) (zp (zc 0) zB)) (qo (qo jc)))⟩))))) zD)) (zu (qE 3 JO.nd (j8 zB jc)) (zu (j4 PassesOwn.never rfl (jB (zc 1)) (qC 4 JO.nd) (zu (jw (gj (zc 3) (jv Z.B.jo (jx (jg (N:=["_law_other","_law_one"]) 1 [4] (jB (zc 1)) (λ_ _ _=>⟨qC 0 (qL (by kernel_rfl)),qN,qS (gJ zH (L6 rfl Z.B.jq Z.B.zaj (yg (zc 1) (zc 0))))⟩)))))) zD)) (zu (qk (jv Z.B.jo (jx (jg (N:=["_law_row"]) 1 [] (jB (zc 3)) (λ_ _ _=>⟨qC 0 (qL (by kernel_rfl)),qN,qS (jv Z.B.jo (jx (jg (N:=["_law_kind"]) 1 [] (jB (zc 0)) (λ_ _ _=>⟨qC 0 (qL (by kernel_rfl)),qN,qS (qY (j8 (zp zH (zp zH (zp zH zB))) (qo (qo (qo jc)))) (zc 0))⟩))))⟩))))) zD)))):zG P w K mg base 1 "_law_pairs" 1 GG).iso
def GI (Z:Zz K h mg):zG P w K mg base 1 "_law_kinds" 1 JS:=by
 obtain⟨f,fd,F,a⟩:=Z.T.LD;exact(qD F (aO Z.X Z.G a) MJ (λ_ _ _ _ _ _=>j0 λ_=>rfl) λc A outer s H E r=>zu (qk (yg (J4 rfl Z.B.Jj (jx (jg (N:=["_law_row"]) 1 [] (jB (zc 0)) (λ_ _ _=>⟨qC 0 (qL (by kernel_rfl)),qN,qS (J4 rfl Z.B.Jj (qJ (zc 0)))⟩)))) zH)) (zD):zG P w K mg base 1 "_law_kinds" 1 Te).iso
def LG (Z:Zz K h mg):zG P w K mg base 1 "_law_named" 3 Kc:=by
 obtain⟨f,fd,F,a⟩:=Z.T.Lk;exact(qD F (aO Z.X Z.G a) MD (λ_ _ _ _ _ _=>ZL λ_ _ _=>rfl) λc A outer s H E r=>zu (qk (jv Z.B.jo (jx (jg (N:=["_law_a","_law_table","_law_order","_law_names"]) 1 [0,1,2] (jB (zc 1)) (λ_ _ _=>⟨qC 0 (qL (by kernel_rfl)),qN,qS (jv Z.B.jo (jx (jg (N:=["_law_b","_law_a","_law_table","_law_names"]) 1 [0,1,3] (jB (zc 2)) (λ_ _ _=>⟨qC 0 (qL (by kernel_rfl)),qN,qS (qY (zc 3) (qY (qY (zc 2) (zc 1)) (zc 0)))⟩))))⟩))))) (zD):zG P w K mg base 1 "_law_named" 3 GJ)
def Kf (Z:Zz K h mg):zG P w K mg base 2 "is_wholes" 2 gC:=by
 obtain⟨f,fd,F,a⟩:=Z.T.LL;exact(qD F (aO Z.X Z.G a) Ln (λ_ _ _ _ _ _=>yq λ_ _=>rfl) λc A outer s H E r=>zu (qk (gG (KU .tup Z.B.Kd Z.B.jo (by rfl) (zc 0)) (gG (kx (ky r) (ju Z.B.jq (qJ (zc 0))) (zc 1)) (Z5 (KA rfl Z.B.Wa (jx (jg (N:=["part"]) 1 [] (jB (zc 0)) (λ_ _ _=>⟨qC 0 (qL (by kernel_rfl)),qN,qS (zE (Ip Z).up r (zp (zc 0) zB))⟩)))))))) (zD):zG P w K mg base 2 "is_wholes" 2 GR)
def Gq (Z:Zz K h mg):zG P w K mg base 2 "count_shares" 3 wL:=by
 obtain⟨f,fd,F,a⟩:=Z.T.Mn;exact(qD F (aO Z.X Z.G a) YV (λ_ _ _ _ _ _=>ZL λ_ _ _=>rfl) λc A outer s H E r=>zu (qE 3 YV.nd (zE (QL Z).up r (zp (zc 0) zB))) (zu (ZW 4 (N:=["kind","many"]) 1 [3] YV.nd rfl (cps (by kernel_rfl)) (by kernel_rfl) (j9 rfl Z.B.jQ (zc 3)) (λ_ _ _=>⟨qC 0 (qL (by kernel_rfl)),qN,qS (jE (j8 (zp zH zB) (qo jc)) (zc 1))⟩)) (zu (j4 PassesOwn.never rfl (gH rfl Z.B.gW (qY (zc 0) (zc 1)) (qY (zc 0) (zc 2))) (yK 5 6 rfl YV.nd) (zu (Ec (qY (zc 4) (zc 5)) (zc 6) zH) zD)) (zu (qk (jv Z.B.jo (jx (jg (N:=["row"]) 1 [] (jB (zc 4)) (λ_ _ _=>⟨qC 0 (qL (by kernel_rfl)),qN,qS (jv Z.B.jo (qJ (zc 0)))⟩))))) zD))):zG P w K mg base 2 "count_shares" 3 Uv).iso
def Y3 (Z:Zz K h mg):zG P w K mg base 2 "count_sizes" 1 gc:=by
 obtain⟨f,fd,F,a⟩:=Z.T.My;exact(qD F (aO Z.X Z.G a) Mt (λ_ _ _ _ _ _=>j0 λ_=>rfl) λc A outer s H E r=>zu (qk (ZZ (jg (N:=["kind","table"]) 1 [0] (j9 rfl Z.B.jQ (zE (QL Z).up r (zp (zc 0) zB))) (λ_ _ _=>⟨qC 0 (qL (by kernel_rfl)),qN,qS (HA (qY (zc 1) zH) (zc 0))⟩)))) (zD):zG P w K mg base 2 "count_sizes" 1 Uy).iso
def Io (Z:Zz K h mg):zG P w K mg base 2 "multiply" 3 Ki:=by
 obtain⟨f,fd,F,a⟩:=Z.T.Ib;exact(qD F (aO Z.X Z.G a) LQ (λ_ _ _ _ _ _=>ZL λ_ _ _=>rfl) λc A outer s H E r=>zu (qk (jv Z.B.jo (jx (jg (N:=["by_kind","one","other"]) 1 [1,2] (jB (zc 0)) (λ_ _ _=>⟨qC 0 (qL (by kernel_rfl)),qN,qS (zE (MN Z).up r (zp (zc 0) (zp (zc 1) (zp (zc 2) zB))))⟩))))) (zD):zG P w K mg base 2 "multiply" 3 GX)
def Lo (Z:Zz K h mg):zG P w K mg base 2 "_law_state" 2 QN:=by
 obtain⟨f,fd,F,a⟩:=Z.T.Lf;exact(qD F (aO Z.X Z.G a) UP (λ_ _ _ _ _ _=>yq λ_ _=>rfl) λc A outer s H E r=>zu (qE 2 UP.nd (zE (Ms Z).up r (zp (zc 0) (zp (zc 1) zB)))) (zu (jF (j5 cT (zc 2) (RR zH zH)) (zu (qk (j8 (zp (gJ (zc 2) (RR zH zH)) (zp kg zB)) (qo (qo jc)))) zD) zD) (zu (qk (j8 (zp (kS (zc 2) zH) (zp kg zB)) (qo (qo jc)))) zD)):zG P w K mg base 2 "_law_state" 2 TF)
def UY (Z:Zz K h mg):zG P w K mg base 2 "_law_beside" 2 JK:=by
 obtain⟨f,fd,F,a⟩:=Z.T.MB;exact(qD F (aO Z.X Z.G a) QI (λ_ _ _ _ _ _=>yq λ_ _=>rfl) λc A outer s H E r=>zu (KS 2 3 rfl QI.nd (zE (GI Z).up r (zp (zc 1) zB)) (j8 zB jc)) (zu (j4 PassesOwn.never rfl (j9 rfl Z.B.jQ (jE (ju Z.B.jq (qJ (zc 0))) (ju Z.B.jq (qJ (zc 1))))) (qC 4 QI.nd) (zu (qE 5 QI.nd (j8 zB jc)) (zu (j4 PassesOwn.never rfl (j9 rfl Z.B.jQ (jE (ju Z.B.jq (qJ (zc 0))) (ju Z.B.jq (qJ (zc 1))))) (qC 6 QI.nd) (zu (qE 7 QI.nd (qY (qY (zc 0) (gk (zc 4) (ju Z.B.jq (qJ (zc 1))))) (gk (zc 6) (ju Z.B.jq (qJ (zc 1)))))) (zu (jw (gj (zc 5) (yg (jE (zc 7) (zc 2)) (qY (qY (zc 1) (kS (zc 4) (ju Z.B.jq (qJ (zc 1))))) (kS (zc 6) (ju Z.B.jq (qJ (zc 1)))))))) zD))) (zu (jw (gj (zc 3) (jv Z.B.jo (qJ (zc 5))))) zD)))) (zu (qk (jv Z.B.jo (qJ (zc 3)))) zD)):zG P w K mg base 2 "_law_beside" 2 Y2).iso
def Tf (Z:Zz K h mg):zG P w K mg base 2 "_law_small" 1 JR:=by
 obtain⟨f,fd,F,a⟩:=Z.T.Lv;exact(qD F (aO Z.X Z.G a) UD (λ_ _ _ _ _ _=>j0 λ_=>rfl) λc A outer s H E r=>zu (qE 1 UD.nd (zE (wO Z).up r (zp (zc 0) (zp zH zB)))) (zu (qk (qY (j8 (zp (zE (gh Z).up r (zp zH zB)) (zp (zE (gh Z).up r (zp zH zB)) (zp (zE (JX Z).up r (zp zH zB)) (zp (zE (gh Z).up r (zp zH zB)) (zp (zE (Gj Z).up r (zp zH zB)) zB))))) (qo (qo (qo (qo (qo jc)))))) (zc 1))) zD):zG P w K mg base 2 "_law_small" 1 TC).j7
def U5 (Z:Zz K h mg):zG P w K mg base 2 "_law_within" 2 JL:=by
 obtain⟨f,fd,F,a⟩:=Z.T.Lb;exact(qD F (aO Z.X Z.G a) QG (λ_ _ _ _ _ _=>yq λ_ _=>rfl) λc A outer s H E r=>zu (KS 2 3 rfl QG.nd (gJ (zE (GI Z).up r (zp (zc 1) zB)) zH) (j8 zB jc)) (zu (j4 PassesOwn.never rfl (j9 rfl Z.B.jQ (jE (ju Z.B.jq (qJ (zc 0))) (ju Z.B.jq (qJ (zc 1))))) (qC 4 QG.nd) (zu (qE 5 QG.nd (j8 zB jc)) (zu (j4 PassesOwn.never rfl (j9 rfl Z.B.jQ (jE (ju Z.B.jq (qJ (zc 0))) (ju Z.B.jq (qJ (zc 1))))) (qC 6 QG.nd) (zu (qE 7 QG.nd (qY (qY (zc 0) (gk (zc 4) (ju Z.B.jq (qJ (zc 1))))) (gk (zc 6) (ju Z.B.jq (qJ (zc 1)))))) (zu (jw (gj (zc 5) (CO (j5 Na (zc 7) zH) (yg (zc 7) (zc 2)) (qY (qY (zc 1) (kS (zc 4) (ju Z.B.jq (qJ (zc 1))))) (kS (zc 6) (ju Z.B.jq (qJ (zc 1)))))))) zD))) (zu (jw (gj (zc 3) (jv Z.B.jo (qJ (zc 5))))) zD)))) (zu (qk (jv Z.B.jo (qJ (zc 3)))) zD)):zG P w K mg base 2 "_law_within" 2 Y1).iso
def Ts (Z:Zz K h mg):zG P w K mg base 2 "_law_mixed" 2 ZS:=by
 obtain⟨f,fd,F,a⟩:=Z.T.Lr;exact(qD F (aO Z.X Z.G a) Gu (λ_ _ _ _ _ _=>yq λ_ _=>rfl) λc A outer s H E r=>zu (qE 2 Gu.nd (IE rfl Z.B.PZ Z.B.jQ (zc 1))) (zu (qE 3 Gu.nd (j8 zB jc)) (zu (Hs 1000 PassesOwn.never (j5 (kG r) (zc 2) (j8 zB jc)) (zu (jw (gj (zc 3) (I9 (zc 2) (zE (wO Z).up r (zp (zc 0) (zp (ju Z.B.jq (qJ (zc 2))) zB)))))) zD)) (zu (qk (jv Z.B.jo (qJ (zc 3)))) zD))):zG P w K mg base 2 "_law_mixed" 2 GH).j7
def NW (Z:Zz K h mg):zG P w K mg base 3 "is_wholes_below" 3 JC:=by
 obtain⟨f,fd,F,a⟩:=Z.T.NT;exact(qD F (aO Z.X Z.G a) NQ (λ_ _ _ _ _ _=>ZL λ_ _ _=>rfl) λc A outer s H E r=>zu (qk (gG (zE (Kf Z).up r (zp (zc 0) (zp (zc 1) zB))) (Z5 (KA rfl Z.B.Wa (jx (jg (N:=["part","limit"]) 1 [2] (jB (zc 0)) (λ_ _ _=>⟨qC 0 (qL (by kernel_rfl)),qN,qS (CT Vo Jq zH (zc 0) (zc 1))⟩))))))) (zD):zG P w K mg base 3 "is_wholes_below" 3 W9)
def Gw (Z:Zz K h mg):zG P w K mg base 3 "kind_shares" 1 ZR:=by
 obtain⟨f,fd,F,a⟩:=Z.T.M9;exact(qD F (aO Z.X Z.G a) Gr (λ_ _ _ _ _ _=>j0 λ_=>rfl) λc A outer s H E r=>zu (qE 1 Gr.nd (zE (UW Z).up r (zp (zc 0) zB))) (zu (ZW 2 (N:=["kind","firsts"]) 1 [1] Gr.nd rfl (cps (by kernel_rfl)) (by kernel_rfl) (j9 rfl Z.B.jQ (zE (QL Z).up r (zp (zc 0) zB))) (λ_ _ _=>⟨qC 0 (qL (by kernel_rfl)),qN,qS (HD r (zc 1) (zc 0))⟩)) (zu (qk (ZZ (jg (N:=["a","b","table"]) 2 [0] (jB (zc 2)) (λ_ _ _=>⟨yK 0 1 rfl (qL (by kernel_rfl)),qN,qS (zE (Gq Z).up r (zp (zc 2) (zp (zc 0) (zp (zc 1) zB))))⟩)))) zD)):zG P w K mg base 3 "kind_shares" 1 Ux).iso
def Mh (Z:Zz K h mg):zG P w K mg base 3 "search_break" 1 YX:=by
 obtain⟨f,fd,F,a⟩:=Z.T.Mo;exact(qD F (aO Z.X Z.G a) JF (λ_ _ _ _ _ _=>j0 λ_=>rfl) λc A outer s H E r=>zu (j4 PassesOwn.never rfl (Ha (zE (UW Z).up r (zp (zc 0) zB))) (HF 1 2 3 rfl JF.nd) (zu (qE 4 JF.nd (zE (Gq Z).up r (zp (zc 0) (zp (zc 2) (zp (zc 3) zB))))) (zu (j4 PassesOwn.never rfl (Z1 rfl Z.B.ZU (zc 0)) (yK 5 6 rfl JF.nd) (zu (j4 PassesOwn.never rfl (Z1 rfl Z.B.ZU (zc 6)) (yK 7 8 rfl JF.nd) (zu (jF (Z0 (RX (j5 (ky r) (zc 8) (zc 1)) (RB (j5 (kG r) (zE (Gq Z).up r (zp (zc 0) (zp (zc 5) (zp (zc 7) zB)))) (zc 4))))) (zu (qk (wm (zp (zc 2) (zp (zc 3) (zp (zc 5) (zp (zc 7) zB)))) (qo (qo (qo (qo jc)))))) zD) zD) zD)) zD)) zD))) (zu (qk Xs) zD):zG P w K mg base 3 "search_break" 1 Uw).iso
def QJ (Z:Zz K h mg):zG P w K mg base 3 "require_mix" 2 QM:=by
 obtain⟨f,fd,F,a⟩:=Z.T.MO;exact(qD F (aO Z.X Z.G a) Mm (λ_ _ _ _ _ _=>yq λ_ _=>rfl) λc A outer s H E r=>zu (jF (kU (kB (zE (Kf Z).up r (zp (zc 1) (zp (zE (QL Z).up r (zp (zc 0) zB)) zB))))) (zu Q5 zD) zD) (zD):zG P w K mg base 3 "require_mix" 2 U0).iso
def U1 (Z:Zz K h mg):zG P w K mg base 3 "count_often" 2 JI:=by
 obtain⟨f,fd,F,a⟩:=Z.T.M3;exact(qD F (aO Z.X Z.G a) QF (λ_ _ _ _ _ _=>yq λ_ _=>rfl) λc A outer s H E r=>zu (qE 2 QF.nd zH) (zu (qE 3 QF.nd zH) (zu (j4 PassesOwn.never rfl (gH rfl Z.B.gW (zE (Y3 Z).up r (zp (zc 0) zB)) (zc 1)) (yK 4 5 rfl QF.nd) (zu (qE 2 QF.nd (yg (jE (zc 2) (zc 4)) (jE (jE (zc 5) (zc 5)) (zc 3)))) (zu (qE 3 QF.nd (jE (zc 3) (zc 4))) zD))) (zu (qk (gk (jE (ju Z.B.jq (qJ (zc 0))) (zc 3)) (zc 2))) zD))):zG P w K mg base 3 "count_often" 2 UG).iso
def VR (Z:Zz K h mg):zG P w K mg base 3 "_law_turned_about" 2 ZM:=by
 obtain⟨f,fd,F,a⟩:=Z.T.NM;exact(qD F (aO Z.X Z.G a) W4 (λ_ _ _ _ _ _=>yq λ_ _=>rfl) λc A outer s H E r=>zu (qE 2 W4.nd (zE (GI Z).up r (zp (zc 1) zB))) (zu (qE 3 W4.nd (yg (j8 (zp zH zB) (qo jc)) (ZZ (jg (N:=["_law_name"]) 1 [] (jB (zE (Ts Z).up r (zp (zc 0) (zp (gJ (zc 2) zH) zB)))) (λ_ _ _=>⟨qC 0 (qL (by kernel_rfl)),qN,qS (yg zH (zc 0))⟩))))) (zu (qk (zE (LG Z).up r (zp (zc 1) (zp (zE (Ts Z).up r (zp (zc 0) (zp (ju Z.B.jq (qJ (zc 1))) zB))) (zp (zc 3) zB))))) zD)):zG P w K mg base 3 "_law_turned_about" 2 W7).j7
def IF (Z:Zz K h mg):zG P w K mg base 4 "is_table" 1 J1:=by
 obtain⟨f,fd,F,a⟩:=Z.T.Iz;exact(qD F (aO Z.X Z.G a) T4 (λ_ _ _ _ _ _=>j0 λ_=>rfl) λc A outer s H E r=>zu (jF (Z0 (Yh (kU (kB (KU .tup Z.B.Kd Z.B.jo (by rfl) (zc 0)))) (Ya (kU (Cz Vo Vo zH (ju Z.B.jq (qJ (zc 0))) (FP rfl Z.B.MU.choose_spec)))))) (zu (qk kg) zD) zD) (zu (qE 1 T4.nd (ju Z.B.jq (qJ (zc 0)))) (zu (jF (kU (kB (KA rfl Z.B.Wa (jx (jg (N:=["row","many"]) 1 [1] (jB (zc 0)) (λ_ _ _=>⟨qC 0 (qL (by kernel_rfl)),qN,qS (zE (NW Z).up r (zp (zc 0) (zp (zc 1) (zp (zc 1) zB))))⟩)))))) (zu (qk kg) zD) zD) (zu (qk (gG (zE (IQ Z).up r (zp (zc 0) zB)) (Z5 (zE (NJ Z).up r (zp (zc 0) zB))))) zD))):zG P w K mg base 4 "is_table" 1 GS)
def VX (Z:Zz K h mg):zG P w K mg base 4 "is_weights_tuple" 2 YO:=by
 obtain⟨f,fd,F,a⟩:=Z.T.NR;exact(qD F (aO Z.X Z.G a) NN (λ_ _ _ _ _ _=>yq λ_ _=>rfl) λc A outer s H E r=>zu (jF (kU (kB (zE (Kf Z).up r (zp (zc 1) (zp (zE (QL Z).up r (zp (zc 0) zB)) zB))))) (zu (qk kg) zD) zD) (zu (qk (gG (kx (ky r) (qY (zc 1) zH) zH) (Z5 (zE (Oo Z).up r (zp (zE (Gw Z).up r (zp (zc 0) zB)) (zp (zc 1) zB)))))) zD):zG P w K mg base 4 "is_weights_tuple" 2 VU).iso
def Ge (Z:Zz K h mg):zG P w K mg base 4 "search_weights" 1 QE:=by
 obtain⟨f,fd,F,a⟩:=Z.T.N5;exact(qD F (aO Z.X Z.G a) QC (λ_ _ _ _ _ _=>j0 λ_=>rfl) λc A outer s H E r=>zu (qE 1 QC.nd (zE (Gw Z).up r (zp (zc 0) zB))) (zu (qE 2 QC.nd (j8 (zp (wm (zp zH zB) (qo jc)) zB) (qo jc))) (zu (j4 PassesOwn.never rfl (jB (Rj (zE (Y3 Z).up r (zp (zc 0) zB)) (RT zH) Od)) (qC 3 QC.nd) (zu (ZW 4 (N:=["start","weight","size"]) 2 [3] QC.nd rfl (cps (by kernel_rfl)) (by kernel_rfl) (jB (zc 2)) (λ_ _ _=>⟨qC 0 (qL (by kernel_rfl)),qN,Xw (λ_ _ z=>z) rfl rfl (by intro _ h;cases h<;>rfl) (Eo rfl Z.B.jQ (zc 2) (gJ (EW (zc 2)) zH)) (qC 1 (qL (by kernel_rfl))) qN (qS (yg (zc 0) (wm (zp (zc 1) zB) (qo jc))))⟩)) (zu (ZW 2 (N:=["start","shares"]) 1 [1] QC.nd rfl (cps (by kernel_rfl)) (by kernel_rfl) (jB (zc 4)) (λ_ _ _=>⟨qC 0 (qL (by kernel_rfl)),FQ (kB (zE (Oo Z).up r (zp (zc 1) (zp (zc 0) zB)))),qS (zc 0)⟩)) zD))) (zu (qk (zc 2)) zD))):zG P w K mg base 4 "search_weights" 1 Ub).iso
def M8 (Z:Zz K h mg):zG P w K mg base 4 "_law_steady" 1 ZP:=by
 obtain⟨f,fd,F,a⟩:=Z.T.M7;exact(qD F (aO Z.X Z.G a) wK (λ_ _ _ _ _ _=>j0 λ_=>rfl) λc A outer s H E r=>zu (qE 1 wK.nd (zE (wO Z).up r (zp (zc 0) (zp zH zB)))) (zu (jF (j5 (ky r) (zc 1) zH) (zu (qE 2 wK.nd (zE (gh Z).up r (zp (yg zH (zE (wO Z).up r (zp (zc 0) (zp zH zB)))) zB))) zD) (zu (jF (j5 Jq (zc 1) zH) (zu (qE 2 wK.nd (zE (JX Z).up r (zp (yg zH (zE (wO Z).up r (zp (zc 0) (zp zH zB)))) zB))) zD) (zu (jF (j5 (ky r) (zc 1) zH) (zu (Cm (qY (j8 (zp (wm (zp zH (zp zH zB)) (qo (qo jc))) (zp (wm (zp zH (zp zH zB)) (qo (qo jc))) (zp (wm (zp zH (zp zH zB)) (qo (qo jc))) (zp (wm (zp zH (zp zH zB)) (qo (qo jc))) (zp (wm (zp zH (zp zH zB)) (qo (qo jc))) (zp (wm (zp zH (zp zH zB)) (qo (qo jc))) (zp (wm (zp zH (zp zH zB)) (qo (qo jc))) zB))))))) (qo (qo (qo (qo (qo (qo (qo jc)))))))) (zE (wO Z).up r (zp (zc 0) (zp zH zB)))) (yK 3 4 rfl wK.nd)) (zu (qE 2 wK.nd (zE (U4 Z).up r (zp (zc 3) (zp (zc 4) zB)))) zD)) (zu (jF (j5 Jq (zc 1) zH) (zu (qE 2 wK.nd (zE (U9 Z).up r (zp (yg zH (zE (wO Z).up r (zp (zc 0) (zp zH zB)))) zB))) zD) (zu (jF (j5 (ky r) (zc 1) zH) (zu (qE 2 wK.nd (zE (Gj Z).up r (zp (yg zH (zE (wO Z).up r (zp (zc 0) (zp zH zB)))) zB))) zD) (zu (jF (j5 (ky r) (zc 1) zH) (zu (qE 2 wK.nd (zE (Tw Z).up r (zp zH zB))) zD) (zu (jF (j5 Jq (zc 1) zH) (zu (qE 2 wK.nd (zE (UY Z).up r (zp (zE (gh Z).up r (zp zH zB)) (zp (zE (Tf Z).up r (zp (zc 0) zB)) zB)) (qo (qo jc)))) zD) (zu (qE 2 wK.nd (zE (U5 Z).up r (zp (zE (gh Z).up r (zp zH zB)) (zp (zE (Tf Z).up r (zp (zc 0) zB)) zB)) (qo (qo jc)))) zD)) zD)) zD)) zD)) zD)) zD)) zD)) (zu (qk (zE (VR Z).up r (zp (zc 0) (zp (zc 2) zB)))) zD)):zG P w K mg base 4 "_law_steady" 1 US).j7
def N1 (Z:Zz K h mg):zG P w K mg base 4 "_law_whole_one" 1 ZN:=by
 obtain⟨f,fd,F,a⟩:=Z.T.N6;exact(qD F (aO Z.X Z.G a) YR (λ_ _ _ _ _ _=>j0 λ_=>rfl) λc A outer s H E r=>zu (qE 1 YR.nd (zE (wO Z).up r (zp (zc 0) (zp zH zB)))) (zu (qE 2 YR.nd (j8 (zp (zE (gh Z).up r (zp zH zB)) (zp (zE (JX Z).up r (zp zH zB)) (zp (zE (JX Z).up r (zp zH zB)) (zp (zE (U4 Z).up r (zp zH (zp zH zB))) (zp (zE (U9 Z).up r (zp zH zB)) (zp (zE (Gj Z).up r (zp zH zB)) zB)))))) (qo (qo (qo (qo (qo (qo jc)))))))) (zu (qE 2 YR.nd (yg (zc 2) (j8 (zp (zE (Tw Z).up r (zp zH zB)) (zp (zE (UY Z).up r (zp (zE (gh Z).up r (zp zH zB)) (zp (zE (gh Z).up r (zp zH zB)) zB)) (qo (qo jc))) (zp (zE (U5 Z).up r (zp (zE (gh Z).up r (zp zH zB)) (zp (zE (JX Z).up r (zp zH zB)) zB)) (qo (qo jc))) zB))) (qo (qo (qo jc)))))) (zu (qk (zE (VR Z).up r (zp (zc 0) (zp (qY (zc 2) (zc 1)) zB)))) zD))):zG P w K mg base 4 "_law_whole_one" 1 Uh).j7
def Ui (Z:Zz K h mg):zG P w K mg base 5 "require_table" 1 JE:=by
 obtain⟨f,fd,F,a⟩:=Z.T.Me;exact(qD F (aO Z.X Z.G a) N3 (λ_ _ _ _ _ _=>j0 λ_=>rfl) λc A outer s H E r=>zu (jF (kU (kB (zE (IF Z).up r (zp (zc 0) zB)))) (zu Q5 zD) zD) (zD):zG P w K mg base 5 "require_table" 1 Gh)
def VZ (Z:Zz K h mg):zG P w K mg base 5 "require_weights" 2 YQ:=by
 obtain⟨f,fd,F,a⟩:=Z.T.NU;exact(qD F (aO Z.X Z.G a) NP (λ_ _ _ _ _ _=>yq λ_ _=>rfl) λc A outer s H E r=>zu (jF (kU (kB (zE (VX Z).up r (zp (zc 0) (zp (zc 1) zB))))) (zu Q5 zD) zD) (zD):zG P w K mg base 5 "require_weights" 2 VY).iso
def Zh (Z:Zz K h mg):zG P w K mg base 6 "require_steady" 1 wJ:=by
 obtain⟨f,fd,F,a⟩:=Z.T.N2;exact(qD F (aO Z.X Z.G a) NX (λ_ _ _ _ _ _=>j0 λ_=>rfl) λc A outer s H E r=>zu (jw (zE (Ui Z).up r (zp (zc 0) zB))) (zu (jF (j5 Pk (zE (Mh Z).up r (zp (zc 0) zB)) Xs) (zu Q5 zD) zD) zD):zG P w K mg base 6 "require_steady" 1 Gb)
def FG (Z:Zz K h mg):zG P w K mg base 6 "square" 2 QT:=by
 obtain⟨f,fd,F,a⟩:=Z.T.Ep;exact(qD F (aO Z.X Z.G a) Hd (λ_ _ _ _ _ _=>yq λ_ _=>rfl) λc A outer s H E r=>zu (jw (zE (Ui Z).up r (zp (zc 0) zB))) (zu (jw (zE (QJ Z).up r (zp (zc 0) (zp (zc 1) zB)))) (zu (qk (zE (LS Z).up r (zp (zc 0) (zp (zc 1) zB)))) zD)):zG P w K mg base 6 "square" 2 Rm).iso
def DA (Z:Zz K h mg):zG P w K mg base 7 "sizes" 1 Yd:=by
 obtain⟨f,fd,F,a⟩:=Z.T.E9;exact(qD F (aO Z.X Z.G a) Fj (λ_ _ _ _ _ _=>j0 λ_=>rfl) λc A outer s H E r=>zu (jw (zE (Zh Z).up r (zp (zc 0) zB))) (zu (qk (zE (Y3 Z).up r (zp (zc 0) zB))) zD):zG P w K mg base 7 "sizes" 1 R4).iso
def IL (Z:Zz K h mg):zG P w K mg base 7 "product" 3 Kk:=by
 obtain⟨f,fd,F,a⟩:=Z.T.Hq;exact(qD F (aO Z.X Z.G a) IB (λ_ _ _ _ _ _=>ZL λ_ _ _=>rfl) λc A outer s H E r=>zu (jw (zE (Zh Z).up r (zp (zc 0) zB))) (zu (jw (zE (QJ Z).up r (zp (zc 0) (zp (zc 1) zB)))) (zu (jw (zE (QJ Z).up r (zp (zc 0) (zp (zc 2) zB)))) (zu (qk (zE (Io Z).up r (zp (zE (Gw Z).up r (zp (zc 0) zB)) (zp (zc 1) (zp (zc 2) zB))))) zD))):zG P w K mg base 7 "product" 3 SU).iso
def DJ (Z:Zz K h mg):zG P w K mg base 7 "added" 3 KG:=by
 obtain⟨f,fd,F,a⟩:=Z.T.Dy;exact(qD F (aO Z.X Z.G a) Fx (λ_ _ _ _ _ _=>ZL λ_ _ _=>rfl) λc A outer s H E r=>zu (jw (zE (Zh Z).up r (zp (zc 0) zB))) (zu (jw (zE (QJ Z).up r (zp (zc 0) (zp (zc 1) zB)))) (zu (jw (zE (QJ Z).up r (zp (zc 0) (zp (zc 2) zB)))) (zu (qk (jv Z.B.jo (jx (jg (N:=["first","second"]) 2 [] (gH rfl Z.B.gW (zc 1) (zc 2)) (λ_ _ _=>⟨yK 0 1 rfl (qL (by kernel_rfl)),qN,qS (yg (zc 0) (zc 1))⟩))))) zD))):zG P w K mg base 7 "added" 3 PD).iso
def Mv (Z:Zz K h mg):zG P w K mg base 7 "are_weights" 2 Y0:=by
 obtain⟨f,fd,F,a⟩:=Z.T.MY;exact(qD F (aO Z.X Z.G a) Mq (λ_ _ _ _ _ _=>yq λ_ _=>rfl) λc A outer s H E r=>zu (jw (zE (Zh Z).up r (zp (zc 0) zB))) (zu (qk (zE (VX Z).up r (zp (zc 0) (zp (zc 1) zB)))) zD):zG P w K mg base 7 "are_weights" 2 UU).iso
def MK (Z:Zz K h mg):zG P w K mg base 7 "all_weights" 1 Y5:=by
 obtain⟨f,fd,F,a⟩:=Z.T.MX;exact(qD F (aO Z.X Z.G a) Mp (λ_ _ _ _ _ _=>j0 λ_=>rfl) λc A outer s H E r=>zu (jw (zE (Zh Z).up r (zp (zc 0) zB))) (zu (qk (zE (Ge Z).up r (zp (zc 0) zB))) zD):zG P w K mg base 7 "all_weights" 1 UX).iso
def V4 (Z:Zz K h mg):zG P w K mg base 7 "is_whole_table" 1 YS:=by
 obtain⟨f,fd,F,a⟩:=Z.T.N0;exact(qD F (aO Z.X Z.G a) NS (λ_ _ _ _ _ _=>j0 λ_=>rfl) λc A outer s H E r=>zu (jw (zE (Zh Z).up r (zp (zc 0) zB))) (zu (qk (kx (ky r) (ju Z.B.jq (qJ (zE (Ge Z).up r (zp (zc 0) zB)))) (zE (QL Z).up r (zp (zc 0) zB)))) zD):zG P w K mg base 7 "is_whole_table" 1 Uc).iso
def T5 (Z:Zz K h mg):zG P w K mg base 7 "how_often" 2 gD:=by
 obtain⟨f,fd,F,a⟩:=Z.T.LM;exact(qD F (aO Z.X Z.G a) Ll (λ_ _ _ _ _ _=>yq λ_ _=>rfl) λc A outer s H E r=>zu (jw (zE (Zh Z).up r (zp (zc 0) zB))) (zu (jw (zE (VZ Z).up r (zp (zc 0) (zp (zc 1) zB)))) (zu (qk (zE (U1 Z).up r (zp (zc 0) (zp (zc 1) zB)))) zD)):zG P w K mg base 7 "how_often" 2 TV).iso
def ZY (Z:Zz K h mg):zG P w K mg base 7 "worth_by" 3 wj:=by
 obtain⟨f,fd,F,a⟩:=Z.T.Iv;exact(qD F (aO Z.X Z.G a) LW (λ_ _ _ _ _ _=>ZL λ_ _ _=>rfl) λc A outer s H E r=>zu (jw (zE (Zh Z).up r (zp (zc 0) zB))) (zu (jw (zE (VZ Z).up r (zp (zc 0) (zp (zc 1) zB)))) (zu (jw (zE (QJ Z).up r (zp (zc 0) (zp (zc 2) zB)))) (zu (qk (zE (E3 Z).up r (zp (zc 1) (zp (zc 2) zB)))) zD))):zG P w K mg base 7 "worth_by" 3 Si).iso
def Ma (Z:Zz K h mg):zG P w K mg base 8 "require_whole" 1 Gi:=by
 obtain⟨f,fd,F,a⟩:=Z.T.Md;exact(qD F (aO Z.X Z.G a) N4 (λ_ _ _ _ _ _=>j0 λ_=>rfl) λc A outer s H E r=>zu (jF (kU (kB (zE (V4 Z).up r (zp (zc 0) zB)))) (zu Q5 zD) zD) (zD):zG P w K mg base 8 "require_whole" 1 Uk).iso
def F2 (Z:Zz K h mg):zG P w K mg base 9 "mix_by" 2 Kr:=by
 obtain⟨f,fd,F,a⟩:=Z.T.El;exact(qD F (aO Z.X Z.G a) QR (λ_ _ _ _ _ _=>yq λ_ _=>rfl) λc A outer s H E r=>zu (jw (zE (Ma Z).up r (zp (zc 0) zB))) (zu (qE 2 QR.nd (zE (Ge Z).up r (zp (zc 0) zB))) (zu (jF (kU (kB (zE (Kf Z).up r (zp (zc 1) (zp (ju Z.B.jq (qJ (zc 2))) zB))))) (zu Q5 zD) zD) (zu (ZW 3 (N:=["weights","wanted","table"]) 2 [0] QR.nd rfl (cps (by kernel_rfl)) (by kernel_rfl) (gH rfl Z.B.gW (zc 2) (zc 1)) (λ_ _ _=>⟨yK 0 1 rfl (qL (by kernel_rfl)),qN,qS (jE (zE (U1 Z).up r (zp (zc 2) (zp (zc 0) zB))) (zc 1))⟩)) (zu (qE 4 QR.nd (j8 zB jc)) (zu (j4 PassesOwn.never rfl (Z1 rfl Z.B.ZU (zE (Y3 Z).up r (zp (zc 0) zB))) (yK 5 6 rfl QR.nd) (zu (qE 7 QR.nd (Q0 rfl Z.B.Jk (jx (jg (N:=["part","weights","kind"]) 2 [5] (gH rfl Z.B.gW (zc 3) (zc 2)) (λ_ _ _=>⟨yK 0 1 rfl (qL (by kernel_rfl)),qN,qS (jE (zc 0) (qY (zc 1) (zc 2)))⟩))))) (zu (jF (j5 (kG r) (kS (zc 7) (jE (ju Z.B.jq (qJ (zc 0))) (zc 6))) zH) (zu (qk Xs) zD) zD) (zu (jw (gj (zc 4) (gk (zc 7) (jE (ju Z.B.jq (qJ (zc 0))) (zc 6))))) zD)))) (zu (qk (jv Z.B.jo (qJ (zc 4)))) zD)))))):zG P w K mg base 9 "mix_by" 2 Ro).iso
def Lw (Z:Zz K h mg):zG P w K mg base 10 "_law_right" 2 Zi:=by
 obtain⟨f,fd,F,a⟩:=Z.T.LA;exact(qD F (aO Z.X Z.G a) gf (λ_ _ _ _ _ _=>yq λ_ _=>rfl) λc A outer s H E r=>zu (qE 2 gf.nd (zE (MK Z).up r (zp (zc 1) zB))) (zu (qE 3 gf.nd (jv Z.B.jo (jx (jg (N:=["_law_kind","_law_state_here"]) 1 [0] (jB (qY (zc 2) zH)) (λ_ _ _=>⟨qC 0 (qL (by kernel_rfl)),qN,qS (gJ (zE (wO Z).up r (zp (zc 1) (zp zH zB))) zH)⟩))))) (zu (qE 4 gf.nd (jv Z.B.jo (jx (jg (N:=["_law_kind","_law_state_here"]) 1 [0] (jB (qY (zc 2) zH)) (λ_ _ _=>⟨qC 0 (qL (by kernel_rfl)),qN,qS (gJ (zE (wO Z).up r (zp (zc 1) (zp zH zB))) zH)⟩))))) (zu (KS 5 6 rfl gf.nd (zE (IL Z).up r (zp (zc 1) (zp (zc 3) (zp (zc 4) zB)))) (zE (DJ Z).up r (zp (zc 1) (zp (zc 3) (zp (zc 4) zB))))) (zu (jF (Z0 (Yh (j5 (kG r) (FZ Z.B.PZ (qJ (qY (zc 2) zH))) (zE (DA Z).up r (zp (zc 1) zB))) (Ya (j5 (kG r) (zE (T5 Z).up r (zp (zc 1) (zp (qY (zc 2) zH) zB))) zH)))) (zu (qk kg) zD) zD) (zu (j4 PassesOwn.never rfl (jB (zc 2)) (qC 7 gf.nd) (zu (KS 8 9 rfl gf.nd (zE (ZY Z).up r (zp (zc 1) (zp (zc 7) (zp (zc 3) zB)))) (zE (ZY Z).up r (zp (zc 1) (zp (zc 7) (zp (zc 4) zB))))) (zu (jF (Z0 (Yh (j5 Pk (zE (Mv Z).up r (zp (zc 1) (zp (zc 7) zB))) kg) (Ya (j5 (kG r) (zE (ZY Z).up r (zp (zc 1) (zp (zc 7) (zp (zc 5) zB)))) (jE (zc 8) (zc 9)))))) (zu (qk kg) zD) zD) (zu (jF (j5 (kG r) (zE (ZY Z).up r (zp (zc 1) (zp (zc 7) (zp (zc 6) zB)))) (yg (zc 8) (zc 9))) (zu (qk kg) zD) zD) zD)))) (zu (jF (j5 (kG r) (ZZ (jg (N:=["_law_line"]) 1 [] (jB (zE (FG Z).up r (zp (zc 1) (zp (zc 3) zB)))) (λ_ _ _=>⟨qC 0 (qL (by kernel_rfl)),qN,qS (Q0 rfl Z.B.Jk (qJ (zc 0)))⟩))) (jE (j8 (zp (zE (ZY Z).up r (zp (zc 1) (zp (qY (zc 2) zH) (zp (zc 3) zB)))) zB) (qo jc)) (ju Z.B.jq (qJ (zc 1))))) (zu (qk kg) zD) zD) (zu (qE 10 gf.nd (Q0 rfl Z.B.Jk (jx (jg (N:=["_law_row","_law_table"]) 1 [1] (jB (zc 2)) (λ_ _ _=>⟨qC 0 (qL (by kernel_rfl)),qN,qS (zE (T5 Z).up r (zp (zc 1) (zp (zc 0) zB)))⟩))))) (zu (jF (kU (kB (zE (V4 Z).up r (zp (zc 1) zB)))) (zu (qk (kx Jq (zc 10) (ju Z.B.jq (qJ (zc 1))))) zD) zD) (zu (qE 11 gf.nd (jv Z.B.jo (jx (jg (N:=["_law_row","_law_table","_law_one"]) 1 [1,3] (jB (zc 2)) (λ_ _ _=>⟨qC 0 (qL (by kernel_rfl)),qN,qS (zE (ZY Z).up r (zp (zc 1) (zp (zc 0) (zp (zc 2) zB))))⟩))))) (zu (qE 12 gf.nd (kx (ky r) (zc 11) (jv Z.B.jo (jx (jg (N:=["_law_row","_law_table","_law_other"]) 1 [1,4] (jB (zc 2)) (λ_ _ _=>⟨qC 0 (qL (by kernel_rfl)),qN,qS (zE (ZY Z).up r (zp (zc 1) (zp (zc 0) (zp (zc 2) zB))))⟩)))))) (zu (qk (gG (kx (ky r) (zc 10) (ju Z.B.jq (qJ (zc 1)))) (gG (kx (ky r) (zE (F2 Z).up r (zp (zc 1) (zp (zc 11) zB))) (zc 3)) (Z5 (kx (ky r) (zc 12) (kx (ky r) (zc 3) (zc 4))))))) zD))))))))))):zG P w K mg base 10 "_law_right" 2 GL).j7
end
end G
namespace Mi
open PySem L2
section
def Zo (h:m ρ A=.ok (.tup ws) A1):qi m ρ A=.ok ⟨λA i=>(zW (.tup ws) A).map λws=>ws[i]?,ws.length⟩ A1:=by
 unfold qi Ws;rw[h,zS]
 rfl
def Xe (h:m ρ A=.ok (.tup ws) A)(l:ws.length<=qf){g:W->W}(he:∀w∈ws,me (some w::cap.map λi=>(ρ[i]?).join) A=.ok (g w) A):
  zT 1 cap (qi m) (zP 0) (z7 (.bl true)) (zR me) ρ A=.ok (ws.map g) A:=by
 have e:=gE (cap:=cap) (me:=me) (ρ:=ρ) (A:=A) (N:=ws.length) (item:=λi=>ws.getD i .non) (g:=λi=>g (ws.getD i .non)) (Zo h) rfl l
  (λi H=>by show some ws[i]? =_;rw[ab H,aa,ab H];rfl)
  (by show some ws[ws.length]? =_;rw[au (ao _)])
  (λi H=>by
   have:ws.getD i .non=ws[i]:=by rw[aa,ab H];rfl
   rw[this];exact he _ (aG H))
 rw[e]
 congr 1
 apply bq
 ·simp
 ·intro i b a
  have H:i<ws.length:=by simpa using a
  simp[aa,ab H]
theorem SH (p:α->Bool):∀l:List α,kX (l.map λx=>W.bl (p x))=some (l.map p)
 |[]=>rfl|x::l=>by
  show(match Jm (.bl (p x)),kX (l.map λx=>W.bl (p x)) with|some k,some ks=>some (k::ks)|_,_=>none)=_
  rw[SH p l];rfl
def KH {p:α->Bool}{l:List α}(h:∀x∈l,p x=true):Jo (l.map λx=>W.bl (p x)) A=.ok (.bl true) A:=by
 show gu (λks=>ks.all id) _ A=_;unfold gu;rw[SH];dsimp only
 have:(l.map p).all id=true:=by
  rw[List.all_map];exact b2.mpr λx H=>h x H
 rw[this]
theorem gn {f:α->W}(h:∀x,(f x).nr=true):∀l:List α,qI (l.map f)=true
 |[]=>rfl|x::l=>by
  show((f x).nr&&qI (l.map f))=true;rw[h x,gn h l];rfl
def ZI (i j:Int)(A:Hx):jn (.int i) (.int j) A=.ok (.bl (decide (i=j))) A:=by
 show R.ok (W.bl (PyData.eqv (.int i) (.int j))) A=_;simp[PyData.eqv]
 rfl
def JB (i j:Int)(A:Hx):qZ (.int i) (.int j) A=.ok (.bl (!decide (i=j))) A:=by
 show R.ok (W.bl (!PyData.eqv (.int i) (.int j))) A=_;simp[PyData.eqv]
 rfl
def c5 (i j:Bool)(A:Hx):qZ (.bl i) (.bl j) A=.ok (.bl (!(i==j))) A:=by
 cases i<;>cases j<;>rfl
end
noncomputable def zj (r:bF):W:=.tup (r.map W.int)
def zm (t:bE):W:=.tup (t.map zj)
def jP (r:bF):(zj r).nr=true:=by
 show qI (r.map W.int)=true;exact gn (λ_=>rfl) r
def j3 (t:bE):(zm t).nr=true:=by
 show qI (t.map zj)=true;exact gn jP t
def Rb {st:W->Ex}{N:Nat}{item:Nat->W}{I:En->Prop}(t:∀i,i<N->j.at_ A i=some (some (item i)))(H:j.at_ A N=some none)
  (s:∀i,i<N->∀ρ,I ρ->∃a,st (item i) ρ A=.ok (.nx a) A/\I a):∀(n i:Nat)(ρ:En),i+n=N->I ρ->∃a,jT j st n i ρ A=.ok (.nx a) A/\I a:=by
 intro n
 induction n with
 |zero=>
  intro i ρ h c
  have:i=N:=by omega
  subst this;exact⟨ρ,GW H,c⟩
 |succ n d=>
  intro i ρ h c;obtain⟨ρ1,E,g⟩:=s i (by omega) ρ c
  obtain⟨b,e,f⟩:=d (i+1) ρ1 (by omega) g
  exact⟨b,(Ko (t i (by omega)) E).trans e,f⟩
def QS (h:m ρ A=.ok (.tup ws) A1):yG m ρ A=.ok (yj (.tup ws) ws.length) A1:=by
 unfold yG;rw[h,zS]
 rfl
def Jg {w:W}(h:ws[i]? =some w):(yj (.tup ws) ws.length).at_ A i=some (some (.tup [.int i,w])):=by
 show atEnd ws i _=_;unfold atEnd;rw[h]
def Q7:(yj (.tup ws) ws.length).at_ A ws.length=some none:=by
 show atEnd ws _ _=_;unfold atEnd;rw[au (ao _)];exact ag rfl
noncomputable def at2 (t:bE)(a b:Nat):Int:=(t.getD a []).getD b 0
structure qc (t:bE):Prop where
 n1:1<=t.length
 n8:t.length<=8
 sq:∀r∈t,r.length=t.length
 lo:∀r∈t,∀v∈r,0<=v/\v<(t.length:Int)
 dg:∀a b,a<t.length->b<t.length->(at2 t a b=0↔a=b)
 sy:∀a b,a<t.length->b<t.length->at2 t a b=at2 t b a
 fu:∀k:Nat,(∃v∈t.flatten,(k:Int)<v)->(k:Int)∈t.flatten
section
variable {a b:Nat}
def gP (h:a<t.length):(t.map zj)[a]? =some (zj (t.getD a [])):=by
 rw[ak,aa,ab h];rfl
def yN (h:a<t.length):t.getD a []∈t:=by
 rw[aa,ab h];exact aG h
def Qg (h:a<t.length):zI (zm t) (.int a) A=.ok (zj (t.getD a [])) A:=by
 unfold zI;show(match kN (t.map zj) (a:Int) with|some w=>R.ok w A|none=>R.bad)=_
 rw[KQ (gP h)]
def int_at {r:bF}(h:b<r.length):(r.map W.int)[b]? =some (.int (r.getD b 0)):=by
 rw[ak,aa,ab h];rfl
def gN {r:bF}(h:b<r.length):zI (zj r) (.int b) A=.ok (.int (r.getD b 0)) A:=by
 unfold zI;show(match kN (r.map W.int) (b:Int) with|some w=>R.ok w A|none=>R.bad)=_
 rw[KQ (v:=.int (r.getD b 0)) (by rw[ak,aa,ab h];rfl)]
end
section
def H9 {c:Option W}(b:∀i,i<ws.length->j.at_ A i=some (some (ws.getD i .non)))(H:j.at_ A ws.length=some none)(he:∀w,me [c,some w] A=.ok w A):
  ∀(f i:Nat)(x:Option W)(acc:List W),i+f=ws.length->acc.length+f<=qf->∃y,jl j (zP 1) (z7 (.bl true)) (zR me) f i [c,x] acc A=.ok ([c,y],acc++ws.drop i) A:=by
 intro f
 induction f with
 |zero=>
  intro i x acc h l
  have:i=ws.length:=by omega
  subst this;refine⟨x,?_⟩;unfold jl;rw[H,drop_length,append_nil]
 |succ f I=>
  intro i x acc h l;have a:i<ws.length:=by omega
  have E:ws.getD i .non=ws[i]:=by rw[aa,ab a];rfl
  obtain⟨y,e⟩:=I (i+1) (some ws[i]) (acc++[ws[i]]) (by omega) (by rw[aE,aZ];omega)
  refine⟨y,?_⟩;rw[jl,b i a,E];dsimp only[zP,List.set,z7];rw[zS];dsimp only;have d:zR me [c,some ws[i]] acc A=.ok ([c,some ws[i]],acc++[ws[i]]) A:=by
   unfold zR;rw[he,zS,ag (by omega)]
  rw[d,zS];rw[e,aQ]
  congr 3
  rw[List.singleton_append,<- bf a]
def Hl (d:∀i,i<t.length->j.at_ A i=some (some (zj (t.getD i []))))(H:j.at_ A t.length=some none):
  ∀(f i:Nat)(x y:Option W)(acc:List W),i+f=t.length->acc.length+(t.drop i).flatten.length<=qf->
   ∃ρ,jl j (zP 0) (z7 (.bl true)) (k5 (qi (zO 0)) (zP 1) (z7 (.bl true)) (zR (zO 1))) f i [x,y] acc A=.ok (ρ,acc++(t.drop i).flatten.map W.int) A:=by
 intro f
 induction f with
 |zero=>
  intro i x y acc h l
  have:i=t.length:=by omega
  subst this;refine⟨[x,y],?_⟩;unfold jl;rw[H,drop_length];simp
 |succ f I=>
  intro i x y acc h l;have a:i<t.length:=by omega
  have r:t.getD i []=t[i]:=by rw[aa,ab a];rfl
  have e:t.drop i=t[i]::t.drop (i+1):=bf a;rw[e,a6,aE]at l;obtain⟨z,E⟩:=H9 (A:=A) (j:=⟨λA i_1=>(zW (zj t[i]) A).map λws=>ws[i_1]?,(t[i].map W.int).length⟩) (me:=zO 1) (ws:=t[i].map W.int) (c:=some (zj t[i]))
   (λk b=>by
    show some (t[i].map W.int)[k]? =_;rw[aa,ab b];rfl)
   (by show some (t[i].map W.int)[(t[i].map W.int).length]? =_;rw[au (ao _)])
   (λw=>zo rfl) (t[i].map W.int).length 0 y acc (by omega) (by rw[ae];omega)
  rw[List.drop_zero]at E;obtain⟨ρ,m⟩:=I (i+1) (some (zj t[i])) z (acc++t[i].map W.int) (by omega) (by rw[aE,ae];omega)
  refine⟨ρ,?_⟩;rw[jl,d i a,r];dsimp only[zP,List.set,z7];rw[zS];dsimp only;have g:k5 (qi (zO 0)) (zP 1) (z7 (.bl true)) (zR (zO 1)) [some (zj t[i]),y] acc A=.ok ([some (zj t[i]),z],acc++t[i].map W.int) A:=by
   unfold k5;rw[Zo (ws:=t[i].map W.int) (A1:=A) (zo (i:=0) rfl),zS];exact E
  rw[g,zS];rw[m,e,a6,aP,aQ]
def DZ (h:m ρ A=.ok (zm t) A)(H:t.flatten.length<=qf):
  zT 2 [] (qi m) (zP 0) (z7 (.bl true)) (k5 (qi (zO 0)) (zP 1) (z7 (.bl true)) (zR (zO 1))) ρ A=.ok (t.flatten.map W.int) A:=by
 have hlen:(t.map zj).length=t.length:=ae ..;obtain⟨a,e⟩:=Hl (t:=t) (A:=A) (j:=⟨λA i=>(zW (zm t) A).map λws=>ws[i]?,(t.map zj).length⟩) (λi b=>by show some (t.map zj)[i]? =_;rw[gP b])
  (by show some (t.map zj)[t.length]? =_;rw[au (by omega)]) t.length 0 none none [] (by omega) (by simpa using H)
 unfold zT;rw[Zo (ws:=t.map zj) h,zS];show R.bind (R.nox (jl ⟨λA i=>(zW (zm t) A).map λws=>ws[i]?,(t.map zj).length⟩ _ _ _ (t.map zj).length 0 [none,none] [] A)) _=_;rw[hlen]at e ⊢;rw[e];simp
 rfl
end
theorem Ke:∀l:bF,intsOf (l.map W.int)=some l
 |[]=>rfl|i::l=>by
  show(match intsOf (l.map W.int) with|some is=>some (i::is)|none=>none)=_
  rw[Ke l]
theorem Xi:∀(l:bF)(m:Int),j6 l m=m∨j6 l m∈l
 |[],_=>.inl rfl|i::l,m=>by
  show j6 l (if i > m then i else m)=m∨j6 l (if i > m then i else m)∈i::l;rcases Xi l (if i > m then i else m) with e|e
  ·by_cases h:i > m
   ·rw[ag h]at e ⊢;exact .inr (by rw[e];exact aK ..)
   ·rw[aj h]at e ⊢;exact .inl e
  ·exact .inr (aL _ e)
end Mi
namespace G
open PySem L2 Mi
def Fw (h:qc t):t.flatten.length<=64:=by
 have:∀l:bE,(∀r∈l,r.length<=8)->l.flatten.length<=8 * l.length:=by
  intro l
  induction l with
  |nil=>intro _;simp|cons r l i=>
   intro H;have e:=H r (aK ..);have d:=i λb a=>H b (aL _ a);rw[a6,aE,bD];omega
 have c:=h.n8
 have:=this t λr H=>by rw[h.sq r H];exact h.n8
 omega
section
def Bi (h:ρ[i]? =some (some (zm t))):mQ qm (zV (zO i)) ρ A=.ok (.int t.length) A:=by
 rw[jS (yE (w:=zm t) (A1:=A) (zo h) rfl)];unfold qm;rw[ae]
def gF (h:n<1000000):jJ (n:Int)=true:=by
 unfold jJ;simp;omega
end
def Zm (h:m ρ A=.ok (.ref n) A1)(H:A1[n]? =some (.lst ws)):qi m ρ A=.ok ⟨λA i=>(zW (.ref n) A).map λws=>ws[i]?,ws.length⟩ A1:=by
 unfold qi Ws;rw[h,zS];have e:zW (.ref n) A1=some ws:=by unfold zW;dsimp only;rw[H]
 rw[e]
def kD (h:A[n]? =some (.lst ws)):((zW (.ref n) A).map λws=>ws[i]?)=some ws[i]?:=by
 have e:zW (.ref n) A=some ws:=by unfold zW;dsimp only;rw[h]
 rw[e];rfl
def kJ:List Int->Int
 |[]=>0|i::is=>j6 is i
def Pb {r:bF}(h:r≠[]):yY (r.map W.int) A=.ok (.int (kJ r)) A:=by
 unfold yY;rw[Ke];cases r with
 |nil=>exact absurd rfl h|cons i is=>rfl
def Ku {r:bF}(h:r≠[]):kJ r∈r:=by
 cases r with
 |nil=>exact absurd rfl h|cons i is=>
  rcases Xi is i with e|e
  ·show j6 is i∈_;rw[e];exact aK ..
  ·exact aL _ e
def qa (t:bE):Int:=kJ (t.map kJ)+1
section
def _root_.Mi.qc.row_ne (h:qc t){r:bF}(H:r∈t):r≠[]:=λe=>by
 have a:=h.sq r H;have b:=h.n1;rw[e,List.length_nil]at a;omega
def _root_.Mi.qc.map_ne (h:qc t):t.map kJ≠[]:=λe=>by
 have:=h.n1
 rw[List.map_eq_nil_iff]at e;rw[e]at this;simp at this
def yP (h:qc t):1<=qa t/\qa t<=8:=by
 obtain⟨r,H,e⟩:=bZ.mp (Ku h.map_ne)
 have:=h.lo r H _ (Ku (h.row_ne H))
 have:=h.n8
 unfold qa;rw[<- e];omega
def Jh (h:qc t){a b:Nat}(H:a<t.length)(d:b<t.length):0<=at2 t a b/\at2 t a b<8:=by
 have c:=h.sq _ (yN H)
 have:(t.getD a []).getD b 0∈t.getD a []:=by
  rw[aa (l:=t.getD a []),ab (by omega)];exact aG _
 have e:=h.lo _ (yN H) _ this
 have:=h.n8
 unfold at2;omega
def wt (h:q ρ A=.ok ws A1):mQ qU q ρ A=.ok (.tup ws) A1:=(jS h).trans rfl
end
end G
namespace Mi
open PySem L2
def Z6 {w:W}{s:Nat}(h:A[n]? =some (.lst ws))(H:ws[s]? =some w):zI (.ref n) (.int (s:Int)) A=.ok w A:=by
 unfold zI;have e:zW (.ref n) A=some ws:=by unfold zW;dsimp only;rw[h]
 rw[e];dsimp only;rw[KQ H]
def yF {o u:O}(h:A[n]? =some o):(A++[u])[n]? =some o:=by
 have:=(bY.mp h).1
 rw[ah this];exact h
def kh {u:O}:(A++[u])[A.length]? =some u:=by simp
noncomputable def Qs (μ:Nat->Nat->Int)(a b:Nat)(k:Int):Nat->Nat->Int:=λi j=>if i=a/\j=b then k else μ i j
structure Mu (n:Nat)(μ:Nat->Nat->Int)(c:Nat)(done:Nat->Nat->Prop):Prop where
 dg:∀i,μ i i=0
 sy:∀i j,μ i j=μ j i
 dn:∀i j,i<j->j<n->done i j->1<=μ i j/\μ i j<=(c:Int)
 un:∀i j,i<j->j<n->¬done i j->μ i j=0
 fu:∀k:Nat,1<=k->k<=c->∃i j,i<n/\j<n/\μ i j=(k:Int)
noncomputable def jN (n:Nat)(μ:Nat->Nat->Int):bE:=(List.range n).map λi=>(List.range n).map (μ i)
def Q3 {μ:Nat->Nat->Int}{j:Nat}(H:i<n)(h:j<n):at2 (jN n μ) i j=μ i j:=by
 unfold at2 jN;rw[aa (l:=(List.range n).map λi=>(List.range n).map (μ i)),ak,aM H];show((List.range n).map (μ i)).getD j 0=_;rw[aa,ak,aM h]
 rfl
def Mu.tab {c:Nat}{μ:Nat->Nat->Int}{d:Nat->Nat->Prop}(h:Mu n μ c d)(all:∀i j,i<j->j<n->d i j)(n1:1<=n)(n8:n<=8)(y:n=1∨c<n):qc (jN n μ):=by
 have len:(jN n μ).length=n:=by unfold jN;simp
 have val:∀i j,i<n->j<n->i≠j->1<=μ i j/\μ i j<=(c:Int):=λi j H f ne=>by
  rcases Nat.lt_or_gt_of_ne ne with q|q
  ·exact h.dn i j q f (all i j q f)
  ·rw[h.sy];exact h.dn j i q H (all j i q H)
 have mem:∀r∈jN n μ,∀v∈r,∃i j,i<n/\j<n/\v=μ i j:=λr g v o=>by
  unfold jN at g;obtain⟨i,H,rfl⟩:=bZ.mp g;obtain⟨j,f,rfl⟩:=bZ.mp o;exact⟨i,j,bX.mp H,bX.mp f,rfl⟩
 have I:∀i j,i<n->j<n->μ i j∈(jN n μ).flatten:=λi j H f=>List.mem_flatten.mpr ⟨_,bZ.mpr ⟨i,bX.mpr H,rfl⟩,bZ.mpr ⟨j,bX.mpr f,rfl⟩⟩;refine⟨by rw[len];exact n1,by rw[len];exact n8,λr g=>?_,λr g v o=>?_,λa b m l=>?_,λa b m l=>?_,λk x=>?_⟩
 ·rw[len]
  unfold jN at g;obtain⟨i,H,rfl⟩:=bZ.mp g;simp
 ·rw[len]
  obtain⟨i,j,H,f,rfl⟩:=mem r g v o
  by_cases q:i=j
  ·subst q;rw[h.dg];omega
  ·have:=val i j H f q
   omega
 ·rw[len]at m l
  rw[Q3 m l]
  constructor
  ·intro e
   by_cases q:a=b
   ·exact q
   ·have:=val a b m l q;omega
  ·intro e;subst e;exact h.dg a
 ·rw[len]at m l
  rw[Q3 m l,Q3 l m];exact h.sy a b
 ·obtain⟨v,o,t⟩:=x
  obtain⟨r,g,p⟩:=List.mem_flatten.mp o;obtain⟨i,j,H,f,rfl⟩:=mem r g v p
  by_cases K:k=0
  ·subst K
   have:=I 0 0 (by omega) (by omega)
   rw[h.dg]at this;exact this
  ·by_cases q:i=j
   ·subst q;rw[h.dg]at t;omega
   ·have:=val i j H f q
    obtain⟨w,J,u,s,e⟩:=h.fu k (by omega) (by omega)
    have:=I w J u s
    rw[e]at this;exact this
end Mi
namespace G
open PySem L2 Mi
def yW {i j:Int}(H:-(2 ^ 64)<i)(h:i<2 ^ 64):zZ (.int i) (.int j) A=.ok (.int (i * j)) A:=by
 unfold zZ;dsimp only;rw[ag];unfold Qp;rw[bh,aq,ai,ai];exact .inl ⟨H,h⟩
def Qd {i j:Int}(h:0<j):yu (.int i) (.int j) A=.ok (.int (i%j)) A:=by
 unfold yu w9;dsimp only;rw[ag];unfold Wo;exact aw h
def K3 {i j:Int}(h:0<j)(H:j<1152921504606846976):ku (.int i) (.int j) A=.ok (.int (i/j)) A:=by
 unfold ku w9;dsimp only;rw[ag];unfold Wj;rw[aq,ai,ai];exact⟨h,H⟩
def Bp {c m:Int}(h:0<m)(H:m<1000000000000000):JV [.ref 0,.int m] [.lst [.int c,.bl true]]=.ok (.int (c%m)) [.lst [.int (c/m),.bl true]]:=by
 refine qQ ?_;unfold GQ;refine qy (A1:=[.lst [.int (c/m),.bl true]]) ?_;refine(Qm (A1:=[.lst [.int c,.bl true]]) rfl).trans ?_;refine(zK (ρ1:=[some (.ref 0),some (.int m),some (.int (c%m)),none]) (A1:=[.lst [.int c,.bl true]]) ?_).trans ?_
 ·refine(qK (w:=.int (c%m)) (A1:=[.lst [.int c,.bl true]]) ?_).trans rfl
  exact(zN (x:=.int c) (y:=.int m) (A1:=[.lst [.int c,.bl true]]) (A2:=[.lst [.int c,.bl true]]) rfl rfl).trans (Qd h)
 ·refine(zK (ρ1:=[some (.ref 0),some (.int m),some (.int (c%m)),none]) (A1:=[.lst [.int (c/m),.bl true]]) ?_).trans rfl
  have e:zi ku (zi zI zt qx) zw [some (.ref 0),some (.int m),some (.int (c%m)),none] [.lst [.int c,.bl true]]=.ok (.int (c/m)) [.lst [.int c,.bl true]]:=
   (zN (x:=.int c) (y:=.int m) (A1:=[.lst [.int c,.bl true]]) (A2:=[.lst [.int c,.bl true]]) rfl rfl).trans (K3 h (by omega))
  unfold Jd;rw[e,zS]
  rfl
noncomputable def ZG (c:Int):Int:=(c * 48271+29)%2147483647
noncomputable def wH (d:Int):Int:=(d * d+39373 * d+7)%2147483629
noncomputable def w8 (e:Int):Int:=(e * e+16807 * e)%2147483587
def Vc (c:Int):0<=ZG c/\ZG c<2147483647:=⟨emod_nonneg _ (by decide),bz _ (by decide)⟩
def c6 (c:Int):0<=wH c/\wH c<2147483629:=⟨emod_nonneg _ (by decide),bz _ (by decide)⟩
def Ct {c m:Int}(i:0<=c)(h:c<2147483647)(H:0<m)(j:m<1000000000000000):JV [.ref 0,.int m] [.lst [.int c,.bl false]]=.ok (.int (w8 (wH (ZG c))/8%m)) [.lst [.int (ZG c),.bl false]]:=by
 have l:=Vc c;refine qQ ?_;unfold GQ;refine(zK (ρ1:=[some (.ref 0),some (.int m),none,none]) (A1:=[.lst [.int c,.bl false]]) ((yc (A1:=[.lst [.int c,.bl false]]) rfl).trans rfl)).trans ?_;have g:zi yu (zi qM (zi zZ (zi zI zt qx) (z7 (.int 48271))) (z7 (.int 29))) (z7 (.int 2147483647)) [some (.ref 0),some (.int m),none,none] [.lst [.int c,.bl false]]=.ok (.int (ZG c)) [.lst [.int c,.bl false]]:=by
  have em:zi zZ (zi zI zt qx) (z7 (.int 48271)) [some (.ref 0),some (.int m),none,none] [.lst [.int c,.bl false]]=.ok (.int (c * 48271)) [.lst [.int c,.bl false]]:=
   (zN (x:=.int c) (y:=.int 48271) (A1:=[.lst [.int c,.bl false]]) (A2:=[.lst [.int c,.bl false]]) rfl rfl).trans (yW (by omega) (by omega))
  refine(zN (x:=.int (c * 48271+29)) (y:=.int 2147483647) (A1:=[.lst [.int c,.bl false]]) (A2:=[.lst [.int c,.bl false]]) ((zN em rfl).trans rfl) rfl).trans ?_;exact Qd (by decide)
 refine(zK (ρ1:=[some (.ref 0),some (.int m),none,none]) (A1:=[.lst [.int (ZG c),.bl false]]) ?_).trans ?_
 ·unfold Jd
  rw[g,zS]
  rfl
 generalize ZG c=d at*;have b:zi yu (zi qM (zi qM (zi zZ (zi zI zt qx) (zi zI zt qx)) (zi zZ (z7 (.int 39373)) (zi zI zt qx))) WI) (z7 (.int 2147483629)) [some (.ref 0),some (.int m),none,none] [.lst [.int d,.bl false]]=
   .ok (.int (wH d)) [.lst [.int d,.bl false]]:=by
  have em:zi zZ (zi zI zt qx) (zi zI zt qx) [some (.ref 0),some (.int m),none,none] [.lst [.int d,.bl false]]=.ok (.int (d * d)) [.lst [.int d,.bl false]]:=
   (zN (x:=.int d) (y:=.int d) (A1:=[.lst [.int d,.bl false]]) (A2:=[.lst [.int d,.bl false]]) rfl rfl).trans (yW (by omega) (by omega))
  have E:zi zZ (z7 (.int 39373)) (zi zI zt qx) [some (.ref 0),some (.int m),none,none] [.lst [.int d,.bl false]]=.ok (.int (39373 * d)) [.lst [.int d,.bl false]]:=
   (zN (x:=.int 39373) (y:=.int d) (A1:=[.lst [.int d,.bl false]]) (A2:=[.lst [.int d,.bl false]]) rfl rfl).trans (yW (by decide) (by decide))
  have s:zi qM (zi zZ (zi zI zt qx) (zi zI zt qx)) (zi zZ (z7 (.int 39373)) (zi zI zt qx)) [some (.ref 0),some (.int m),none,none] [.lst [.int d,.bl false]]=.ok (.int (d * d+39373 * d)) [.lst [.int d,.bl false]]:=
   (zN em E).trans rfl
  refine(zN (x:=.int (d * d+39373 * d+7)) (y:=.int 2147483629) (A1:=[.lst [.int d,.bl false]]) (A2:=[.lst [.int d,.bl false]]) ((zN s rfl).trans rfl) rfl).trans ?_;exact Qd (by decide)
 refine(zK (qK b)).trans ?_;have B:=c6 d;generalize wH d=e at*;have a:zi yu (zi qM (zi zZ qe qe) (zi zZ (z7 (.int 16807)) qe)) (z7 (.int 2147483587)) [some (.ref 0),some (.int m),none,some (.int e)] [.lst [.int d,.bl false]]=.ok (.int (w8 e)) [.lst [.int d,.bl false]]:=by
  have em:zi zZ qe qe [some (.ref 0),some (.int m),none,some (.int e)] [.lst [.int d,.bl false]]=.ok (.int (e * e)) [.lst [.int d,.bl false]]:=
   (zN (x:=.int e) (y:=.int e) (A1:=[.lst [.int d,.bl false]]) (A2:=[.lst [.int d,.bl false]]) rfl rfl).trans (yW (by omega) (by omega))
  have E:zi zZ (z7 (.int 16807)) qe [some (.ref 0),some (.int m),none,some (.int e)] [.lst [.int d,.bl false]]=.ok (.int (16807 * e)) [.lst [.int d,.bl false]]:=
   (zN (x:=.int 16807) (y:=.int e) (A1:=[.lst [.int d,.bl false]]) (A2:=[.lst [.int d,.bl false]]) rfl rfl).trans (yW (by decide) (by decide))
  refine(zN (x:=.int (e * e+16807 * e)) (y:=.int 2147483587) (A1:=[.lst [.int d,.bl false]]) (A2:=[.lst [.int d,.bl false]]) ((zN em E).trans rfl) rfl).trans ?_;exact Qd (by decide)
 refine(zK (qK a)).trans ?_;generalize w8 e=f at*;refine qy (qX ?_);refine(zN (x:=.int (f/8)) (y:=.int m) (A1:=[.lst [.int d,.bl false]]) (A2:=[.lst [.int d,.bl false]]) ?_ rfl).trans (Qd H);exact(zN (x:=.int f) (y:=.int 8) (A1:=[.lst [.int d,.bl false]]) (A2:=[.lst [.int d,.bl false]]) rfl rfl).trans (K3 (by decide) (by decide))
def ji (n:Nat)(A:Hx):Prop:=∃c b,A[n]? =some (.lst [.int c,.bl b])/\0<=c/\(b=false->c<2147483647)
def Qb (h:ji n A){m:Int}(H:0<m)(g:m<1000000000000000):∃r o,yV [.ref n,.int m] A=.ok (.int r) (A.set n o)/\0<=r/\r<m/\ji n (A.set n o):=by
 obtain⟨c,b,f,d,i⟩:=h;have hn:n<A.length:=(bY.mp f).1;have fin:∀(r C:Int),JV [.ref 0,.int m] [.lst [.int c,.bl b]]=.ok (.int r) [.lst [.int C,.bl b]]->yV [.ref n,.int m] A=.ok (.int r) (A.set n (.lst [.int C,.bl b])):=λr C e=>by
  unfold yV j7;dsimp only;rw[f];dsimp only;have a:(qI [W.int c,W.bl b]&&qI [W.int m])=true:=rfl;rw[ag a,e]
  rfl
 cases b with
 |true=>
  refine⟨c%m,_,fin _ _ (Bp H g),emod_nonneg _ (by omega),bz _ H,c/m,true,aC hn,Int.ediv_nonneg d (by omega),λz=>nomatch z⟩
 |false=>
  exact⟨_,_,fin _ _ (Ct d (i rfl) H g),emod_nonneg _ (by omega),bz _ H,ZG c,false,aC hn,(Vc c).1,λ_=>(Vc c).2⟩
end G
namespace Mi
open PySem L2
def Rt {k:Nat}{xs y:List W}(h:A[n]? =some (.lst xs))(a:A[k]? =some (.lst y))(H:xs.length+y.length<=qf):qM (.ref n) (.ref k) A=.ok (.ref A.length) (A++[.lst (xs++y)]):=by
 unfold qM;dsimp only;rw[h,a];dsimp only;rw[ag H]
def Ext (A a:Hx):Prop:=∃l,a=A++l
def Ext.trans {B C:Hx}(a:Ext A B)(b:Ext B C):Ext A C:=let ⟨l,e⟩:=a;let ⟨k,f⟩:=b;⟨l++k,by rw[f,e,aQ]⟩
def Ext.one {o:O}:Ext A (A++[o]):=⟨[o],rfl⟩
def Ext.at {a:Hx}{o:O}(x:Ext A a)(h:A[n]? =some o):a[n]? =some o:=by
 obtain⟨l,rfl⟩:=x
 have:=(bY.mp h).1
 rw[ah this];exact h
def Xc {ifs:Ev}{N:Nat}{I:Nat->En->List W->Hx->Prop}
  (H:∀i ρ acc A,i<N->I i ρ acc A->∃w ρ1,j.at_ A i=some (some w)/\tw w ρ=some ρ1/\((∃A1 c a A2,ifs ρ1 A=.ok (.bl true) A1/\em ρ1 acc A1=.ok (c,a) A2/\I (i+1) c a A2)∨(∃A1,ifs ρ1 A=.ok (.bl false) A1/\I (i+1) ρ1 acc A1)))
  (e:∀ρ acc A,I N ρ acc A->j.at_ A N=some none):
  ∀(f i:Nat)(ρ:En)(acc:List W)(A:Hx),i+f=N->I i ρ acc A->∃d b n,jl j tw ifs em f i ρ acc A=.ok (d,b) n/\I N d b n:=by
 intro f
 induction f with
 |zero=>
  intro i ρ acc A h g
  have:i=N:=by omega
  subst this;refine⟨ρ,acc,A,?_,g⟩;unfold jl;rw[e _ _ _ g]
 |succ f m=>
  intro i ρ acc A h g;obtain⟨w,ρ1,q,p,o⟩:=H i ρ acc A (by omega) g
  rw[jl,q];dsimp only;rw[p];dsimp only;rcases o with ⟨A1,c,a,A2,l,r,E⟩|⟨A1,l,E⟩
  ·rw[l,zS]
   dsimp only;rw[r,zS];exact m (i+1) _ _ _ (by omega) E
  ·rw[l,zS]
   dsimp only;exact m (i+1) _ _ _ (by omega) E
def JY {nl:Nat}{ifs:Ev}{N:Nat}{I:Nat->En->List W->Hx->Prop}(hm:mi ρ A=.ok j A1)(g:j.len=N)
  (h:∀i ρ acc A,i<N->I i ρ acc A->∃w ρ1,j.at_ A i=some (some w)/\tw w ρ=some ρ1/\((∃A1 d b A2,ifs ρ1 A=.ok (.bl true) A1/\em ρ1 acc A1=.ok (d,b) A2/\I (i+1) d b A2)∨(∃A1,ifs ρ1 A=.ok (.bl false) A1/\I (i+1) ρ1 acc A1)))
  (H:∀ρ acc A,I N ρ acc A->j.at_ A N=some none)(h0:I 0 (Qk nl cap ρ) [] A1):∃c a f,zT nl cap mi tw ifs em ρ A=.ok a f/\I N c a f:=by
 obtain⟨c,a,f,e,l⟩:=Xc h H N 0 _ _ _ (by omega) h0
 refine⟨c,a,f,?_,l⟩;unfold zT;rw[hm,zS,g,e]
 rfl
def Zl {st:W->Ex}{N:Nat}{I:Nat->En->Hx->Prop}
  (H:∀i ρ A,i<N->I i ρ A->∃w ρ1 A1,j.at_ A i=some (some w)/\st w ρ A=.ok (.nx ρ1) A1/\I (i+1) ρ1 A1)(d:∀ρ A,I N ρ A->j.at_ A N=some none):
  ∀(f i:Nat)(ρ:En)(A:Hx),i+f=N->I i ρ A->∃a c,jT j st f i ρ A=.ok (.nx a) c/\I N a c:=by
 intro f
 induction f with
 |zero=>
  intro i ρ A h b
  have:i=N:=by omega
  subst this;exact⟨ρ,A,GW (d _ _ b),b⟩
 |succ f e=>
  intro i ρ A h b;obtain⟨w,ρ1,A1,m,l,g⟩:=H i ρ A (by omega) b
  rw[Ko m l];exact e (i+1) _ _ (by omega) g
def J8 {acc:List W}{y:W}(h:me ρ A=.ok y A1)(H:acc.length<qf):zR me ρ acc A=.ok (ρ,acc++[y]) A1:=by
 unfold zR;rw[h,zS,ag H]
theorem take_succ {l:List α}(h:i<l.length):l.take (i+1)=l.take i++[l[i]]:=by
 rw[List.take_succ,ab h];rfl
def wQ {o:O}(h:A[n]? =some o):n<A.length:=(bY.mp h).1
end Mi
namespace G
open PySem L2 Mi
def P8 {w:W}(H:A[n]? =some (.lst ws))(h:ws[i]? =some w):((zW (.ref n) A).map λws=>ws[i]?)=some (some w):=by
 rw[kD H,h]
def Oq (H:A[n]? =some (.lst ws))(h:ws.length<=i):((zW (.ref n) A).map λws=>ws[i]?)=some none:=by
 rw[kD H,au h]
theorem Ky:∀(l:bF)(m:Int),m<=j6 l m/\∀x∈l,x<=j6 l m
 |[],m=>⟨Int.le_refl _,λx h=>by cases h⟩|y::l,m=>by
  unfold j6
  split
  ·rename_i c
   obtain⟨b,a⟩:=Ky l y;refine⟨by omega,λx H=>?_⟩
   rcases b0.mp H with rfl|H
   ·exact b
   ·exact a x H
  ·rename_i c
   obtain⟨b,a⟩:=Ky l m;refine⟨b,λx H=>?_⟩;rcases b0.mp H with rfl|H
   ·omega
   ·exact a x H
theorem Sl:∀{l:List α}{k:Nat}{w:α},l[k]? =some w->l.Perm (w::l.eraseIdx k)
 |[],_,_,h=>by simp at h|x::l,0,w,h=>by
  simp at h;subst h;simp
 |x::l,k+1,w,h=>by
  rw[List.getElem?_cons_succ]at h;rw[List.eraseIdx_cons_succ];exact((Sl h).cons x).trans (List.Perm.swap w x _)
def L9 {k:Nat}{i:Int}{w:W}(h:A[n]? =some (.lst ws))(hw:ws[k]? =some w)(H:jJ i=true)(e:seqIndex? i ws.length=some k):wU (.ref n) (.int i) A=.ok w (A.set n (.lst (ws.eraseIdx k))):=by
 unfold wU;dsimp only;rw[h];dsimp only;rw[ag H,e];dsimp only;rw[hw]
def Bl {k:Nat}(h:k<n):seqIndex? (k:Int) n=some k:=by
 have:=PySem.StrLaws.seqIndex_nonneg (i:=(k:Int)) (n:=n) (by omega) (by omega)
 rw[aB]at this;exact this
def Hj {k:Nat}{w:W}(h:A[n]? =some (.lst ws))(hw:ws[k]? =some w)(H:k<1000000):wU (.ref n) (.int (k:Int)) A=.ok w (A.set n (.lst (ws.eraseIdx k))):=
 L9 h hw (G.gF H) (Bl (bY.mp hw).1)
theorem Ra {β:Type}(f:α->β):∀(l:List α)(k:Nat),(l.map f).eraseIdx k=(l.eraseIdx k).map f
 |[],_=>rfl|_::_,0=>rfl|a::l,k+1=>by
  rw[aS,List.eraseIdx_cons_succ,List.eraseIdx_cons_succ,aS,Ra f l k]
def Xf {a b:Ev}{y:W}(c:a ρ A=.ok (.ref n) A)(d:A[n]? =some (.lst ws))(H:b ρ A=.ok y A1):jU g a b ρ A=g (.ref n) y A1:=by
 unfold jU;have h:JA (.ref n) A=true:=by unfold JA;dsimp only;rw[d]
 rw[c,zS,ag h,H,zS]
def Sd {y:W}(h:A[n]? =some (.lst ws))(H:ws.length<1000):yr (.ref n) y A=.ok .non (A.set n (.lst (ws++[y]))):=by
 unfold yr;dsimp only;rw[h];dsimp only;rw[ag (by unfold qf;omega)]
def QX {f:Fn}{c C:Int}{b B:Bool}{w:W}(a:A[n]? =some (.lst [.int c,.bl b]))(H:qI us=true)(h:f (.ref 0::us) [.lst [.int c,.bl b]]=.ok w A1)(g:A1[0]? =some (.lst [.int C,.bl B]))(hw:w.nr=true):j7 f (.ref n::us) A=.ok w (A.set n (.lst [.int C,.bl B])):=by
 unfold j7;dsimp only;rw[a];dsimp only;have e:(qI [W.int c,W.bl b]&&qI us)=true:=by rw[H];rfl
 rw[ag e,h];dsimp only;rw[List.head?_eq_getElem?,g];dsimp only;have d:(qI [W.int C,W.bl B]&&w.nr)=true:=by rw[hw];rfl
 rw[ag d]
noncomputable abbrev iL (l:bJ):List W:=l.map λ(a:Nat)=>W.int (a:Int)
def HI (h:m ρ A=.ok (.int (n:Int)) A1)(hn:n<=100):KP m ρ A=.ok (.ref A1.length) (A1++[.lst (iL (List.range n))]):=by
 unfold KP;rw[h,zS];dsimp only;rw[gF (by omega),aB,aw (by unfold qf;omega)]
 rfl
def Z3 {o:List α}{f:α->W}{G:α->W}(h:m ρ A=.ok (.tup (o.map f)) A)(l:o.length<=qf)(he:∀a∈o,me (some (f a)::cap.map λi=>(ρ[i]?).join) A=.ok (G a) A):
  zT 1 cap (qi m) (zP 0) qd (zR me) ρ A=.ok (o.map G) A:=by
 by_cases h0:o=[]
 ·subst h0
  have e:=gE (cap:=cap) (me:=me) (ρ:=ρ) (A:=A) (N:=0) (item:=λ_=>.non) (g:=λ_=>.non) (Zo h) rfl (by unfold qf;omega) (λi H=>by omega) rfl (λi H=>by omega)
  exact e
 ·obtain⟨x,c⟩:∃x,x∈o:=List.exists_mem_of_ne_nil o h0
  have e:=gE (cap:=cap) (me:=me) (ρ:=ρ) (A:=A) (N:=o.length) (item:=λi=>f (o.getD i x)) (g:=λi=>G (o.getD i x)) (Zo h) (ae ..) l
   (λi H=>by show some (o.map f)[i]? =_;rw[ak,ab H,aa,ab H];rfl)
   (by show some (o.map f)[o.length]? =_;rw[au (by rw[ae];exact ao _)])
   (λi H=>by
    have:o.getD i x=o[i]:=by rw[aa,ab H];rfl
    rw[this];exact he _ (aG H))
  rw[e]
  congr 1
  apply bq
  ·simp
  ·intro i d b
   have H:i<o.length:=by simpa using b
   simp[aa,ab H]
def QH {β:Type}(o:List α)(x:α)(f:α->β):o.map f=(List.range o.length).map λi=>f (o.getD i x):=by
 apply bq
 ·simp
 ·intro i H a
  have h:i<o.length:=by simpa using H
  simp[aa,ab h]
def KR (q:∀r∈t,r.length=t.length){v:Int}(h:v∈t.flatten):∃a b,a<t.length/\b<t.length/\at2 t a b=v:=by
 obtain⟨r,H,e⟩:=List.mem_flatten.mp h;obtain⟨a,d,g⟩:=aY H;obtain⟨b,c,f⟩:=aY e;refine⟨a,b,d,by rw[<- q r H];exact c,?_⟩
 unfold at2;have E:t.getD a []=r:=by rw[aa,ab d];exact g
 rw[E,aa,ab c];exact f
def Dr (q:∀r∈t,r.length=t.length){a b:Nat}(e:a<t.length)(d:b<t.length):∃r∈t,at2 t a b∈r/\at2 t a b∈t.flatten:=by
 have H:t.getD a []∈t:=yN e;have c:at2 t a b∈t.getD a []:=by
  unfold at2;have h:b<(t.getD a []).length:=by rw[q _ H];exact d
  rw[aa (l:=t.getD a []),ab h];exact aG _
 exact⟨_,H,c,List.mem_flatten.mpr ⟨_,H,c⟩⟩
def RZ {r:bF}{x:Int}(h:x∈r):x<=kJ r:=by
 cases r with
 |nil=>cases h|cons i is=>
  show x<=j6 is i;rcases b0.mp h with rfl|h
  ·exact(Ky is x).1
  ·exact(Ky is i).2 x h
section
def Q6 (h:qc t){a b:Nat}(d:a<t.length)(c:b<t.length):at2 t a b<qa t:=by
 obtain⟨r,H,e,_⟩:=Dr h.sq d c;have f:=RZ e;have E:=RZ (bZ.mpr ⟨r,H,rfl⟩:kJ r∈t.map kJ);unfold qa;omega
def KI (h:qc t):qa t-1∈t.flatten:=by
 obtain⟨r,H,e⟩:=bZ.mp (Ku h.map_ne)
 have:qa t-1=kJ r:=by unfold qa;omega
 rw[this];exact List.mem_flatten.mpr ⟨r,H,Ku (h.row_ne H)⟩
def Ov (h:qc t):qa t<=(t.length:Int):=by
 obtain⟨r,a,H⟩:=List.mem_flatten.mp (KI h)
 have:=h.lo r a _ H
 omega
def gQ (h:qc t){v:Nat}(H:(v:Int)<qa t):∃a b,a<t.length/\b<t.length/\at2 t a b=(v:Int):=by
 by_cases e:(v:Int)=qa t-1
 ·rw[e];exact KR h.sq (KI h)
 ·exact KR h.sq (h.fu v ⟨_,KI h,by omega⟩)
noncomputable def je (p:bJ):bF:=0::p.map λ(k:Nat)=>1+(k:Int)
def yX (t:bE)(p o:bJ):bE:=o.map λa=>o.map λb=>(je p).getD (at2 t a b).toNat 0
def Zn {p:bJ}{v:Nat}(H:1<=v)(h:v<=p.length):(je p).getD v 0=1+((p[v-1]'(by omega):Nat):Int):=by
 obtain⟨v,rfl⟩:∃u,v=u+1:=⟨v-1,by omega⟩
 unfold je;rw[aa,List.getElem?_cons_succ,ak,ab (by omega)]
 rfl
def Sw (h:qc t){p o:bJ}(m:p.Perm (List.range (qa t-1).toNat))(f:o.Perm (List.range t.length)):qc (yX t p o)/\(yX t p o).length=t.length:=by
 have l:o.length=t.length:=by rw[f.length_eq,ar]
 have L:=yP h;have K:=Ov h;have z:p.length=(qa t-1).toNat:=by rw[m.length_eq,ar]
 have n1:=h.n1;have H:∀i,o.getD i 0<t.length:=λi=>by
  by_cases hi:i<o.length
  ·rw[aa,ab hi]
   exact bX.mp (f.mem_iff.mp (aG hi))
  ·rw[aa,au (by omega)]
   exact n1
 have s:o.Nodup:=(f.nodup_iff).mpr bB;have r:∀a,a<t.length->∃i,i<t.length/\o.getD i 0=a:=λa x=>by
  obtain⟨i,hi,e⟩:=aY (f.mem_iff.mpr (bX.mpr x));exact⟨i,by omega,by rw[aa,ab hi];exact e⟩
 have c:∀q (g:q<p.length),p[q]<p.length:=λq g=>by
  have:=bX.mp (m.mem_iff.mp (aG g))
  omega
 have M:Mu t.length (λi j=>(je p).getD (at2 t (o.getD i 0) (o.getD j 0)).toNat 0) p.length (λ_ _=>True):=by
  refine⟨λi=>?_,λi j=>?_,λi j A y _=>?_,λi j _ _ hn=>absurd trivial hn,λk k1 J=>?_⟩
  ·show(je p).getD (at2 t (o.getD i 0) (o.getD i 0)).toNat 0=0
   rw[(h.dg _ _ (H i) (H i)).mpr rfl]
   rfl
  ·show(je p).getD (at2 t (o.getD i 0) (o.getD j 0)).toNat 0=(je p).getD (at2 t (o.getD j 0) (o.getD i 0)).toNat 0
   rw[h.sy _ _ (H i) (H j)]
  ·show 1<=(je p).getD (at2 t (o.getD i 0) (o.getD j 0)).toNat 0/\(je p).getD (at2 t (o.getD i 0) (o.getD j 0)).toNat 0<=(p.length:Int)
   have n:o.getD i 0≠o.getD j 0:=by
    have w:i<o.length:=by omega
    have u:j<o.length:=by omega
    rw[aa,ab w,aa,ab u];intro e;have I:o[i]=o[j]:=e
    have:=(getElem_inj s).mp I
    omega
   have d:=h.dg _ _ (H i) (H j);have Q:=Jh h (H i) (H j);have P:=Q6 h (H i) (H j);have N:at2 t (o.getD i 0) (o.getD j 0)≠0:=λe=>n (d.mp e);rw[Zn (by omega) (by omega)]
   have:=c ((at2 t (o.getD i 0) (o.getD j 0)).toNat-1) (by omega)
   omega
  ·obtain⟨q,g,e⟩:=aY (m.mem_iff.mpr (bX.mpr (by omega:k-1<(qa t-1).toNat)))
   obtain⟨a,b,x,B,D⟩:=gQ h (v:=q+1) (by omega)
   obtain⟨i,hi,C⟩:=r a x;obtain⟨j,y,E⟩:=r b B;refine⟨i,j,hi,y,?_⟩;show(je p).getD (at2 t (o.getD i 0) (o.getD j 0)).toNat 0=(k:Int);rw[C,E,D,aB,Zn (by omega) (by omega)]
   have:p[q+1-1]'(by omega)=k-1:=e
   rw[this];omega
 have hT:yX t p o=jN t.length (λi j=>(je p).getD (at2 t (o.getD i 0) (o.getD j 0)).toNat 0):=by
  unfold yX jN;rw[QH o 0,l]
  congr 1
  funext i
  rw[QH o 0 (λb=>(je p).getD (at2 t (o.getD i 0) b).toNat 0),l]
 refine⟨?_,by unfold yX;rw[ae,l]⟩
 rw[hT];exact M.tab (λ_ _ _ _=>trivial) n1 h.n8 (.inr (by omega))
end
end G
namespace Mi
open PySem L2
def EZ {r b:Nat}{v:W}(h:A[r]? =some (.lst ws))(H:b<ws.length):k6 (.ref r) (.int (b:Int)) v A=.ok () (A.set r (.lst (ws.set b v))):=by
 have e:wC ws.length (b:Int)=some b:=by unfold wC;rw[ag (by omega),ag (by omega),aB]
 unfold k6;dsimp only;rw[h];dsimp only;rw[e]
def Xd {μ:Nat->Nat->Int}:(jN n μ).length=n:=by unfold jN;simp
def Vl (t:bE):Bool:=decide (1<=t.length)&&(decide (t.length<=8)&&((t.all λr=>r.length==t.length&&r.all λv=>decide (0<=v)&&decide (v<(t.length:Int)))&&
 (((List.range t.length).all λa=>(List.range t.length).all λb=>(decide (at2 t a b=0)==decide (a=b))&&decide (at2 t a b=at2 t b a))&&(List.range 8).all λk=>!(t.flatten.any λv=>decide ((k:Int)<v)) || t.flatten.contains (k:Int))))
def Cb (h:Vl t=true):qc t:=by
 unfold Vl at h;rw[aq,aq,aq,aq,ai,ai]at h;obtain⟨n1,n8,i,s,hf⟩:=h;have rw_:∀r∈t,r.length=t.length/\∀v∈r,0<=v/\v<(t.length:Int):=λr hm=>by
  have:=b2.mp i r hm
  rw[aq,aU]at this;refine⟨this.1,λv d=>?_⟩
  have:=b2.mp this.2 v d
  rw[aq,ai,ai]at this;exact this
 have at_:∀a b,a<t.length->b<t.length->(decide (at2 t a b=0)==decide (a=b))=true/\at2 t a b=at2 t b a:=λa b c H=>by
  have:=b2.mp (b2.mp s a (bX.mpr c)) b (bX.mpr H)
  rw[aq,ai]at this;exact this
 refine⟨n1,n8,λr hm=>(rw_ r hm).1,λr hm=>(rw_ r hm).2,λa b c H=>?_,λa b c H=>(at_ a b c H).2,λk j=>?_⟩
 ·have:=aU.mp (at_ a b c H).1
  by_cases q:a=b
  ·rw[aw q]at this;exact⟨λ_=>q,λ_=>of_decide_eq_true this⟩
  ·rw[aJ q]at this;exact⟨λz=>absurd z (of_decide_eq_false this),λz=>absurd z q⟩
 ·obtain⟨v,d,f⟩:=j
  obtain⟨r,hm,e⟩:=List.mem_flatten.mp d
  have:=(rw_ r hm).2 v e
  have g:=b2.mp hf k (bX.mpr (by omega))
  rw[bh]at g;rcases g with z|z
  ·exfalso
   have:(t.flatten.any λv=>decide ((k:Int)<v))=true:=List.any_eq_true.mpr ⟨v,d,aw f⟩
   rw[this]at z;cases z
  ·exact List.contains_iff_mem.mp z
end Mi
namespace G
open PySem L2 Mi
def kj (t:bE):((zm t).nr&&true)=true:=by rw[j3];rfl
def AD (h:ρ[i]? =some (some (.tup ws))):mQ qm (zV (zO i)) ρ A=.ok (.int ws.length) A:=by
 rw[jS (yE (w:=.tup ws) (A1:=A) (zo h) rfl)]
 rfl
def IH (i:Int)(A:Hx):JZ [.int i] A=.ok (.bl true) A:=by
 unfold JZ GV;exact qQ (w:=.bl true) (A1:=A) rfl
def Rn {r:bF}(h:r.length<=8)(A:Hx):gC [zj r,.int r.length] A=.ok (.bl true) A:=by
 unfold gC GR;refine qQ ?_;unfold TM;refine qy (qX ?_);refine(gL (A1:=A) rfl).trans ?_;have e:mQ qm (zV zt) [some (zj r),some (.int r.length)] A=.ok (.int r.length) A:=by
  rw[jS (yE (w:=zj r) (A1:=A) (zo rfl) rfl)];unfold qm;rw[ae]
 refine(gL (A1:=A) ((zN e (zo (i:=1) rfl)).trans ((ZI _ _ _).trans (by rw[aw rfl])))).trans ?_
 have E:=Xe (cap:=[]) (A:=A) (ρ:=[some (zj r),some (.int r.length)]) (ws:=r.map W.int) (me:=zx JZ (zh zt zr)) (g:=λ_=>.bl true) (zo (i:=0) rfl) (by rw[ae];unfold qf;omega) (λw hw=>by
  obtain⟨i,_,rfl⟩:=bZ.mp hw;exact(zQ (ws:=[.int i]) (A1:=A) rfl).trans (IH i A))
 exact(jS E).trans (KH (p:=λ_=>true) λ_ _=>rfl)
def EO {r:bF}(l:r.length<=8)(H:∀v∈r,0<=v/\v<r.length)(A:Hx):JC [zj r,.int r.length,.int r.length] A=.ok (.bl true) A:=by
 unfold JC W9;refine qQ ?_;unfold V1;refine qy (qX ?_);refine(gL (A1:=A) ((zQ (ws:=[zj r,.int r.length]) (A1:=A) rfl).trans (Rn l A))).trans ?_;have e:=Xe (cap:=[2]) (A:=A) (ρ:=[some (zj r),some (.int r.length),some (.int r.length)]) (ws:=r.map W.int) (me:=kE Qz gw (z7 (.int 0)) (zO 0) (zO 1)) (g:=λ_=>.bl true) (zo (i:=0) rfl) (by rw[ae];unfold qf;omega) (λw hw=>by
  obtain⟨v,h,rfl⟩:=bZ.mp hw;obtain⟨b,a⟩:=H v h;unfold kE;rw[qw,zS,zo (i:=0) (w:=.int v) rfl,zS];show R.bind (R.ok (W.bl (decide ((0:Int)<=v))) A) _=_;rw[aw b,zS];dsimp only;rw[zo (i:=1) (w:=.int r.length) rfl,zS];show R.ok (W.bl (decide (v<(r.length:Int)))) A=_;rw[aw a])
 exact(jS e).trans (KH (p:=λ_=>true) λ_ _=>rfl)
def CW (h:qc t)(A:Hx):G7 [zm t] A=.ok (.bl true) A:=by
 refine yb (A1:=[]) (kj t) rfl (qQ ?_);unfold SO;obtain⟨d,e,_⟩:=Rb (A:=[]) (N:=t.length) (item:=λi=>.tup [.int i,zj (t.getD i [])]) (I:=λρ=>∃m g Y y,ρ=[some (zm t),m,g,Y,y])
  (j:=yj (zm t) (t.map zj).length) (st:=turn (qG 1 2) (zq (jm (yG zF) (qG 3 4) (zq (qR (wc (zi qZ (zi jn qH qx) (zi jn zw qe)) (zi qZ (zi zI (zi zI zt qe) zw) qH)) yI zA) zA)) zA))
  (λi n=>Jg (gP n)) (by have:=Q7 (A:=[]) (ws:=t.map zj);rw[ae]at this;rw[ae];exact this) (λa f ρ H=>by
   obtain⟨m,g,Y,y,rfl⟩:=H;have l:=h.sq _ (yN f);obtain⟨o,E,p,Z,r⟩:=Rb (A:=[]) (N:=t.length) (item:=λi=>.tup [.int i,.int ((t.getD a []).getD i 0)]) (I:=λρ=>∃Y y,ρ=[some (zm t),some (.int a),some (zj (t.getD a [])),Y,y])
    (j:=yj (zj (t.getD a [])) ((t.getD a []).map W.int).length) (st:=turn (qG 3 4) (zq (qR (wc (zi qZ (zi jn qH qx) (zi jn zw qe)) (zi qZ (zi zI (zi zI zt qe) zw) qH)) yI zA) zA))
    (λi n=>Jg (int_at (by omega)))
    (by have:=Q7 (A:=[]) (ws:=(t.getD a []).map W.int);rw[ae,l]at this;rw[ae,l];exact this)
    (λb c ρ H=>by
     obtain⟨Y,y,rfl⟩:=H;refine⟨[some (zm t),some (.int a),some (zj (t.getD a [])),some (.int b),some (.int ((t.getD a []).getD b 0))],?_,_,_,rfl⟩;refine(kq rfl).trans ?_;refine(zK ((yc (A1:=[]) ?_).trans rfl)).trans rfl;have v:zi qZ (zi jn qH qx) (zi jn zw qe) [some (zm t),some (.int a),some (zj (t.getD a [])),some (.int b),some (.int ((t.getD a []).getD b 0))] []=.ok (.bl false) []:=by
      refine(zN ((zN (zo (i:=4) rfl) (qw (w:=.int 0))).trans (ZI _ _ _)) ((zN (zo (i:=1) rfl) (zo (i:=3) rfl)).trans (ZI _ _ _))).trans ((c5 _ _ _).trans ?_);have hd:(t.getD a []).getD b 0=0↔a=b:=h.dg a b f c
      have:decide ((t.getD a []).getD b 0=0)=decide ((a:Int)=(b:Int)):=by
       by_cases q:a=b
       ·rw[aw (hd.mpr q),aw (by omega)]
       ·rw[aJ (λz=>q (hd.mp z)),aJ (by omega)]
      rw[this];simp
     have E:zi qZ (zi zI (zi zI zt qe) zw) qH [some (zm t),some (.int a),some (zj (t.getD a [])),some (.int b),some (.int ((t.getD a []).getD b 0))] []=.ok (.bl false) []:=by
      have u:=h.sq _ (yN c);refine(zN ((zN ((zN (zo (i:=0) rfl) (zo (i:=3) rfl)).trans (Qg c)) (zo (i:=1) rfl)).trans (gN (by omega))) (zo (i:=4) rfl)).trans ((JB _ _ _).trans ?_)
      have s:(t.getD b []).getD a 0=(t.getD a []).getD b 0:=(h.sy a b f c).symm;rw[s,aw rfl]
      rfl
     exact(Yp v).trans E) t.length 0 [some (zm t),some (.int a),some (zj (t.getD a [])),Y,y] (by omega) ⟨_,_,rfl⟩
   refine⟨[some (zm t),some (.int a),some (zj (t.getD a [])),p,Z],?_,_,_,_,_,rfl⟩;refine(kq rfl).trans ?_;rw[r]at E;have hlen:((t.getD a []).map W.int).length=t.length:=by rw[ae,l]
   refine(zK ((yM (QS (zo (i:=2) rfl))).trans ?_)).trans rfl;show jT (yj (zj (t.getD a [])) ((t.getD a []).map W.int).length) _ ((t.getD a []).map W.int).length 0 _ _=_;rw[hlen]at E ⊢;exact E) t.length 0 [some (zm t),none,none,none,none] (by omega) ⟨_,_,_,_,rfl⟩
 refine(zK (ρ1:=d) (A1:=[]) ((yM (QS (zo (i:=0) rfl))).trans ?_)).trans (qy rfl);show jT (yj (zm t) (t.map zj).length) _ (t.map zj).length 0 _ _=_;have hlen:(t.map zj).length=t.length:=ae ..;rw[hlen]at e ⊢;exact e
def EU (h:qc t)(A:Hx):W5 [zm t] A=.ok (.bl true) A:=by
 have m:=Fw h;have c:t.flatten≠[]:=by
  intro e;have u:=h.n1;have b:=h.sq _ (yN (t:=t) (a:=0) (by omega))
  have:t.getD 0 []=[]:=by
   have:=List.flatten_eq_nil_iff.mp e _ (yN (t:=t) (a:=0) (by omega))
   exact this
  rw[this]at b;simp at b;omega
 obtain⟨v0,l,E⟩:=List.exists_cons_of_ne_nil c;refine yb (A1:=[.lst (t.flatten.map W.int)]) (kj t) rfl (qQ ?_);unfold VQ;refine(zK (qK (kR (DZ (zo rfl) (by unfold qf;omega))))).trans (qy (qX ?_))
 generalize o:[O.lst (t.flatten.map W.int)]=B;have s:zW (.ref 0) B=some (t.flatten.map W.int):=by rw[<- o];rfl
 have em:mQ yY (zV zw) [some (zm t),some (.ref 0)] B=.ok (.int (j6 l v0)) B:=by
  rw[jS (yE (w:=.ref 0) (A1:=B) (zo rfl) s)];unfold yY;rw[Ke,E]
 have H:j6 l v0∈t.flatten:=by
  rw[E];rcases Xi l v0 with e|e
  ·rw[e];exact aK ..
  ·exact aL _ e
 have f:0<=j6 l v0/\j6 l v0<8:=by
  obtain⟨r,b,v⟩:=List.mem_flatten.mp H
  have:=h.lo r b _ v
  have:=h.n8
  omega
 generalize j6 l v0=M at em H f;obtain⟨K,rfl⟩:=aV f.1;have q:=gE (cap:=[1]) (me:=zi Vw zt zw) (ρ:=[some (zm t),some (.ref 0)]) (A:=B) (N:=K) (j:=kZ 0 K) (item:=λi=>.int (0+i)) (g:=λ_=>.bl true)
  ((Z2 em (by unfold jJ;simp;omega)).trans (by rw[aB])) rfl (by unfold qf;omega) (λi d=>Qc d) (Z8 (by omega))
  (λi d=>by
   refine(zN (zo (i:=0) (w:=.int (0+i)) rfl) (zo (i:=1) (w:=.ref 0) rfl)).trans ?_;show Qt false _ _ _=_;unfold Qt;rw[s];dsimp only;have hf:(yd (.int (0+(i:Int)))&&(t.flatten.map W.int).all yd)=true:=by
    have:(t.flatten.map W.int).all yd=true:=b2.mpr λw hw=>by obtain⟨x,_,rfl⟩:=bZ.mp hw;rfl
    rw[this];rfl
   rw[ag hf];have n:Jw (.int (0+(i:Int))) (t.flatten.map W.int)=true:=by
    unfold Jw;refine List.any_eq_true.mpr ⟨.int i,bZ.mpr ⟨(i:Int),h.fu i ⟨_,H,by omega⟩,rfl⟩,?_⟩
    show((i:Int)==0+(i:Int))=true;rw[Int.zero_add];exact beq_self_eq_true _
   rw[n]
   rfl)
 refine(jS q).trans ?_;exact KH (p:=λ_=>true) λ_ _=>rfl
def Ca (h:qc t)(A:Hx):J1 [zm t] A=.ok (.bl true) A:=by
 have n1:=h.n1;have n8:=h.n8;unfold J1 GS;refine qQ ?_;unfold Sg;have e:∀ρ:En,mQ qm (zV (zO 0)) (some (zm t)::ρ) A=.ok (.int t.length) A:=λρ=>by
  rw[jS (yE (w:=zm t) (A1:=A) (zo rfl) rfl)];unfold qm;rw[ae]
 refine(zK (ρ1:=[some (zm t),none]) (A1:=A) ((yc (A1:=A) ?_).trans rfl)).trans ?_
 ·refine(Yp (A1:=A) rfl).trans ?_
  refine wq (k:=true) ?_;show kE Qz Qz (z7 (.int 1)) (mQ qm (zV (zO 0))) (z7 (.int 8)) [some (zm t),none] A=_;unfold kE;rw[qw,zS,e,zS];show R.bind (R.ok (W.bl (decide ((1:Int)<=t.length))) A) _=_;rw[aw (by omega),zS]
  dsimp only;rw[qw,zS];show R.ok (W.bl (decide ((t.length:Int)<=8))) A=_;rw[aw (by omega)]
 refine(zK (qK (e _))).trans ?_;have E:=Xe (cap:=[1]) (A:=A) (ρ:=[some (zm t),some (.int t.length)]) (ws:=t.map zj) (me:=zx JC (zh (zO 0) (zh (zO 1) (zh (zO 1) zr)))) (g:=λ_=>.bl true) (zo (i:=0) rfl) (by rw[ae];unfold qf;omega) (λw hw=>by
  obtain⟨r,H,rfl⟩:=bZ.mp hw;have l:=h.sq r H;refine(zQ (ws:=[zj r,.int t.length,.int t.length]) (A1:=A) rfl).trans ?_;rw[<- l];exact EO (by omega) (λv a=>by have:=h.lo r H v a;omega) A)
 refine(zK (ρ1:=[some (zm t),some (.int t.length)]) (A1:=A) ((yc (A1:=A) (wq (k:=true) ((jS E).trans (KH (p:=λ_=>true) λ_ _=>rfl)))).trans rfl)).trans (qy (qX ?_));refine(gL (A1:=A) ((zQ (ws:=[zm t]) (A1:=A) rfl).trans (CW h A))).trans ?_;exact(zQ (ws:=[zm t]) (A1:=A) rfl).trans (EU h A)
end G
namespace Mi
open PySem L2
theorem Kg:∀(l m:bF),PyData.eqvAll (l.map PyData.int) (m.map PyData.int)=decide (l=m)
 |[],[]=>by simp[PyData.eqvAll]|[],_::_=>by simp[PyData.eqvAll]|_::_,[]=>by simp[PyData.eqvAll]|a::l,b::m=>by
  simp only[aS,PyData.eqvAll,Kg l m,PyData.eqv];rw[Bool.eq_iff_iff];simp
theorem Sv:∀l:bF,yo (qO A n) (l.map W.int)=some (l.map PyData.int)
 |[]=>rfl|i::l=>by
  have:qO A n (.int i)=some (.int i):=by cases n<;>rfl
  show(match qO A n (.int i),yo (qO A n) (l.map W.int) with|some d,some ds=>some (d::ds)|_,_=>none)=_
  rw[this,Sv l]
  rfl
def Oh {r:Nat}{l:bF}(h:A[r]? =some (.lst (l.map W.int))):qO A 8 (.ref r)=some (.list (l.map PyData.int)):=by
 show(match zW (.ref r) A with|some ws=>(yo (qO A 7) ws).map PyData.list|none=>none)=_
 have:zW (.ref r) A=some (l.map W.int):=by unfold zW;dsimp only;rw[h]
 rw[this];dsimp only;rw[Sv]
 rfl
def Ho {c:En}{N:Nat}{u v g:Nat->W}(t:∀i,i<N->j.at_ A i=some (some (.tup [u i,v i])))(H:j.at_ A N=some none)(he:∀i,i<N->me (some (u i)::some (v i)::c) A=.ok (g i) A):
  ∀(f i:Nat)(x y:Option W)(acc:List W),i+f=N->acc.length+f<=qf->∃ρ,jl j (qG 0 1) (z7 (.bl true)) (zR me) f i (x::y::c) acc A=.ok (ρ,acc++(List.range' i f).map g) A:=by
 intro f
 induction f with
 |zero=>
  intro i x y acc h l
  have:i=N:=by omega
  subst this;refine⟨x::y::c,?_⟩;unfold jl;rw[H];simp
 |succ f I=>
  intro i x y acc h l;obtain⟨ρ,e⟩:=I (i+1) (some (u i)) (some (v i)) (acc++[g i]) (by omega) (by rw[aE,aZ];omega)
  refine⟨ρ,?_⟩;rw[jl,t i (by omega)]
  dsimp only;rw[show qG 0 1 (.tup [u i,v i]) (x::y::c)=some (some (u i)::some (v i)::c) from rfl]
  dsimp only[z7];rw[zS];dsimp only;have E:zR me (some (u i)::some (v i)::c) acc A=.ok (some (u i)::some (v i)::c,acc++[g i]) A:=by
   unfold zR;rw[he i (by omega),zS,ag (by omega)]
  rw[E,zS];rw[e,aQ,range'_succ,aS]
  rfl
def JW {N:Nat}{u v g:Nat->W}(hm:mi ρ A=.ok j A)(b:j.len=N)(d:N<=1000)(H:∀i,i<N->j.at_ A i=some (some (.tup [u i,v i])))(h:j.at_ A N=some none)
  (he:∀i,i<N->me (some (u i)::some (v i)::cap.map λi=>(ρ[i]?).join) A=.ok (g i) A):zT 2 cap mi (qG 0 1) qd (zR me) ρ A=.ok ((List.range N).map g) A:=by
 obtain⟨a,e⟩:=Ho (A:=A) (c:=cap.map λi=>(ρ[i]?).join) H h he N 0 none none [] (by omega) (by unfold qf;simp;omega)
 unfold zT;rw[hm,zS,b];show R.bind (R.nox (jl j _ _ _ N 0 (none::none::cap.map λi=>(ρ[i]?).join) [] A)) _=_;rw[e,<- range_eq_range',bA]
 rfl
def J6 {M:Ev}{vs:List W}(h:m ρ A=.ok (.tup us) A)(h':M ρ A=.ok (.tup vs) A):jH m M ρ A=.ok (yH (.tup us) (.tup vs) us.length) A:=by
 unfold jH;rw[h,zS,h',zS]
 rfl
end Mi
namespace G
open PySem L2 Mi
def Yc {f:Fn}{k:Nat}(hn:qI us=true)(h:f us []=.ok (.ref k) A1)(H:A1[k]? =some (.lst ws))(hw:qI ws=true):iso f us A=.ok (.ref A.length) (A++[.lst ws]):=by
 unfold iso;rw[ag hn,h];dsimp only;rw[H];dsimp only;rw[ag hw]
section
def LO (h:n<1000000):jJ (n:Int)=true:=by
 unfold jJ;rw[aq,ai,ai];omega
end
section
def BV (a:A[0]? =some (.ro (ns.map W.int)))(k:Nat):∃x:Int,YW [.ref 0,.int k] A=.ok (.int x) A:=by
 have H:zW (.ref 0) A=some (ns.map W.int):=by unfold zW;dsimp only;rw[a]
 have l:mQ qm (zV zt) [some (.ref 0),some (.int k)] A=.ok (.int ns.length) A:=by
  rw[jS (yE (w:=.ref 0) (A1:=A) (zo rfl) H)];unfold qm;rw[ae]
 have e:zi gw zw (mQ qm (zV zt)) [some (.ref 0),some (.int k)] A=.ok (.bl (decide ((k:Int)<ns.length))) A:=(zN (zo (w:=.int k) rfl) l).trans rfl
 by_cases h:k<ns.length
 ·refine⟨ns[k],qQ ?_⟩
  unfold Gp;rw[aw (by omega)]at e
  refine qy ((Qm e).trans (qy (qX ?_)));refine(zN (x:=.ref 0) (y:=.int k) (A1:=A) (A2:=A) (zo rfl) (zo rfl)).trans ?_;unfold zI;rw[H];dsimp only;rw[KQ (v:=.int ns[k]) (by rw[ak,ab h];rfl)]
 ·refine⟨0,qQ ?_⟩
  unfold Gp;rw[aJ (by omega)]at e
  exact(zK ((yc e).trans rfl)).trans rfl
def Ci (H:A[0]? =some (.ro (ns.map W.int)))(k:Nat):∃o,QN [.ref 0,.int k] A=.ok (.ref A.length) (A++[o])/\ji A.length (A++[o]):=by
 obtain⟨x,e⟩:=BV H k;have a:zX 2 (zx YW (zh zt (zh zw zr))) [some (.ref 0),some (.int k),none] A=.ok (.nx [some (.ref 0),some (.int k),some (.int x)]) A:=by
  refine(qK (w:=.int x) (A1:=A) ?_).trans rfl;rw[zQ (ws:=[.ref 0,.int k]) (A1:=A) rfl];exact e
 have E:zi VA zF (zi WD Wl (z7 (.int 18))) [some (.ref 0),some (.int k),some (.int x)] A=.ok (.bl (decide ((1000000000000000000:Int)<=x))) A:=(zN (x:=.int x) (y:=.int 1000000000000000000) (A1:=A) (A2:=A) (zo rfl) rfl).trans rfl
 by_cases h:(1000000000000000000:Int)<=x
 ·refine⟨.lst [.int (x-1000000000000000000),.bl true],qQ ?_,x-1000000000000000000,true,kh,by omega,λz=>nomatch z⟩
  unfold GK;rw[aw h]at E;refine(zK a).trans (qy ((Qm E).trans (qy (qX (kC ?_)))))
  rfl
 ·refine⟨.lst [.int (x%2147483647),.bl false],qQ ?_,x%2147483647,false,kh,emod_nonneg _ (by decide),λ_=>bz _ (by decide)⟩
  unfold GK;rw[aJ h]at E;refine(zK a).trans ((zK ((yc E).trans rfl)).trans (qy (qX (kC ?_))));refine zy (A1:=A) (A2:=A) ((zN (x:=.int x) (y:=.int 2147483647) (A1:=A) (A2:=A) (zo rfl) rfl).trans (Qd (by decide))) rfl
def DI (h:qc t)(A:Hx):J1 [zm t] A=.ok (.bl true) A:=Ca h A
def SK (h:qc t)(A:Hx):JE [zm t] A=.ok .non A:=by
 unfold JE Gh;refine Yb (ρ:=[some (zm t)]) ?_;unfold Ul;refine(zK (ρ1:=[some (zm t)]) (A1:=A) ((yc (A1:=A) ?_).trans rfl)).trans rfl;exact wq (k:=true) ((zQ (ws:=[zm t]) (A1:=A) rfl).trans (DI h A))
variable {a b:Nat}{w:W}
def AG {a b:Ev}{p q:Bool}(h:a ρ A=.ok (.bl p) A)(H:b ρ A=.ok (.bl q) A):ye a b ρ A=.ok (.bl (p&&q)) A:=by
 cases p with
 |true=>exact(gL h).trans H|false=>exact Oa h
def Dg (h:qc t)(a:ρ[i]? =some (some (zm t))):mQ yY (zT 1 [] (qi (zO i)) (zP 0) qd (zR (mQ yY (zV zt)))) ρ A=.ok (.int (qa t-1)) A:=by
 have n8:=h.n8;have e:=Z3 (cap:=[]) (A:=A) (ρ:=ρ) (o:=t) (f:=zj) (m:=zO i) (me:=mQ yY (zV zt)) (G:=λr=>.int (kJ r)) (zo a) (by unfold qf;omega) (λr H=>(jS (yE (w:=zj r) (ws:=r.map W.int) (A1:=A) (zo rfl) rfl)).trans (Pb (h.row_ne H)))
 have em:(t.map λr=>W.int (kJ r))=(t.map kJ).map W.int:=by rw[aR];rfl
 rw[em]at e;refine((jS e).trans (Pb h.map_ne)).trans ?_
 have:qa t-1=kJ (t.map kJ):=by unfold qa;omega
 rw[this]
def Z7 (h:qc t)(A:Hx):wN [zm t] A=.ok (.int (qa t)) A:=by
 refine yb (A1:=[]) (kj t) rfl (qQ ?_);unfold Tb;refine qy (qX ((zN (Dg h rfl) qw).trans ?_));show R.ok (W.int (qa t-1+1)) []=_
 congr 2
 omega
def len_tab (h:ρ[i]? =some (some (zm t))):mQ qm (zV (zO i)) ρ A=.ok (.int (t.length:Int)) A:=by
 have:=AD (ws:=t.map zj) (A:=A) h
 rw[ae]at this;exact this
variable {N:Nat}
def DH {g:Nat->Int}{k:Int}(h:b<N):((List.range N).map λj=>W.int (g j)).set b (.int k)=(List.range N).map λj=>W.int (if j=b then k else g j):=by
 apply List.ext_getElem?
 intro i
 by_cases hi:i<N
 ·by_cases q:b=i
  ·subst q
   rw[aC (by simpa using hi),ak,aM hi]
   simp
  ·rw[aF q,ak,ak,aM hi]
   simp[Ne.symm q]
 ·rw[au (by simp;omega),au (by simp;omega)]
end
structure LC (K:Nat)(μ:Nat->Nat->Int)(C:Hx):Prop where
 top:C[2 * K]? =some (.lst ((List.range K).map λi=>W.ref (2 * i+1)))
 row:∀i,i<K->C[2 * i+1]? =some (.lst ((List.range K).map λj=>W.int (μ i j)))
section
variable {K a b j:Nat}{μ:Nat->Nat->Int}{C:Hx}
def LC.put (h:LC K μ C)(f:i<K)(e:j<K)(k:Int):∃b,k6 (.ref (2 * i+1)) (.int (j:Int)) (.int k) C=.ok () b/\LC K (Qs μ i j k) b:=by
 have r:=h.row i f;have H:=wQ r;refine⟨_,EZ r (by simp;omega),?_,λc d=>?_⟩
 ·rw[aF (by omega)];exact h.top
 ·by_cases q:c=i
  ·subst q
   rw[aC H,DH e]
   congr 3
   funext a
   unfold Qs
   by_cases z:a=j
   ·rw[ag z,ag ⟨rfl,z⟩]
   ·rw[aj z,aj (by rintro⟨_,w⟩;exact z w)]
  ·rw[aF (by omega),h.row c d]
   congr 3
   funext a
   unfold Qs;rw[aj (by rintro⟨w,_⟩;exact q w)]
def LC.aug (h:LC K μ C){mo mi:Ev}(o:mo ρ C=.ok (.ref (2 * i+1)) C)(b:mi ρ C=.ok (.int (j:Int)) C)(a:i<K)(H:j<K):∃c,Yw mo mi jj ρ C=.ok (.nx ρ) c/\LC K (Qs μ i j (μ i j+1)) c:=by
 obtain⟨c,e,l⟩:=h.put a H (μ i j+1);refine⟨c,?_,l⟩;unfold Yw;rw[o,zS,b,zS];dsimp only;rw[ag (by omega),h.row i a]
 dsimp only;rw[aB,ak,aM H];show R.bind (k6 (.ref (2 * i+1)) (.int (j:Int)) (.int (μ i j+1)) C) _=_;rw[e,zS]
def LC.ix (h:LC K μ C){mi:Ev}(hm:m ρ C=.ok (.ref (2 * K)) C)(H:mi ρ C=.ok (.int (i:Int)) C)(a:i<K):zi zI m mi ρ C=.ok (.ref (2 * i+1)) C:=
 (zN hm H).trans (Z6 h.top (by rw[ak,aM a];rfl))
def rep1 (w:W):∀n:Nat,(List.replicate n [w]).flatten=(List.range n).map λ_=>w:=λn=>by
 rw[map_const',ar]
 induction n with
 |zero=>rfl|succ n i=>rw[a8,a6,i];rfl
def FN (n:K<=8){x0 x1 x2 x4:Option W}{l:List (Option W)}:∃C,jk (zT 1 [3] (jL qe) (zP 0) qd (zR (zi zZ (js (zh qx zr)) zw))) (x0::x1::x2::some (.int (K:Int))::x4::l) []=.ok (.ref (2 * K)) C/\LC K (λ_ _=>0) C:=by
 have hm:=Z2 (m:=zO 3) (ρ:=x0::x1::x2::some (.int (K:Int))::x4::l) (A:=[]) (k:=(K:Int)) rfl (gF (by omega))
 rw[aB]at hm;obtain⟨g,acc,B,e,_,H,h⟩:=JY (nl:=1) (cap:=[3]) (tw:=zP 0) (ifs:=z7 (.bl true)) (em:=zR (zi zZ (js (zh qx zr)) zw)) (N:=K)
  (I:=λi ρ acc B=>(∃y,ρ=[y,some (.int (K:Int))])/\(B.length=2 * i/\∀c,c<i->B[2 * c+1]? =some (.lst ((List.range K).map λj=>W.int 0)))/\acc=(List.range i).map λc=>W.ref (2 * c+1)) hm rfl
  (λi ρ acc B b ⟨⟨y,a⟩,⟨d,H⟩,h⟩=>by
   subst a h;refine⟨_,_,Qc b,rfl,.inl ⟨B,_,_,B++[.lst [.int 0]]++[.lst ((List.range K).map λj=>W.int 0)],rfl,J8 (y:=.ref (2 * i+1)) ?_ (by rw[ae,ar];unfold qf;omega),⟨_,rfl⟩,⟨by simp;omega,λc f=>?_⟩,by rw[bc,aP];rfl⟩⟩
   ·refine(zN (kC (zy qw zM)) (zo (i:=1) (w:=.int (K:Int)) rfl)).trans ?_
    unfold zZ;dsimp only;rw[kh];dsimp only;rw[ag (by rw[gF (by omega),aB];simp;unfold qf;omega),aB,aE,d,rep1]
    rfl
   ·by_cases q:c=i
    ·subst q
     rw[ax (by simp;omega)]
     simp[d]
    ·rw[ah (by simp;omega),ah (by omega)]
     exact H c (by omega))
  (λρ acc B _=>Z8 (by omega)) ⟨⟨none,rfl⟩,⟨rfl,λc f=>absurd f (Nat.not_lt_zero _)⟩,rfl⟩
 subst h;refine⟨B++[.lst ((List.range K).map λc=>W.ref (2 * c+1))],?_,?_,λi b=>?_⟩
 ·rw[kR e,H.1]
 ·rw[<- H.1];exact kh
 ·exact yF (H.2 i b)
def F9 {k:Nat}(h:m ρ A=.ok (.ref k) A)(a:A[k]? =some (.lst ws))(l:ws.length<=qf){g:W->W}(he:∀w∈ws,me (some w::cap.map λi=>(ρ[i]?).join) A=.ok (g w) A):
  zT 1 cap (qi m) (zP 0) qd (zR me) ρ A=.ok (ws.map g) A:=by
 have e:=gE (cap:=cap) (me:=me) (ρ:=ρ) (A:=A) (N:=ws.length) (item:=λi=>ws.getD i .non) (g:=λi=>g (ws.getD i .non)) (Zm h a) rfl l
  (λi H=>(kD a).trans (by rw[ab H,aa,ab H];rfl))
  ((kD a).trans (by rw[au (ao _)]))
  (λi H=>by
   have:ws.getD i .non=ws[i]:=by rw[aa,ab H];rfl
   rw[this];exact he _ (aG H))
 rw[e]
 congr 1
 apply bq
 ·simp
 ·intro i c b
  have H:i<ws.length:=by simpa using b
  simp[aa,ab H]
theorem LC.tup (h:LC K μ C)(d:K<=8){i:Nat}(b:ρ[i]? =some (some (.ref (2 * K)))):mQ qU (zT 1 [] (qi (zO i)) (zP 0) qd (zR (mQ qU (zV zt)))) ρ C=.ok (zm (jN K μ)) C:=by
 have e:=F9 (cap:=[]) (ws:=(List.range K).map λi=>W.ref (2 * i+1)) (me:=mQ qU (zV zt)) (zo b) h.top (by simp;unfold qf;omega) (g:=λw=>match w with|.ref n=>(match C[n]? with|some (.lst ws)=>.tup ws|_=>.non)|_=>.non) (λw hw=>by
  obtain⟨c,a,rfl⟩:=bZ.mp hw;have H:=h.row c (bX.mp a);dsimp only;rw[H];exact wt (yE (w:=.ref (2 * c+1)) (A1:=C) (zo rfl) (by unfold zW;dsimp only;rw[H])))
 rw[wt e]
 congr 1
 unfold zm jN;rw[aR,aR]
 congr 1
 refine bt λc a=>?_;have H:=h.row c (bX.mp a);show(match C[2 * c+1]? with|some (.lst ws)=>W.tup ws|_=>.non)=zj ((List.range K).map (μ c))
 rw[H];unfold zj;rw[aR]
 rfl
def shr (t:bE)(a b:Nat):Nat->Nat->Nat->Int
 |0=>λ_ _=>0|n+1=>Qs (shr t a b n) (at2 t a n).toNat (at2 t b n).toNat (shr t a b n (at2 t a n).toNat (at2 t b n).toNat+1)
def qW (t:bE)(K a b:Nat):bE:=jN K (shr t a b t.length)
def Zr (ht:qc t)(c:qa t=(K:Int))(H:a<t.length)(h:b<t.length):((at2 t a b).toNat:Int)=at2 t a b/\(at2 t a b).toNat<K:=by
 have e:=Jh ht H h;have d:=Q6 ht H h;omega
def G9 (ht:qc t)(f:qa t=(K:Int))(c:a<t.length)(H:b<t.length)(A:Hx):wL [zm t,.int (a:Int),.int (b:Int)] A=.ok (zm (qW t K a b)) A:=by
 have n8:=ht.n8;have u:=yP ht;have d:((t.getD a []).map W.int).length=t.length:=by rw[ae,ht.sq _ (yN c)]
 have p:((t.getD b []).map W.int).length=t.length:=by rw[ae,ht.sq _ (yN H)]
 obtain⟨C,r,L⟩:=FN (K:=K) (by omega) (x0:=some (zm t)) (x1:=some (.int (a:Int))) (x2:=some (.int (b:Int))) (x4:=none) (l:=[none,none])
 obtain⟨g,B,E,l2,Y,y,h⟩:=Zl (j:=yH (.tup ((t.getD a []).map W.int)) (.tup ((t.getD b []).map W.int)) ((t.getD a []).map W.int).length) (st:=turn (qG 5 6) (zq (Yw (zi zI qH jz) yD jj) zA)) (N:=t.length)
  (I:=λn ρ B=>LC K (shr t a b n) B/\∃Y y,ρ=[some (zm t),some (.int (a:Int)),some (.int (b:Int)),some (.int (K:Int)),some (.ref (2 * K)),Y,y])
  (λn ρ B hn ⟨l,Y,y,h⟩=>by
   subst h;obtain⟨m,q⟩:=Zr ht f c hn;obtain⟨i,Q⟩:=Zr ht f H hn;obtain⟨s,e,o⟩:=l.aug (ρ:=[some (zm t),some (.int (a:Int)),some (.int (b:Int)),some (.int (K:Int)),some (.ref (2 * K)),some (.int (at2 t a n)),some (.int (at2 t b n))]) (mo:=zi zI qH jz) (mi:=zO 6) (l.ix (zo rfl) (zo (by rw[m];rfl)) q) (zo (by rw[i];rfl)) q Q
   refine⟨.tup [.int (at2 t a n),.int (at2 t b n)],_,s,?_,(kq rfl).trans ((zK e).trans jf),o,_,_,rfl⟩;show some (zip2 ((t.getD a []).map W.int)[n]? ((t.getD b []).map W.int)[n]?)=_;rw[int_at (by rw[ht.sq _ (yN c)];exact hn),int_at (by rw[ht.sq _ (yN H)];exact hn)]
   rfl)
  (λρ B _=>by
   show some (zip2 ((t.getD a []).map W.int)[t.length]? ((t.getD b []).map W.int)[t.length]?)=_;rw[au (by omega),au (by omega)]
   rfl) t.length 0 [some (zm t),some (.int (a:Int)),some (.int (b:Int)),some (.int (K:Int)),some (.ref (2 * K)),none,none] C (by omega) ⟨L,_,_,rfl⟩
 subst h;refine yb (A1:=B) (kj t) (j3 _) (qQ ?_);unfold Us;refine(zK (qK ((zQ (zy (zo rfl) zM)).trans ((Z7 ht []).trans (by rw[f]))))).trans ?_
 refine(zK (qK r)).trans ?_;refine(zK (ρ1:=[some (zm t),some (.int (a:Int)),some (.int (b:Int)),some (.int (K:Int)),some (.ref (2 * K)),Y,y]) (A1:=B) ((yM (J6 ((zN (zo rfl) (zo rfl)).trans (Qg c)) ((zN (zo rfl) (zo rfl)).trans (Qg H)))).trans ?_)).trans (qy (qX (l2.tup (by omega) rfl)))
 have:(yH (.tup ((t.getD a []).map W.int)) (.tup ((t.getD b []).map W.int)) ((t.getD a []).map W.int).length).len=t.length:=d
 rw[this];exact E
variable {w:W}
def E8 {a:En}{w:W}(h:m ρ A=.ok w A1)(h':tw w ρ=some a):WG m tw ρ A=.ok (.nx a) A1:=by
 unfold WG;rw[h,zS,h']
end
def wD (t:bE)(a b:Nat):List (Int×Int):=(List.range t.length).map λc=>(at2 t a c,at2 t b c)
def ja (t:bE):Prop:=∀a b c e,a<t.length->b<t.length->c<t.length->e<t.length->at2 t a b=at2 t c e->(wD t a b).Perm (wD t c e)
def gv (t:bE)(k:Int):Nat:=((List.range (t.length * t.length)).find? λm=>decide (at2 t (m/t.length) (m%t.length)=k)).getD 0
def XB (t:bE):Bool:=(List.range t.length).all λa=>(List.range t.length).all λb=>let m:=gv t (at2 t a b);(wD t a b).isPerm (wD t (m/t.length) (m%t.length))
def II (h:XB t=true):ja t:=λa b c e l j i he g=>by
 unfold XB at h;rw[ba]at h;have f:=h a (bX.mpr l);rw[ba]at f;have m:=List.isPerm_iff.mp (f b (bX.mpr j));have d:=h c (bX.mpr i);rw[ba]at d;have H:=List.isPerm_iff.mp (d e (bX.mpr he));rw[<- g]at H;exact m.trans H.symm
def R8 {p:bJ}(b:p.Nodup){u v:Nat}(H:u<=p.length)(h:v<=p.length)(e:(je p).getD u 0=(je p).getD v 0):u=v:=by
 by_cases h1:u=0
 ·by_cases a:v=0
  ·omega
  ·exfalso
   subst h1;rw[Zn (v:=v) (by omega) h]at e
   have:(je p).getD 0 0=0:=rfl
   omega
 ·by_cases a:v=0
  ·exfalso
   subst a;rw[Zn (v:=u) (by omega) H]at e
   have:(je p).getD 0 0=0:=rfl
   omega
  ·rw[Zn (by omega) H,Zn (by omega) h]at e
   have E:p[u-1]'(by omega)=p[v-1]'(by omega):=by omega
   have:=(getElem_inj b).mp E
   omega
section
variable {p o:bJ}
def Rp (H:o.Perm (List.range t.length)){a b:Nat}(d:a<t.length)(c:b<t.length):at2 (yX t p o) a b=(je p).getD (at2 t (o.getD a 0) (o.getD b 0)).toNat 0:=by
 have h:o.length=t.length:=by rw[H.length_eq,ar]
 unfold at2 yX;rw[aa (l:=List.map _ o),ak,ab (by omega)]
 show(List.map _ o).getD b 0=_;rw[aa,ak,ab (by omega)]
 show(je p).getD (at2 t _ _).toNat 0=_;unfold at2;rw[aa (l:=o) (i:=a),ab (by omega),aa (l:=o) (i:=b),ab (by omega)]
 rfl
def HK {u v:bE}{f:Int->Int}(n:u.length=v.length)(m:o.Perm (List.range v.length))(j:∀a b,a<v.length->b<v.length->at2 u a b=f (at2 v (o.getD a 0) (o.getD b 0)))
  (hf:∀a b c e,a<v.length->b<v.length->c<v.length->e<v.length->f (at2 v a b)=f (at2 v c e)->at2 v a b=at2 v c e)(s:ja v):ja u:=by
 have l:o.length=v.length:=by rw[m.length_eq,ar]
 have h:∀i,i<v.length->o.getD i 0<v.length:=λi t=>by
  rw[aa,ab (by omega)]
  exact bX.mp (m.mem_iff.mp (aG _))
 have r:∀a b,a<v.length->b<v.length->(wD u a b).Perm ((wD v (o.getD a 0) (o.getD b 0)).map λq=>(f q.1,f q.2)):=λa b g d=>by
  unfold wD;rw[n,aR];have p:(List.range v.length).map (λc=>(at2 u a c,at2 u b c))=(List.range v.length).map λc=>(f (at2 v (o.getD a 0) (o.getD c 0)),f (at2 v (o.getD b 0) (o.getD c 0))):=bt λc H=>by
   rw[j a c g (bX.mp H),j b c d (bX.mp H)]
  rw[p];have E:=QH o 0 λc=>(f (at2 v (o.getD a 0) c),f (at2 v (o.getD b 0) c));rw[l]at E;rw[<- E];exact m.map _
 intro a b c e g d H he q;rw[n]at g d H he;rw[j a b g d,j c e H he]at q
 have:=s _ _ _ _ (h a g) (h b d) (h c H) (h e he) (hf _ _ _ _ (h a g) (h b d) (h c H) (h e he) q)
 exact(r a b g d).trans ((this.map _).trans (r c e H he).symm)
def LP (h:qc t)(g:p.Perm (List.range (qa t-1).toNat))(i:o.Perm (List.range t.length))(s:ja t):ja (yX t p o):=by
 have l:p.length=(qa t-1).toNat:=by rw[g.length_eq,ar]
 have r:=yP h;have n:p.Nodup:=(g.nodup_iff).mpr bB;have j:∀a b,a<t.length->b<t.length->(at2 t a b).toNat<=p.length/\((at2 t a b).toNat:Int)=at2 t a b:=λa b d H=>by
  have:=Jh h d H
  have:=Q6 h d H
  omega
 refine HK (f:=λv=>(je p).getD v.toNat 0) (Sw h g i).2 i (λa b d H=>Rp i d H) (λa b c e d H m he q=>?_) s;have k1:=j _ _ d H;have K:=j _ _ m he
 have:=R8 n k1.1 K.1 q
 omega
variable {a b c e K:Nat}
theorem QQ (ht:qc t)(H:a<t.length)(h:b<t.length):∀n,n<=t.length->∀i j:Nat,shr t a b n i j=((((List.range n).map λc=>(at2 t a c,at2 t b c)).count ((i:Int),(j:Int)):Nat):Int)
 |0,_,i,j=>rfl|n+1,hn,i,j=>by
  have I:=QQ ht H h n (by omega)
  have k1:=(Jh ht H (show n<t.length by omega)).1
  have K:=(Jh ht h (show n<t.length by omega)).1
  rw[bc,aP,List.count_append,List.map_singleton,List.count_singleton];show Qs (shr t a b n) (at2 t a n).toNat (at2 t b n).toNat (shr t a b n (at2 t a n).toNat (at2 t b n).toNat+1) i j=_;unfold Qs
  by_cases q:i=(at2 t a n).toNat/\j=(at2 t b n).toNat
  ·rw[ag q,<- q.1,<- q.2,I,ag (by rw[aU];ext<;>simp<;>omega)]
   omega
  ·rw[aj q,I,aj (by
    rw[aU];intro z;injection z with d Z
    exact q ⟨by omega,by omega⟩)]
   omega
def Rv (ht:qc t)(s:ja t)(d:a<t.length)(H:b<t.length)(h:c<t.length)(he:e<t.length)(q:at2 t a b=at2 t c e):qW t K a b=qW t K c e:=by
 unfold qW jN;refine bt λi _=>bt λj _=>?_;rw[QQ ht d H _ (ao _),QQ ht h he _ (ao _)]
 have:=(s a b c e d H h he q).count_eq ((i:Int),(j:Int))
 unfold wD at this;rw[this]
end
def J0 {st:W->Ex}{N:Nat}{I:Nat->En->Hx->Prop}{Q:W->Hx->Prop}
  (p:∀i ρ A,i<N->I i ρ A->∃w,j.at_ A i=some (some w)/\((∃ρ1 A1,st w ρ A=.ok (.nx ρ1) A1/\I (i+1) ρ1 A1)∨∃r A1,st w ρ A=.ok (.rt r) A1/\Q r A1))(d:∀ρ A,I N ρ A->j.at_ A N=some none):
  ∀(f i:Nat)(ρ:En)(A:Hx),i+f=N->I i ρ A->(∃a b,jT j st f i ρ A=.ok (.nx a) b/\I N a b)∨∃r b,jT j st f i ρ A=.ok (.rt r) b/\Q r b:=by
 intro f
 induction f with
 |zero=>
  intro i ρ A h c
  have:i=N:=by omega
  subst this;exact .inl ⟨ρ,A,GW (d _ _ c),c⟩
 |succ f m=>
  intro i ρ A h c;obtain⟨w,l,H|H⟩:=p i ρ A (by omega) c
  ·obtain⟨ρ1,A1,H,g⟩:=H
   rcases m (i+1) ρ1 A1 (by omega) g with ⟨a,b,e,q⟩|⟨r,b,e,q⟩
   ·exact .inl ⟨a,b,(Ko l H).trans e,q⟩
   ·exact .inr ⟨r,b,(Ko l H).trans e,q⟩
  ·obtain⟨r,A1,H,g⟩:=H
   refine .inr ⟨r,A1,?_,g⟩;unfold jT;rw[l];dsimp only;rw[H]
   rfl
noncomputable def ZE (r:bF):PyData:=.tuple (r.map .int)
def Vk (t:bE):PyData:=.tuple (t.map ZE)
theorem Kv {f:W->Option PyData}{g:α->W}{h:α->PyData}(e:∀a,f (g a)=some (h a)):∀l:List α,yo f (l.map g)=some (l.map h)
 |[]=>rfl|a::l=>by
  rw[aS,yo,e a,Kv e l]
  rfl
def Xm (A:Hx)(n:Nat)(r:bF):qO A (n+1) (zj r)=some (ZE r):=by
 show(yo (qO A n) (r.map W.int)).map PyData.tuple=_;rw[Kv (h:=PyData.int) (λi=>by cases n<;>rfl)]
 rfl
def R6 (A:Hx)(n:Nat)(t:bE):qO A (n+2) (zm t)=some (Vk t):=by
 show(yo (qO A (n+1)) (t.map zj)).map PyData.tuple=_;rw[Kv (h:=ZE) (Xm A n)]
 rfl
section
variable {k:Nat}{w:W}{kvs:List (Key×W)}
theorem RI {k:Key}{w:W}:∀{kvs:List (Key×W)},yw k kvs=some w->(k,w)∈kvs
 |[],h=>by cases h|(j,u)::r,h=>by
  have h:(if j=k then some u else yw k r)=some w:=h
  by_cases q:j=k
  ·rw[ag q]at h;cases h;subst q;exact aK ..
  ·rw[aj q]at h;exact aL _ (RI h)
def Px {f:Fn}{k:Nat}(hn:qI us=true)(h:f us []=.ok (.ref k) A1)(H:A1[k]? =some (.dct kvs))(hw:qI (kvs.map (·.2))=true):iso f us A=.ok (.ref A.length) (A++[.dct kvs]):=by
 unfold iso;rw[ag hn,h];dsimp only;rw[H];dsimp only;rw[ag hw]
end
theorem T7:∀s t:bE,PyData.eqvAll (s.map ZE) (t.map ZE)=decide (s=t)
 |[],[]=>by simp[PyData.eqvAll]|[],_::_=>by simp[PyData.eqvAll]|_::_,[]=>by simp[PyData.eqvAll]|a::l,b::m=>by
  simp only[aS,PyData.eqvAll,T7 l m,ZE,PyData.eqv,Kg];rw[Bool.eq_iff_iff];simp
def c7 (s t:bE)(A:Hx):qZ (zm s) (zm t) A=.ok (.bl (!decide (s=t))) A:=by
 show kL true _ _ A=_;unfold kL;rw[R6 A 6 s,R6 A 6 t];dsimp only;rw[ag rfl,Vk,Vk,PyData.eqv,T7]
def VH (r s:bF)(A:Hx):jn (zj r) (zj s) A=.ok (.bl (decide (r=s))) A:=by
 show kL false _ _ A=_;unfold kL;rw[Xm A 7 r,Xm A 7 s];dsimp only;rw[ZE,ZE,PyData.eqv,Kg]
 rfl
noncomputable def O8 (a b c e:Nat):W:=.tup [.int (a:Int),.int (b:Int),.int (c:Int),.int (e:Int)]
noncomputable def pre (n a b:Nat):List (Nat×Nat):=((List.range a).flatMap λx=>(List.range n).map λy=>(x,y))++(List.range b).map λy=>(a,y)
def yC (n:Nat):List (Nat×Nat):=pre n n 0
section
variable {a b c e:Nat}
def X3:pre n a (b+1)=pre n a b++[(a,b)]:=by
 unfold pre;rw[bc,aP,<- aQ]
 rfl
def Wh:pre n a n=pre n (a+1) 0:=by
 unfold pre;rw[bc,a9];simp
def EF {x y:Nat}:(x,y)∈pre n a b↔(x<a/\y<n)∨(x=a/\y<b):=by
 unfold pre;rw[List.mem_append,List.mem_flatMap]
 constructor
 ·rintro(⟨z,h1,d⟩|h)
  ·obtain⟨u,c,H⟩:=bZ.mp d
   cases H;exact .inl ⟨bX.mp h1,bX.mp c⟩
  ·obtain⟨u,c,H⟩:=bZ.mp h
   cases H;exact .inr ⟨rfl,bX.mp c⟩
 ·rintro(⟨h1,d⟩|⟨rfl,h⟩)
  ·exact .inl ⟨x,bX.mpr h1,bZ.mpr ⟨y,bX.mpr d,rfl⟩⟩
  ·exact .inr (bZ.mpr ⟨y,bX.mpr h,rfl⟩)
def Z4 {x y:Nat}:(x,y)∈yC n↔x<n/\y<n:=by
 unfold yC;rw[EF];omega
def BH (h:a<=n):∃r,yC n=pre n a 0++r:=by
 obtain⟨d,rfl⟩:∃d,n=a+d:=⟨n-a,by omega⟩
 have:∀d m,∃r,pre m (a+d) 0=pre m a 0++r:=by
  intro d
  induction d with
  |zero=>intro m;exact⟨[],by simp⟩|succ d i=>
   intro m;obtain⟨r,H⟩:=i m;refine⟨r++(List.range m).map λy=>(a+d,y),?_⟩;rw[<- Nat.add_assoc,<- Wh,<- aQ,<- H];unfold pre;simp
 exact this d _
def Ag (h:a<n)(H:b<=n):∃r,pre n (a+1) 0=pre n a b++r:=by
 rw[<- Wh];obtain⟨d,rfl⟩:∃d,n=b+d:=⟨n-b,by omega⟩
 refine⟨(List.range d).map λy=>(a,b+y),?_⟩;unfold pre;rw[List.range_add,aP,aQ,aR];simp
def pre_split (h:c<n)(he:e<n):∃r,yC n=pre n c e++(c,e)::r:=by
 obtain⟨f,g⟩:=BH (n:=n) (a:=c+1) h;obtain⟨d,H⟩:=Ag (n:=n) (a:=c) (b:=e+1) h he;exact⟨d++f,by rw[g,H,X3];simp⟩
def D2:(pre n a b).length=a * n+b:=by
 unfold pre;rw[aE,ae,ar,List.length_flatMap]
 congr 1
 rw[bt (g:=λ_=>n) (λx _=>by rw[ae,ar])]
 rw[map_const',List.sum_replicate_nat,ar]
variable {w:W}{acc L:List (Nat×Nat)}{p q:Nat×Nat}
abbrev jA (t:bE)(p:Nat×Nat):Int:=at2 t p.1 p.2
def gY (t:bE)(acc:List (Nat×Nat))(p:Nat×Nat):List (Nat×Nat):=if acc.any (λq=>decide (jA t q=jA t p)) then acc else acc++[p]
def jV (t:bE)(L:List (Nat×Nat)):List (Nat×Nat):=L.foldl (gY t) []
def Yi:jV t (L++[p])=gY t (jV t L) p:=by
 unfold jV;rw[List.foldl_append]
 rfl
def snoc_ind {P:List α->Prop}(h0:P [])(h:∀l a,P l->P (l++[a])):∀l,P l:=λl=>by
 have:∀l:List α,P l.reverse:=λl=>by
  induction l with
  |nil=>exact h0|cons a l i=>rw[List.reverse_cons];exact h _ _ i
 have:=this l.reverse
 rwa[List.reverse_reverse]at this
def Ej:(jV t L).length<=L.length:=by
 refine snoc_ind (P:=λL=>(jV t L).length<=L.length) (ao _) (λl p i=>?_) L;rw[Yi,aE,aZ];unfold gY
 split
 ·omega
 ·rw[aE,aZ];omega
def Xh:∀p∈jV t L,p∈L:=by
 refine snoc_ind (P:=λL=>∀p∈jV t L,p∈L) (λ_ h=>h) (λl p i=>?_) L;intro q H;rw[Yi]at H;unfold gY at H
 split at H
 ·exact a0 _ (i q H)
 ·rcases List.mem_append.mp H with h|h
  ·exact a0 _ (i q h)
  ·exact aN _ h
def FH:∀p∈L,∃q∈jV t L,jA t q=jA t p:=by
 refine snoc_ind (P:=λL=>∀p∈L,∃q∈jV t L,jA t q=jA t p) (λ_ h=>by cases h) (λl p i=>?_) L
 intro q b;rw[Yi];unfold gY;rcases List.mem_append.mp b with h|h
 ·obtain⟨r,a,H⟩:=i q h
  split
  ·exact⟨r,a,H⟩
  ·exact⟨r,a0 _ a,H⟩
 ·rw[b1.mp h]
  split
  ·rename_i c
   obtain⟨r,a,H⟩:=List.any_eq_true.mp c;exact⟨r,a,of_decide_eq_true H⟩
  ·exact⟨p,aN _ (b1.mpr rfl),rfl⟩
def De {γ:Type}{f:Nat×Nat->List γ}:(∀p∈L,∀q∈L,jA t p=jA t q->f p=[]->f q=[])->((jV t L).flatMap f).head? =(L.flatMap f).head?:=by
 refine snoc_ind (P:=λL=>(∀p∈L,∀q∈L,jA t p=jA t q->f p=[]->f q=[])->((jV t L).flatMap f).head? =(L.flatMap f).head?) (λ_=>rfl) (λl p i hf=>?_) L;have i:=i λx b y a=>hf x (a0 _ b) y (a0 _ a);rw[Yi,a9,head?_append,<- i];unfold gY
 split
 ·rename_i c
  obtain⟨r,H,d⟩:=List.any_eq_true.mp c;cases h:((jV t l).flatMap f).head? with
  |some x=>rfl|none=>
   rw[List.head?_eq_none_iff,List.flatMap_eq_nil_iff]at h
   have:=hf r (a0 _ (Xh r H)) p (aN _ (b1.mpr rfl)) (of_decide_eq_true d) (h r H)
   simp[this]
 ·rw[a9,head?_append]
def jO (t:bE)(p:Nat×Nat):Key×W:=(.inl (jA t p),.tup [.int (p.1:Int),.int (p.2:Int)])
theorem Xu {v:Int}:∀acc:List (Nat×Nat),(yw (.inl v) (acc.map (jO t))).isSome=acc.any λq=>decide (jA t q=v)
 |[]=>rfl|q::l=>by
  show(if (Sum.inl (jA t q):Key)=.inl v then some _ else yw (.inl v) (l.map (jO t))).isSome=(decide (jA t q=v) || l.any λq=>decide (jA t q=v))
  by_cases h:jA t q=v
  ·rw[ag (by rw[h]),aw h];rfl
  ·rw[aj (λe=>h (by injection e)),aJ h,Xu l,Bool.false_or]
def HY {x3:Option W}(H:acc.length<1000):
  ∃w,Jc gI zw jz (yk (zh zF (zh qH zr))) [some (zm t),some (.ref 0),some (.int (a:Int)),x3,some (.int (b:Int)),some (.int (at2 t a b))] [.dct (acc.map (jO t))]=.ok w [.dct ((gY t acc (a,b)).map (jO t))]:=by
 have E:Jc gI zw jz (yk (zh zF (zh qH zr))) [some (zm t),some (.ref 0),some (.int (a:Int)),x3,some (.int (b:Int)),some (.int (at2 t a b))] [.dct (acc.map (jO t))]=gI (.ref 0) (.int (at2 t a b)) (.tup [.int (a:Int),.int (b:Int)]) [.dct (acc.map (jO t))]:=rfl;rw[E];unfold gI;show ∃w,(if (acc.map (jO t)).length<qf then(match yw (.inl (at2 t a b)) (acc.map (jO t)) with|some w=>R.ok w [.dct (acc.map (jO t))]|none=>.ok (.tup [.int (a:Int),.int (b:Int)]) [O.dct (acc.map (jO t)++[((Sum.inl (at2 t a b):Key),W.tup [.int (a:Int),.int (b:Int)])])]) else .bad)=.ok w [.dct ((gY t acc (a,b)).map (jO t))]
 rw[ag (by rw[ae];unfold qf;omega)]
 have h:=Xu (t:=t) (v:=at2 t a b) acc;unfold gY;cases e:yw (.inl (at2 t a b)) (acc.map (jO t)) with
 |some w=>
  rw[e]at h;rw[ag (show(acc.any λq=>decide (jA t q=jA t (a,b)))=true from h.symm)]
  exact⟨w,rfl⟩
 |none=>
  rw[e]at h;rw[aj (show ¬(acc.any λq=>decide (jA t q=jA t (a,b)))=true from λz=>by have z:=h.trans z;cases z)]
  exact⟨_,by rw[aP];rfl⟩
def R1 (ht:qc t):GB [zm t] []=.ok (.ref 0) [.dct ((jV t (yC t.length)).map (jO t))]:=by
 have n8:=ht.n8;have c:(t.map zj).length=t.length:=ae ..;have p:∀a b,a<t.length->b<t.length->(jV t (pre t.length a b)).length<1000:=λa b f r=>by
  have s:=Ej (t:=t) (L:=pre t.length a b);rw[D2]at s
  have:a * t.length<=8 * 8:=mul_le_mul (by omega) n8
  omega
 obtain⟨g,B,e,H,o,n,Y,y,h⟩:=Zl (j:=yj (zm t) t.length) (st:=turn (qG 2 3) (zq (jm (yG qe) (qG 4 5) (zq (jd (Jc gI zw jz (yk (zh zF (zh qH zr))))) zA)) zA)) (N:=t.length)
  (I:=λa ρ B=>B=[.dct ((jV t (pre t.length a 0)).map (jO t))]/\∃o n Y y,ρ=[some (zm t),some (.ref 0),o,n,Y,y])
  (λa ρ B f ⟨H,o,n,Y,y,h⟩=>by
   subst H h;have q:=ht.sq _ (yN f);have d:((t.getD a []).map W.int).length=t.length:=by rw[ae,q]
   obtain⟨g,B,e,H,l,i,h⟩:=Zl (j:=yj (.tup ((t.getD a []).map W.int)) ((t.getD a []).map W.int).length) (st:=turn (qG 4 5) (zq (jd (Jc gI zw jz (yk (zh zF (zh qH zr))))) zA)) (N:=t.length)
    (I:=λb ρ B=>B=[.dct ((jV t (pre t.length a b)).map (jO t))]/\∃Y y,ρ=[some (zm t),some (.ref 0),some (.int (a:Int)),some (zj (t.getD a [])),Y,y])
    (λb ρ B r ⟨H,Y,y,h⟩=>by
     subst H h;obtain⟨w,e⟩:=HY (a:=a) (b:=b) (x3:=some (zj (t.getD a []))) (p a b f r);rw[<- Yi,<- X3]at e;exact⟨_,_,_,Jg (int_at (by omega)),(kq rfl).trans ((zK (yh e)).trans jf),rfl,_,_,rfl⟩)
    (λρ B _=>by have:=Q7 (A:=B) (ws:=(t.getD a []).map W.int);rw[d]at this ⊢;exact this) t.length 0 [some (zm t),some (.ref 0),some (.int (a:Int)),some (zj (t.getD a [])),Y,y] _ (by omega) ⟨rfl,_,_,rfl⟩
   rw[Wh]at H;subst H h;refine⟨.tup [.int (a:Int),zj (t.getD a [])],[some (zm t),some (.ref 0),some (.int (a:Int)),some (zj (t.getD a [])),l,i],_,?_,(kq (ρ1:=[some (zm t),some (.ref 0),some (.int (a:Int)),some (zj (t.getD a [])),Y,y]) rfl).trans ((zK ((yM (QS (zo rfl))).trans ?_)).trans jf),rfl,_,_,_,_,rfl⟩
   ·have:=Jg (A:=[O.dct ((jV t (pre t.length a 0)).map (jO t))]) (gP f)
    rw[c]at this;exact this
   ·have:(yj (.tup ((t.getD a []).map W.int)) ((t.getD a []).map W.int).length).len=t.length:=d
    rw[this];exact e)
  (λρ B _=>by have:=Q7 (A:=B) (ws:=t.map zj);rw[c]at this;exact this) t.length 0 [some (zm t),some (.ref 0),none,none,none,none] [.dct []] (by omega)
  ⟨rfl,_,_,_,_,rfl⟩
 subst H h;refine qQ ?_;unfold UL;refine(zK (qK (w:=.ref 0) (A1:=[.dct []]) rfl)).trans ?_;have hm:yG zt [some (zm t),some (.ref 0),none,none,none,none] [.dct []]=.ok (yj (zm t) t.length) [.dct []]:=by
  have:=QS (m:=zO 0) (ρ:=[some (zm t),some (.ref 0),none,none,none,none]) (A:=[.dct []]) (A1:=[.dct []]) (ws:=t.map zj) (zo rfl)
  rw[c]at this;exact this
 exact(zK ((yM hm).trans e)).trans (qy (qX (zo rfl)))
def X4:qI ((acc.map (jO t)).map (·.2))=true:=by
 induction acc with
 |nil=>rfl|cons p l i=>exact i
end
noncomputable abbrev B4:=(Nat×Nat)×(Nat×Nat)
section
variable {B:Hx}{a b c e K:Nat}{p q r:Nat×Nat}
abbrev Jy (t:bE)(K:Nat)(p:Nat×Nat):bE:=qW t K p.1 p.2
def gy (t:bE)(K:Nat)(p q:Nat×Nat):Bool:=decide (jA t q=jA t p)&&!decide (Jy t K q=Jy t K p)
def wG (t:bE)(K:Nat)(p:Nat×Nat):List B4:=((yC t.length).filter (gy t K p)).map λq=>(p,q)
def ZF (t:bE)(K:Nat):List B4:=(yC t.length).flatMap (wG t K)
def bW (x:B4):W:=O8 x.1.1 x.1.2 x.2.1 x.2.2
def c8:Option B4->W
 |none=>.non|some x=>bW x
def KL:wG t K p=[]↔∀q∈yC t.length,gy t K p q=false:=by
 unfold wG;rw[List.map_eq_nil_iff,List.filter_eq_nil_iff];exact⟨λh q H=>Bool.eq_false_iff.mpr (h q H),λh q H=>Bool.eq_false_iff.mp (h q H)⟩
def Ys:gy t K p q=false↔(jA t q=jA t p->Jy t K q=Jy t K p):=by
 unfold gy;rw[Bool.and_eq_false_iff,decide_eq_false_iff_not,Bool.not_eq_false',ai]
 constructor
 ·rintro(h|h) z
  ·exact absurd z h
  ·exact h
 ·intro h
  by_cases z:jA t q=jA t p
  ·exact .inr (h z)
  ·exact .inl z
def Fp (b:p∈yC t.length)(a:q∈yC t.length)(h:jA t p=jA t q)(h0:wG t K p=[]):wG t K q=[]:=by
 rw[KL]at h0 ⊢;intro r H;rw[Ys];intro z;rw[Ys.mp (h0 r H) (z.trans h.symm),Ys.mp (h0 q a) h.symm]
def B7:((jV t (yC t.length)).flatMap (wG t K)).head? =(ZF t K).head?:=De λ_ p _ H h h0=>Fp p H h h0
def B0 (a:c<t.length)(he:e<t.length)(h0:∀q∈pre t.length c e,gy t K p q=false)(b:gy t K p (c,e)=true):(wG t K p).head? =some (p,(c,e)):=by
 obtain⟨r,h⟩:=pre_split a he;unfold wG;rw[h,List.filter_append,List.filter_eq_nil_iff.mpr λq H=>Bool.eq_false_iff.mp (h0 q H),bA,List.filter_cons_of_pos b]
 rfl
abbrev Vy:Ex:=zq (qR (ye (zi jn ZJ zw) (zi qZ (zx wL (zh zt (zh jz (zh yf zr)))) qH)) (zq (qt (yk (zh zF (zh qe (zh jz (zh yf zr)))))) zA) zA) zA
abbrev YJ:Ex:=zq (jm (yG yD) (qG 7 8) Vy) zA
def Ff (ht:qc t)(hK:qa t=(K:Int))(A:Hx):YX [zm t] A=.ok (c8 (ZF t K).head?) A:=by
 have n8:=ht.n8;have kb:=yP ht;have D:(t.map zj).length=t.length:=ae ..;have ef:=R1 ht;generalize P:jV t (yC t.length)=ps at ef;have hin:∀p∈ps,p.1<t.length/\p.2<t.length:=λp S=>Z4.mp (Xh (t:=t) p (by rw[P];exact S))
 have J:=B7 (t:=t) (K:=K);rw[P]at J;have go:=J0 (j:=Jt (ps.map (jO t))) (st:=turn (Je 1 2 3) (zq (zX 4 (zx wL (zh zt (zh zF (zh qe zr))))) (zq (jm (yG zt) (qG 5 6) YJ) zA))) (N:=ps.length)
  (Q:=λr B=>B=[]/\∃x,(ps.flatMap (wG t K)).head? =some x/\r=bW x)
  (I:=λi ρ B=>B=[]/\(ps.take i).flatMap (wG t K)=[]/\∃Z X U L n l Y y,ρ=[some (zm t),Z,X,U,L,n,l,Y,y])
  (λi ρ B hi ⟨f,o,Z,X,U,L,n,l,Y,y,h⟩=>by
   subst f h;obtain⟨ha,hb⟩:=hin ps[i] (aG hi);generalize S:ps[i]=p at ha hb;obtain⟨a,b⟩:=p;dsimp only at ha hb;have hsp:ps=ps.take i++(a,b)::ps.drop (i+1):=by
    rw[<- S,<- bf hi,List.take_append_drop]
   refine⟨.tup [.int (at2 t a b),.tup [.int (a:Int),.int (b:Int)]],?_,?_⟩
   ·show some ((ps.map (jO t))[i]?.map λp=>W.tup [kW p.1,p.2])=_
    rw[ak,ab hi,S]
    rfl
   have hm:yG zt [some (zm t),some (.int (at2 t a b)),some (.int (a:Int)),some (.int (b:Int)),some (zm (qW t K a b)),n,l,Y,y] []=.ok (yj (zm t) t.length) []:=by
    have:=QS (m:=zO 0) (ρ:=[some (zm t),some (.int (at2 t a b)),some (.int (a:Int)),some (.int (b:Int)),some (zm (qW t K a b)),n,l,Y,y]) (A:=[]) (A1:=[]) (ws:=t.map zj) (zo rfl)
    rw[D]at this;exact this
   have e1:zX 4 (zx wL (zh zt (zh zF (zh qe zr)))) [some (zm t),some (.int (at2 t a b)),some (.int (a:Int)),some (.int (b:Int)),L,n,l,Y,y] []=.ok (.nx [some (zm t),some (.int (at2 t a b)),some (.int (a:Int)),some (.int (b:Int)),some (zm (qW t K a b)),n,l,Y,y]) []:=(qK ((zQ (zy (zo rfl) (zy (zo rfl) (zy (zo rfl) zM)))).trans (G9 ht hK ha hb []))).trans rfl;have go:=J0 (j:=yj (zm t) t.length) (st:=turn (qG 5 6) YJ) (N:=t.length)
    (Q:=λr B=>B=[]/\∃x,(wG t K (a,b)).head? =some x/\r=bW x)
    (I:=λc ρ B=>B=[]/\(∀q∈pre t.length c 0,gy t K (a,b) q=false)/\∃n l Y y,ρ=[some (zm t),some (.int (at2 t a b)),some (.int (a:Int)),some (.int (b:Int)),some (zm (qW t K a b)),n,l,Y,y])
    (λc ρ B hc ⟨f,hq0,n,l,Y,y,h⟩=>by
     subst f h;have hrl:=ht.sq _ (yN hc);have T:((t.getD c []).map W.int).length=t.length:=by rw[ae,hrl]
     have hl3:(yj (.tup ((t.getD c []).map W.int)) ((t.getD c []).map W.int).length).len=t.length:=T;refine⟨.tup [.int (c:Int),zj (t.getD c [])],?_,?_⟩
     ·have:=Jg (A:=[]) (gP hc)
      rw[D]at this;exact this
     have go:=J0 (j:=yj (.tup ((t.getD c []).map W.int)) ((t.getD c []).map W.int).length) (st:=turn (qG 7 8) Vy) (N:=t.length)
      (Q:=λr B=>B=[]/\∃x,(wG t K (a,b)).head? =some x/\r=bW x)
      (I:=λe ρ B=>B=[]/\(∀q∈pre t.length c e,gy t K (a,b) q=false)/\∃Y y,ρ=[some (zm t),some (.int (at2 t a b)),some (.int (a:Int)),some (.int (b:Int)),some (zm (qW t K a b)),some (.int (c:Int)),some (zj (t.getD c [])),Y,y])
      (λe ρ B he ⟨f,s,Y,y,h⟩=>by
       subst f h;refine⟨_,Jg (int_at (by omega)),?_⟩
       generalize H:([some (zm t),some (.int (at2 t a b)),some (.int (a:Int)),some (.int (b:Int)),some (zm (qW t K a b)),some (.int (c:Int)),some (zj (t.getD c [])),some (.int (e:Int)),some (.int (at2 t c e))]:En)=d;have ee:zi jn ZJ zw d []=.ok (.bl (decide (at2 t c e=at2 t a b))) []:=by subst H;exact(zN (zo rfl) (zo rfl)).trans (ZI _ _ [])
       have en:zi qZ (zx wL (zh zt (zh jz (zh yf zr)))) qH d []=.ok (.bl (!decide (qW t K c e=qW t K a b))) []:=by subst H;exact(zN ((zQ (zy (zo rfl) (zy (zo rfl) (zy (zo rfl) zM)))).trans (G9 ht hK hc he [])) (zo rfl)).trans (c7 _ _ _)
       have E:∀g:Ex,turn (qG 7 8) g (.tup [.int (e:Int),.int ((t.getD c []).getD e 0)]) [some (zm t),some (.int (at2 t a b)),some (.int (a:Int)),some (.int (b:Int)),some (zm (qW t K a b)),some (.int (c:Int)),some (zj (t.getD c [])),Y,y] []=g d []:=λg=>by subst H;exact kq rfl
       have u:ye (zi jn ZJ zw) (zi qZ (zx wL (zh zt (zh jz (zh yf zr)))) qH) d []=.ok (.bl (gy t K (a,b) (c,e))) []:=AG ee en;cases v:gy t K (a,b) (c,e) with
       |false=>
        rw[v]at u;refine .inl ⟨d,[],(E _).trans ((zK ((yc u).trans jf)).trans jf),rfl,λq' M=>?_,_,_,H.symm⟩;rw[X3]at M;rcases List.mem_append.mp M with z|z
        ·exact s q' z
        ·rw[b1.mp z];exact v
       |true=>
        rw[v]at u;refine .inr ⟨O8 a b c e,[],(E _).trans (qy ((Qm u).trans (qy (qX ?_)))),rfl,((a,b),(c,e)),B0 hc he s v,rfl⟩;subst H;exact Xp (zy (zo rfl) (zy (zo rfl) (zy (zo rfl) (zy (zo rfl) zM)))))
      (λρ B _=>by have:=Q7 (A:=B) (ws:=(t.getD c []).map W.int);rw[T]at this ⊢;exact this) t.length 0 [some (zm t),some (.int (at2 t a b)),some (.int (a:Int)),some (.int (b:Int)),some (zm (qW t K a b)),some (.int (c:Int)),some (zj (t.getD c [])),Y,y] [] (by omega) ⟨rfl,hq0,_,_,rfl⟩
     have C:=(yM (tw:=qG 7 8) (m1:=Vy) (QS (m:=zO 6) (ρ:=[some (zm t),some (.int (at2 t a b)),some (.int (a:Int)),some (.int (b:Int)),some (zm (qW t K a b)),some (.int (c:Int)),some (zj (t.getD c [])),Y,y]) (A:=[]) (A1:=[]) (ws:=(t.getD c []).map W.int) (zo rfl)));rw[hl3]at C;have E:turn (qG 5 6) YJ (.tup [.int (c:Int),zj (t.getD c [])]) [some (zm t),some (.int (at2 t a b)),some (.int (a:Int)),some (.int (b:Int)),some (zm (qW t K a b)),n,l,Y,y] []=YJ [some (zm t),some (.int (at2 t a b)),some (.int (a:Int)),some (.int (b:Int)),some (zm (qW t K a b)),some (.int (c:Int)),some (zj (t.getD c [])),Y,y] []:=kq rfl;rcases go with ⟨d,B,e,f,s,y7',y8',h⟩|⟨r,B,e,hQ⟩
     ·subst f h
      rw[Wh]at s;exact .inl ⟨_,[],E.trans ((zK (C.trans e)).trans jf),rfl,s,_,_,_,_,rfl⟩
     ·exact .inr ⟨r,B,E.trans (qy (C.trans e)),hQ⟩)
    (λρ B _=>by have:=Q7 (A:=B) (ws:=t.map zj);rw[D]at this;exact this) t.length 0 [some (zm t),some (.int (at2 t a b)),some (.int (a:Int)),some (.int (b:Int)),some (zm (qW t K a b)),n,l,Y,y] [] (by omega) ⟨rfl,(λq s=>(by rw[show pre t.length 0 0=[] from rfl]at s;cases s)),_,_,_,_,rfl⟩
   have E:∀g:Ex,turn (Je 1 2 3) g (.tup [.int (at2 t a b),.tup [.int (a:Int),.int (b:Int)]]) [some (zm t),Z,X,U,L,n,l,Y,y] []=g [some (zm t),some (.int (at2 t a b)),some (.int (a:Int)),some (.int (b:Int)),L,n,l,Y,y] []:=λg=>kq rfl;rcases go with ⟨d,B,e,f,s,y5',y6',y7',y8',h⟩|⟨r,B,e,f,x,C,hr⟩
   ·subst f h
    refine .inl ⟨_,[],(E _).trans ((zK e1).trans ((zK ((yM hm).trans e)).trans jf)),rfl,?_,_,_,_,_,_,_,_,_,rfl⟩;rw[List.take_succ,ab hi,S,a9,o,bA];show [(a,b)].flatMap _=_;rw[List.flatMap_singleton];exact KL.mpr s
   ·subst f
    refine .inr ⟨r,[],(E _).trans ((zK e1).trans (qy ((yM hm).trans e))),rfl,x,?_,hr⟩;rw[hsp,a9,o,bA,flatMap_cons,head?_append,C]
    rfl)
  (λρ B _=>by
   show some ((ps.map (jO t))[ps.length]?.map λp=>W.tup [kW p.1,p.2])=_;rw[au (by rw[ae];exact ao _)]
   rfl) ps.length 0 [some (zm t),none,none,none,none,none,none,none,none] [] (by omega) ⟨rfl,rfl,_,_,_,_,_,_,_,_,rfl⟩
 have hit:Yo (zx QK (zh zt zr)) [some (zm t),none,none,none,none,none,none,none,none] []=.ok (Jt (ps.map (jO t))) []:=by
  unfold Yo;dsimp only;have ec:zx QK (zh zt zr) [some (zm t),none,none,none,none,none,none,none,none] []=.ok (.ref 0) [.dct (ps.map (jO t))]:=(zQ (zy (zo rfl) zM)).trans (Px (kj t) ef rfl X4);rw[ec,zS];exact ag X4
 have hlen:(Jt (ps.map (jO t))).len=ps.length:=ae ..;have w:=yM (tw:=Je 1 2 3) (m1:=zq (zX 4 (zx wL (zh zt (zh zF (zh qe zr))))) (zq (jm (yG zt) (qG 5 6) YJ) zA)) hit;rw[hlen]at w;rcases go with ⟨d,B,e,f,o,Z,X,U,L,n,l,Y,y,h⟩|⟨r,B,e,f,x,C,rfl⟩
 ·subst f h
  rw[List.take_length]at o;rw[<- J,o];refine yb (A1:=[]) (kj t) rfl (qQ ?_);unfold Gs;exact(zK (w.trans e)).trans (qy (qX qw))
 ·subst f
  rw[<- J,C];refine yb (A1:=[]) (kj t) rfl (qQ ?_);unfold Gs;exact qy (w.trans e)
end
section
variable {a b e k K:Nat}{w x z:W}{S:Nat->List (bF)}
def Co (ht:qc t)(m:qa t=(K:Int))(l:k<K):∃a b:Nat,a<t.length/\b<t.length/\at2 t a b=(k:Int)/\yw (.inl (k:Int)) ((jV t (yC t.length)).map (jO t))=some (.tup [.int (a:Int),.int (b:Int)]):=by
 obtain⟨a,b,g,f,e⟩:=gQ ht (v:=k) (by omega)
 obtain⟨q,H,j⟩:=FH (t:=t) (a,b) (Z4.mpr ⟨g,f⟩);have h:=Xu (t:=t) (v:=(k:Int)) (jV t (yC t.length));rw[show(jV t (yC t.length)).any (λq=>decide (jA t q=(k:Int)))=true from List.any_eq_true.mpr ⟨q,H,aw (j.trans e)⟩]at h
 obtain⟨w,hw⟩:=Option.isSome_iff_exists.mp h;obtain⟨p,d,c⟩:=bZ.mp (RI hw);obtain⟨Z,z⟩:=Z4.mp (Xh p d);unfold jO at c;injection c with E i
 injection E with E
 exact⟨p.1,p.2,Z,z,E,by rw[hw,i]⟩
def S8 (ht:qc t)(e:qa t=(K:Int))(o:∀a b,a<t.length->b<t.length->qW t K a b=S (at2 t a b).toNat)(A:Hx):ZR [zm t] A=.ok (.ref A.length) (A++[.lst ((List.range K).map λk=>zm (S k))]):=by
 have n8:=ht.n8;have y:=yP ht;have l:=R1 ht;have ch:∀k:Nat,∃q:Nat×Nat,k<K->q.1<t.length/\q.2<t.length/\at2 t q.1 q.2=(k:Int)/\yw (.inl (k:Int)) ((jV t (yC t.length)).map (jO t))=some (.tup [.int (q.1:Int),.int (q.2:Int)]):=λk=>by
  by_cases j:k<K
  ·obtain⟨a,b,d,c,f,p⟩:=Co ht e j
   exact⟨(a,b),λ_=>⟨d,c,f,p⟩⟩
  ·exact⟨(0,0),λz=>absurd z j⟩
 obtain⟨fp,H⟩:=Classical.axiomOfChoice ch;have nr:=X4 (t:=t) (acc:=jV t (yC t.length));generalize (jV t (yC t.length)).map (jO t)=kvs at l H nr;have x:zx QK (zh zt zr) [some (zm t),none,none] []=.ok (.ref 0) [.dct kvs]:=(zQ (zy (zo rfl) zM)).trans (Px (kj t) l rfl nr);have hm:=Z2 (m:=zx wN (zh zt zr)) (ρ:=[some (zm t),some (.ref 0),none]) (A:=[.dct kvs]) (A1:=[.dct kvs]) (k:=(K:Int)) ((zQ (zy (zo rfl) zM)).trans ((Z7 ht _).trans (by rw[e]))) (gF (by omega))
 rw[aB]at hm;have s:=gE (cap:=[1]) (me:=zi K7 zw zt) (ρ:=[some (zm t),some (.ref 0),none]) (A:=[.dct kvs]) (N:=K) (item:=λi=>.int (0+(i:Int))) (g:=λk=>.tup [.int ((fp k).1:Int),.int ((fp k).2:Int)]) hm rfl (by unfold qf;omega) (λi h=>Qc h) (Z8 (by omega)) (λi h=>by
  refine(zN (zo (i:=1) (w:=.ref 0) rfl) (zo (i:=0) (w:=.int (0+(i:Int))) rfl)).trans ?_;rw[Int.zero_add];show(match yw (.inl (i:Int)) kvs with|some w=>R.ok w [.dct kvs]|none=>.bad)=_
  rw[(H i h).2.2.2])
 have E:=kR s;have r:=JW (A:=[.dct kvs]++[.lst ((List.range K).map λk=>.tup [.int ((fp k).1:Int),.int ((fp k).2:Int)])]) (cap:=[0]) (ρ:=[some (zm t),some (.ref 0),some (.ref 1)]) (me:=zx wL (zh zF (zh zt (zh zw zr)))) (mi:=qi zF) (N:=K) (u:=λk=>.int ((fp k).1:Int)) (v:=λk=>.int ((fp k).2:Int)) (g:=λk=>zm (S k)) (Zm (n:=1) (zo rfl) rfl) (by show((List.range K).map _).length=K;rw[ae,ar]) (by omega)
  (λi h=>P8 (n:=1) rfl (by rw[ak,aM h];rfl))
  (Oq (n:=1) rfl (by rw[ae,ar];exact ao _))
  (λi h=>by
   obtain⟨d,c,f,_⟩:=H i h;refine(zQ (ws:=[zm t,.int ((fp i).1:Int),.int ((fp i).2:Int)]) (zy (zo rfl) (zy (zo rfl) (zy (zo rfl) zM)))).trans ((G9 ht e d c _).trans ?_);rw[o _ _ d c,f,aB])
 refine Yc (k:=2) (A1:=[.dct kvs]++[.lst ((List.range K).map λk=>.tup [.int ((fp k).1:Int),.int ((fp k).2:Int)])]++[.lst ((List.range K).map λk=>zm (S k))]) (kj t) (qQ ?_) rfl (gn (λ_=>j3 _) _);unfold U8;exact(zK (qK x)).trans ((zK (qK E)).trans (qy (qX (kR r))))
def Cj:ZF t K=[]↔∀p∈yC t.length,∀q∈yC t.length,jA t q=jA t p->Jy t K q=Jy t K p:=by
 unfold ZF;rw[List.flatMap_eq_nil_iff];exact⟨λh p a q H=>Ys.mp (KL.mp (h p a) q H),λh p a=>KL.mpr λq H=>Ys.mpr (h p a q H)⟩
def Xl (ht:qc t)(s:ja t):ZF t K=[]:=Cj.mpr λp H q h e=>Rv ht s (Z4.mp h).1 (Z4.mp h).2 (Z4.mp H).1 (Z4.mp H).2 e
def EC (ht:qc t)(h:qa t=(K:Int))(s:ZF t K=[])(A:Hx):YX [zm t] A=.ok .non A:=(Ff ht h A).trans (by rw[s];rfl)
def Zv (ht:qc t)(h:qa t=(K:Int))(s:ZF t K=[])(A:Hx):wJ [zm t] A=.ok .non A:=by
 unfold wJ Gb;refine Yb (ρ:=[some (zm t)]) ?_;unfold V7;exact(zK (yh ((zQ (zy (zo rfl) zM)).trans (SK ht A)))).trans ((zK ((yc ((zN ((zQ (zy (zo rfl) zM)).trans (EC ht h s A)) qw).trans rfl)).trans jf)).trans jf)
theorem Of (v:Int):∀(r:bF)(n:Nat),ZD (.int v) (r.map W.int) n=n+r.count v
 |[],_=>rfl|x::r,n=>by
  show ZD (.int v) (r.map W.int) (if (x==v)=true then n+1 else n)=_;rw[Of v r,List.count_cons]
  by_cases h:x=v
  ·subst h
   simp;omega
  ·simp[h]
noncomputable def zJ (t:bE)(K:Nat):bF:=(List.range K).map λ(k:Nat)=>(((t.getD 0 []).count (k:Int):Nat):Int)
def E2 (ht:qc t)(H:qa t=(K:Int))(A:Hx):gc [zm t] A=.ok (.ref A.length) (A++[.lst ((zJ t K).map W.int)]):=by
 have c:=yP ht;have n1:=ht.n1;have hm:=Z2 (m:=zx wN (zh zt zr)) (ρ:=[some (zm t)]) (A:=[]) (A1:=[]) (k:=(K:Int)) ((zQ (zy (zo rfl) zM)).trans ((Z7 ht _).trans (by rw[H]))) (gF (by omega))
 rw[aB]at hm;have e:=gE (cap:=[0]) (me:=K2 Yj (zi zI zw qx) zt) (ρ:=[some (zm t)]) (A:=[]) (N:=K) (item:=λi=>.int (0+(i:Int))) (g:=λk=>.int (((t.getD 0 []).count (k:Int):Nat):Int)) hm rfl (by unfold qf;omega) (λi h=>Qc h) (Z8 (by omega)) (λi h=>by
  have E:zi zI zw qx (some (W.int (0+(i:Int)))::[0].map λi=>([some (zm t)][i]?).join) []=.ok (.tup ((t.getD 0 []).map W.int)) []:=(zN (zo (w:=zm t) rfl) qw).trans (Qg (a:=0) n1);unfold K2;rw[E,zS];dsimp only;rw[show zt (some (W.int (0+(i:Int)))::[0].map λi=>([some (zm t)][i]?).join) []=.ok (.int (0+(i:Int))) [] from zo rfl,zS,Int.zero_add]
  unfold Yj;dsimp only;rw[ag,Of,zero_add];show(true&&((t.getD 0 []).map W.int).all yd)=true;rw[Bool.true_and,ba];intro w hw;obtain⟨v,_,rfl⟩:=bZ.mp hw
  rfl)
 have b:((List.range K).map λ(k:Nat)=>W.int (((t.getD 0 []).count (k:Int):Nat):Int))=(zJ t K).map W.int:=by unfold zJ;rw[aR];rfl
 rw[b]at e;exact Yc (k:=0) (A1:=[.lst ((zJ t K).map W.int)]) (kj t) (qQ (by unfold Tc;exact qy (qX (kR e)))) rfl (gn (λ_=>rfl) _)
end
def Rl {r:Nat}{l:bJ}(h:A[r]? =some (.lst (iL l))):qO A 8 (.ref r)=some (.list (l.map λ(a:Nat)=>PyData.int (a:Int))):=by
 show(match zW (.ref r) A with|some ws=>(yo (qO A 7) ws).map PyData.list|none=>none)=_
 have:zW (.ref r) A=some (iL l):=by unfold zW;dsimp only;rw[h]
 rw[this];dsimp only;rw[Kv (h:=λ(a:Nat)=>PyData.int (a:Int)) (λa=>rfl)]
 rfl
def ne_nil {r s:Nat}{l:bJ}(h:A[r]? =some (.lst (iL l)))(H:A[s]? =some (.lst [])):qZ (.ref r) (.ref s) A=.ok (.bl (decide (l≠[]))) A:=by
 show kL true _ _ A=_;unfold kL;rw[Rl h,Rl (l:=[]) H];dsimp only;rw[ag rfl]
 congr 2
 rw[PyData.eqv];cases l with
 |nil=>simp[PyData.eqvAll]|cons a l=>rw[map_nil,SeqAt.eqvAll_other_length (by simp)];simp
noncomputable def Zb (o:bJ):W:=.tup (o.map λ(a:Nat)=>W.int (a:Int))
def Dc (o:bJ):(Zb o).nr=true:=by
 show qI (o.map λ(a:Nat)=>W.int (a:Int))=true;exact gn (λ_=>rfl) _
abbrev Vr:Ev:=zi qZ (zO 2) (js zr)
abbrev c9:Ex:=zq (jd (jU yr (zO 3) (jU wU (zO 2) (zx yV (zh (zO 0) (zh (mQ qm (zV (zO 2))) zr)))))) zA
def FT {x:Option W}:∀(k f:Nat)(l fd:bJ)(A:Hx),l.length=k->k<f->l.length<=100->fd.length+l.length<=100->ji 0 A->A[1]? =some (.lst (iL l))->A[2]? =some (.lst (iL fd))->
  ∃n d,gX Vr c9 f [some (.ref 0),x,some (.ref 1),some (.ref 2)] A=.ok (.nx [some (.ref 0),x,some (.ref 1),some (.ref 2)]) n/\ji 0 n/\n[2]? =some (.lst (iL d))/\d.Perm (fd++l):=by
 intro k
 induction k with
 |zero=>
  intro f l fd A p hf _ _ y s I;obtain⟨f,rfl⟩:∃K,f=K+1:=⟨f-1,by omega⟩
  have:l=[]:=List.length_eq_zero_iff.mp p
  subst this;refine⟨A++[.lst []],fd,?_,?_,yF I,by simp⟩
  ·unfold gX
   have t:Vr [some (.ref 0),x,some (.ref 1),some (.ref 2)] A=.ok (.bl false) (A++[.lst []]):=(zN (zo (i:=2) rfl) (kC zM)).trans (ne_nil (l:=[]) (yF s) kh);rw[t,zS]
  ·obtain⟨c,b,e,r⟩:=y
   exact⟨c,b,yF e,r⟩
 |succ k S=>
  intro f l fd A p hf L T y s I;obtain⟨f,rfl⟩:∃K,f=K+1:=⟨f-1,by omega⟩
  have t:Vr [some (.ref 0),x,some (.ref 1),some (.ref 2)] A=.ok (.bl true) (A++[.lst []]):=by
   refine(zN (zo (i:=2) rfl) (kC zM)).trans ((ne_nil (yF s) kh).trans ?_);have C:l≠[]:=λe=>by rw[e]at p;cases p
   rw[aw C]
  have H:ji 0 (A++[.lst []]):=by obtain⟨c,b,e,r⟩:=y;exact⟨c,b,yF e,r⟩
  have g1:=yF (u:=.lst []) s;have g2:=yF (u:=.lst []) I;generalize A++[O.lst []]=B at t H g1 g2;obtain⟨r,o,U,P,rl,v⟩:=Qb H (m:=(l.length:Int)) (by omega) (by omega)
  obtain⟨q,rfl⟩:=aV P;have z:q<l.length:=by omega
  have E:mQ qm (zV (zO 2)) [some (.ref 0),x,some (.ref 1),some (.ref 2)] B=.ok (.int (l.length:Int)) B:=by
   rw[jS (yE (w:=.ref 1) (A1:=B) (ws:=iL l) (zo rfl) (by unfold zW;dsimp only;rw[g1]))]
   unfold qm;rw[ae]
  have Z:zx yV (zh (zO 0) (zh (mQ qm (zV (zO 2))) zr)) [some (.ref 0),x,some (.ref 1),some (.ref 2)] B=.ok (.int (q:Int)) (B.set 0 o):=(zQ (zy (zo (i:=0) rfl) (zy E zM))).trans U;have j:(B.set 0 o)[1]? =some (.lst (iL l)):=by rw[aF (by omega)];exact g1
  have J:(B.set 0 o)[2]? =some (.lst (iL fd)):=by rw[aF (by omega)];exact g2
  have hw:(iL l)[q]? =some (.int ((l[q]:Nat):Int)):=by rw[ak,ab z];rfl
  have N:=(Xf (g:=wU) (a:=zO 2) (zo rfl) g1 Z).trans (Hj j hw (by omega))
  have he:(iL l).eraseIdx q=iL (l.eraseIdx q):=by
   exact Ra _ _ _
  rw[he]at N;have h:((B.set 0 o).set 1 (.lst (iL (l.eraseIdx q))))[2]? =some (.lst (iL fd)):=by rw[aF (by omega)];exact J
  have M:=(Xf (g:=yr) (a:=zO 3) (zo rfl) g2 N).trans (Sd h (by rw[ae];omega))
  have D:iL fd++[.int ((l[q]:Nat):Int)]=iL (fd++[l[q]]):=by unfold iL;rw[aP];rfl
  rw[D]at M;have hlen:(l.eraseIdx q).length=k:=by rw[List.length_eraseIdx_of_lt z];omega
  obtain⟨n,d,Y,s4,a4,Q⟩:=S f (l.eraseIdx q) (fd++[l[q]]) (((B.set 0 o).set 1 (.lst (iL (l.eraseIdx q)))).set 2 (.lst (iL (fd++[l[q]])))) hlen (by omega) (by omega) (by rw[aE,aZ];omega)
   (by obtain⟨c,b,e,r⟩:=v;exact⟨c,b,by rw[aF (by omega),aF (by omega)];exact e,r⟩)
   (by rw[aF (by omega),aC (wQ j)]) (by rw[aC (wQ h)])
  refine⟨n,d,?_,s4,a4,Q.trans ?_⟩
  ·unfold gX
   rw[t,zS];dsimp only;have X:=(zK (m2:=zA) (yh M)).trans jf;show R.bind (zq (jd (jU yr (zO 3) (jU wU (zO 2) (zx yV (zh (zO 0) (zh (mQ qm (zV (zO 2))) zr)))))) zA [some (.ref 0),x,some (.ref 1),some (.ref 2)] B) _=_;rw[X,zS];exact Y
  ·rw[aQ]
   exact List.Perm.append_left fd (Sl (ab z)).symm
def RW {m:Nat}(h:ji m A)(hn:n<=8):∃p o,ZS [.ref m,.int (n:Int)] A=.ok (Zb p) (A.set m o)/\ji m (A.set m o)/\p.Perm (List.range n):=by
 obtain⟨c,b,d,j,l⟩:=h;have hm:=wQ d;obtain⟨f,fd,e,⟨C,B,E,H,a⟩,q,g⟩:=FT (x:=some (.int (n:Int))) n 1000 (List.range n) [] [.lst [.int c,.bl b],.lst (iL (List.range n)),.lst []] ar (by omega) (by rw[ar];omega) (by rw[ar];simp;omega) ⟨c,b,rfl,j,l⟩ rfl rfl
 refine⟨fd,.lst [.int C,.bl B],?_,⟨C,B,aC hm,H,a⟩,g⟩;unfold ZS;refine QX (A1:=f) d rfl ?_ E (Dc fd);unfold GH;refine qQ ?_;unfold Th;refine(zK (ρ1:=[some (.ref 0),some (.int (n:Int)),some (.ref 1),none]) (A1:=[.lst [.int c,.bl b],.lst (iL (List.range n))]) ((qK (HI (zo (i:=1) rfl) (by omega))).trans rfl)).trans ?_
 refine(zK (ρ1:=[some (.ref 0),some (.int (n:Int)),some (.ref 1),some (.ref 2)]) (A1:=[.lst [.int c,.bl b],.lst (iL (List.range n)),.lst []]) ((qK (kC zM)).trans rfl)).trans ?_;refine(zK e).trans (qy (qX (wt (yE (w:=.ref 2) (A1:=f) (ws:=iL fd) (zo rfl) (by unfold zW;dsimp only;rw[q])))))
section
def Ls (h:qc t)(A:Hx):JS [zm t] A=.ok (.int (qa t)) A:=Z7 h A
def da (h:qc t){ma m mt:Ev}{a b:Nat}(ht:mt ρ A=.ok (zm t) A)(c:ma ρ A=.ok (.int a) A)(H:m ρ A=.ok (.int b) A)(l:a<t.length)(L:b<t.length):zi zI (zi zI mt ma) m ρ A=.ok (.int (at2 t a b)) A:=
 (zN ((zN ht c).trans (Qg l)) H).trans (gN (by rw[h.sq _ (yN l)];exact L))
def EX (h:qc t){p o:bJ}(H:∀a∈o,a<t.length)(q:o.length<=8)(n:(p.length:Int)=qa t-1){r:Nat}(g:A[r]? =some (.lst ((je p).map W.int))):Kc [zm t,Zb o,.ref r] A=.ok (zm (yX t p o)) A:=by
 unfold Kc GJ;refine qQ ?_;unfold TH;refine qy (qX ?_);have E:=Z3 (cap:=[0,1,2]) (ρ:=[some (zm t),some (Zb o),some (.ref r)]) (A:=A) (m:=zO 1) (o:=o) (f:=λ(a:Nat)=>W.int (a:Int)) (me:=mQ qU (zT 1 [0,1,3] (qi (zO 2)) (zP 0) (z7 (.bl true)) (zR (zi zI (zO 3) (zi zI (zi zI (zO 2) (zO 1)) (zO 0))))))
  (G:=λa=>zj (o.map λb=>(je p).getD (at2 t a b).toNat 0)) (zo rfl) (by unfold qf;omega) (λa e=>by
   have j:=Z3 (cap:=[0,1,3]) (ρ:=[some (.int (a:Int)),some (zm t),some (Zb o),some (.ref r)]) (A:=A) (m:=zO 2) (o:=o) (f:=λ(a:Nat)=>W.int (a:Int)) (me:=zi zI (zO 3) (zi zI (zi zI (zO 2) (zO 1)) (zO 0)))
    (G:=λb=>.int ((je p).getD (at2 t a b).toNat 0)) (zo rfl) (by unfold qf;omega) (λb d=>by
     have l:=H a e;have l2:=H b d;have s:=(Jh h l l2).1;have B:=Q6 h l l2;have hlen:(at2 t a b).toNat<(je p).length:=by unfold je;rw[bD,ae];omega
     refine(zN (zo (i:=3) rfl) (da h (zo (i:=2) rfl) (zo (i:=1) rfl) (zo (i:=0) rfl) l l2)).trans ?_;have c:at2 t a b=((at2 t a b).toNat:Int):=by omega
     rw[c];refine Z6 g ?_;rw[ak,ab hlen,aB,aa,ab hlen]
     rfl)
   refine(wt j).trans ?_;unfold zj;rw[aR]
   rfl)
 refine(wt E).trans ?_;unfold yX zm;rw[aR]
 rfl
def Ry (h:qc t){m:Nat}(X:ji m A):∃p o b,ZM [.ref m,zm t] A=.ok (zm (yX t p o)) (A.set m b)/\ji m (A.set m b)/\p.Perm (List.range (qa t-1).toNat)/\o.Perm (List.range t.length):=by
 obtain⟨c,b,N,hc,hb⟩:=X;have hm:=wQ N;have kb:=yP h;have n8:=h.n8;generalize H:([.lst [.int c,.bl b],.lst [.int 0]]:Hx)=B;have sB:ji 0 B:=by rw[<- H];exact⟨c,b,rfl,hc,hb⟩
 obtain⟨p,g,P,s1,j⟩:=RW sB (n:=(qa t-1).toNat) (by omega)
 have E:(B.set 0 g)[1]? =some (.lst [.int 0]):=by rw[<- H];rfl
 have D:(B.set 0 g).length=2:=by rw[<- H];rfl
 generalize B.set 0 g=d at*;have s:(((qa t-1).toNat:Nat):Int)=qa t-1:=by omega
 rw[s]at P;have ec:zT 1 [] (qi (zx ZS (zh (zO 0) (zh (zi yy (zO 2) (z7 (.int 1))) zr)))) (zP 0) (z7 (.bl true)) (zR (zi qM (z7 (.int 1)) (zO 0))) [some (.ref 0),some (zm t),some (.int (qa t)),none] B=.ok (p.map λ(k:Nat)=>W.int (1+(k:Int))) d:=by
  have em:zx ZS (zh (zO 0) (zh (zi yy (zO 2) (z7 (.int 1))) zr)) [some (.ref 0),some (zm t),some (.int (qa t)),none] B=.ok (Zb p) d:=(zQ (ws:=[.ref 0,.int (qa t-1)]) (A1:=B) (zy (zo (i:=0) rfl) (zy ((zN (zo (i:=2) rfl) (qw (w:=.int 1))).trans rfl) zM))).trans P;have J:=Z3 (cap:=[]) (ρ:=[some (.ref 0),some (zm t),some (.int (qa t)),none]) (A:=d) (m:=z7 (Zb p)) (o:=p) (f:=λ(a:Nat)=>W.int (a:Int)) (me:=zi qM (z7 (.int 1)) (zO 0)) (G:=λ(k:Nat)=>W.int (1+(k:Int))) rfl (by have:=j.length_eq;rw[ar]at this;unfold qf;omega) (λa L=>(zN (qw (w:=.int 1)) (zo (i:=0) rfl)).trans rfl)
  unfold zT at J ⊢;rw[Zo (m:=z7 (Zb p)) (A1:=d) rfl,zS]at J;rw[Zo em,zS];exact J
 have l:p.length=(qa t-1).toNat:=by rw[j.length_eq,ar]
 have I:zi qM (js (zh (z7 (.int 0)) zr)) (jk (zT 1 [] (qi (zx ZS (zh (zO 0) (zh (zi yy (zO 2) (z7 (.int 1))) zr)))) (zP 0) (z7 (.bl true)) (zR (zi qM (z7 (.int 1)) (zO 0))))) [some (.ref 0),some (zm t),some (.int (qa t)),none] [.lst [.int c,.bl b]]=
   .ok (.ref (d++[O.lst (p.map λ(k:Nat)=>W.int (1+(k:Int)))]).length) (d++[O.lst (p.map λ(k:Nat)=>W.int (1+(k:Int)))]++[O.lst ([.int 0]++p.map λ(k:Nat)=>W.int (1+(k:Int)))]):=by
  refine(zN (x:=.ref 1) (A1:=B) ((kC (ws:=[.int 0]) (A1:=[.lst [.int c,.bl b]]) rfl).trans (by rw[<- H];rfl)) (kR ec)).trans ?_
  refine Rt (yF E) ?_ (by rw[ae,l];show 1+_<=qf;unfold qf;omega)
  rw[kh]
 have z:([.int 0]++p.map λ(k:Nat)=>W.int (1+(k:Int)))=(je p).map W.int:=by unfold je;rw[aS,aR];rfl
 rw[z]at I;have U:ji 0 (d++[O.lst (p.map λ(k:Nat)=>W.int (1+(k:Int)))]++[O.lst ((je p).map W.int)]):=by obtain⟨c,b,e,r⟩:=s1;exact⟨c,b,yF (yF e),r⟩
 have M:(d++[O.lst (p.map λ(k:Nat)=>W.int (1+(k:Int)))]++[O.lst ((je p).map W.int)])[(d++[O.lst (p.map λ(k:Nat)=>W.int (1+(k:Int)))]).length]? =some (.lst ((je p).map W.int)):=kh;have Y:(d++[O.lst (p.map λ(k:Nat)=>W.int (1+(k:Int)))]).length=3:=by rw[aE,D];rfl
 rw[Y]at M I;generalize d++[O.lst (p.map λ(k:Nat)=>W.int (1+(k:Int)))]++[O.lst ((je p).map W.int)]=C at*;obtain⟨o,K,e3,s2,q⟩:=RW U (n:=t.length) n8;have Z:o.length=t.length:=by rw[q.length_eq,ar]
 have y:(C.set 0 K)[3]? =some (.lst ((je p).map W.int)):=by rw[aF (by omega)];exact M
 generalize C.set 0 K=T at*;have e4:=EX h (p:=p) (o:=o) (λa L=>bX.mp (q.mem_iff.mp L)) (by omega) (by omega) y
 obtain⟨Q,S,e',u,v⟩:=s2;refine⟨p,o,.lst [.int Q,.bl S],?_,⟨Q,S,aC hm,u,v⟩,j,q⟩;unfold ZM;refine QX (A1:=T) N (by show((zm t).nr&&true)=true;rw[j3];rfl) ?_ e' (j3 _)
 unfold W7;refine qQ ?_;unfold VS;refine(zK (ρ1:=[some (.ref 0),some (zm t),some (.int (qa t)),none]) (A1:=[.lst [.int c,.bl b]]) ((qK ((zQ (ws:=[zm t]) (A1:=[.lst [.int c,.bl b]]) rfl).trans (Ls h _))).trans rfl)).trans ?_;refine(zK (ρ1:=[some (.ref 0),some (zm t),some (.int (qa t)),some (.ref 3)]) (A1:=C) ((qK I).trans rfl)).trans (qy (qX ?_));refine(zQ (ws:=[zm t,Zb o,.ref 3]) (A1:=T) (zy (zo (i:=1) rfl) (zy ((zQ (ws:=[.ref 0,.int (t.length:Int)]) (A1:=C) (zy (zo (i:=0) rfl) (zy (Bi rfl) zM))).trans e3) (zy (zo (i:=3) rfl) zM)))).trans e4
end
theorem Sq:∀l:bF,kX (l.map W.int)=some (l.map λi=>i != 0)
 |[]=>rfl|x::l=>by
  show(match Jm (.int x),kX (l.map W.int) with|some k,some ks=>some (k::ks)|_,_=>none)=_
  rw[Sq l]
  rfl
def Q2 (l:bF):jX (l.map W.int) A=.ok (.int l.sum) A:=by
 unfold jX;rw[Ke]
 have:∀(l:bF)(k:Int),yQ l k=k+l.sum:=λl=>by
  induction l with
  |nil=>intro k;show k=k+0;omega|cons x l i=>intro k;show yQ l (k+x)=_;rw[i,sum_cons];omega
 dsimp only;rw[this,Int.zero_add]
section
variable {K m j:Nat}{w:bF}{S:List (bE)}
structure Wf (K:Nat)(S:List (bE)):Prop where
 l:S.length=K
 r:∀t∈S,t.length=K
 c:∀t∈S,∀q∈t,q.length=K
 b:∀t∈S,∀i j,0<=at2 t i j/\at2 t i j<100
abbrev pS (S:List (bE))(k i j:Nat):Int:=at2 (S.getD k []) i j
def kI (S:List (bE))(w:bF)(i j:Nat):Bool:=((S.drop w.length).any λt=>at2 t i j != 0) || decide (w.getD i 0 * w.getD j 0=((List.range w.length).map λk=>pS S k i j * w.getD k 0).sum)
def kH (S:List (bE))(w:bF):Bool:=(List.range w.length).all λi=>(List.range w.length).all λj=>kI S w i j
def Iq {c:En}{j:jt}{N d:Nat}{u v g:Nat->W}(t:∀i,i<N->j.at_ A i=some (some (.tup [u i,v i])))(H:j.at_ A N=some none)(he:∀i,i<N->me (some (u i)::some (v i)::c) A=.ok (g i) A):
  ∀(f i:Nat)(x y:Option W)(acc:List W),i+f=N->acc.length+f<=qf->∃ρ,jl j (qG 0 1) (z7 (.bl true)) (zR me) (f+d) i (x::y::c) acc A=.ok (ρ,acc++(List.range' i f).map g) A:=by
 intro f
 induction f with
 |zero=>
  intro i x y acc h l
  have:i=N:=by omega
  subst this;refine⟨x::y::c,?_⟩;rw[zero_add];cases d<;>(unfold jl;rw[H];simp)
 |succ f I=>
  intro i x y acc h l;obtain⟨ρ,e⟩:=I (i+1) (some (u i)) (some (v i)) (acc++[g i]) (by omega) (by rw[aE,aZ];omega)
  refine⟨ρ,?_⟩;rw[show f+1+d=(f+d)+1 by omega,jl,t i (by omega)]
  dsimp only;rw[show qG 0 1 (.tup [u i,v i]) (x::y::c)=some (some (u i)::some (v i)::c) from rfl]
  dsimp only[z7];rw[zS];dsimp only;have E:zR me (some (u i)::some (v i)::c) acc A=.ok (some (u i)::some (v i)::c,acc++[g i]) A:=by
   unfold zR;rw[he i (by omega),zS,ag (by omega)]
  rw[E,zS];rw[e,aQ,range'_succ,aS]
  rfl
def Ld {j:jt}{N:Nat}{u v g:Nat->W}(hm:mi ρ A=.ok j A)(b:N<=j.len)(f:N<=1000)(H:∀i,i<N->j.at_ A i=some (some (.tup [u i,v i])))(h:j.at_ A N=some none)
  (he:∀i,i<N->me (some (u i)::some (v i)::cap.map λi=>(ρ[i]?).join) A=.ok (g i) A):zT 2 cap mi (qG 0 1) qd (zR me) ρ A=.ok ((List.range N).map g) A:=by
 obtain⟨a,e⟩:=Iq (A:=A) (c:=cap.map λi=>(ρ[i]?).join) (d:=j.len-N) H h he N 0 none none [] (by omega) (by unfold qf;simp;omega)
 unfold zT;rw[hm,zS,show j.len=N+(j.len-N) by omega]
 show R.bind (R.nox (jl j _ _ _ (N+(j.len-N)) 0 (none::none::cap.map λi=>(ρ[i]?).join) [] A)) _=_;rw[e,<- range_eq_range',bA]
 rfl
def DO {nl:Nat}{m:Ev}{ifs:Ev}{w:W}(h:m ρ A=.ok w A1):zT nl cap (qi m) tw ifs em ρ A=zT nl cap (qi (z7 w)) tw ifs em ρ A1:=by
 unfold zT qi;rw[h]
 rfl
def G3 {m:Ev}{o:List α}{f:α->W}{G:α->W}(h:m ρ A=.ok (.ref n) A)(b:A[n]? =some (.lst (o.map f)))(l:o.length<=qf)(he:∀a∈o,me (some (f a)::cap.map λi=>(ρ[i]?).join) A=.ok (G a) A):
  zT 1 cap (qi m) (zP 0) qd (zR me) ρ A=.ok (o.map G) A:=by
 have e:=gE (cap:=cap) (me:=me) (ρ:=ρ) (A:=A) (N:=o.length) (item:=λi=>((o.map f)[i]?).getD .non) (g:=λi=>((o.map G)[i]?).getD .non) (Zm h b) (by rw[ae]) l
  (λi H=>(kD b).trans (by rw[ak,ab H];rfl))
  ((kD b).trans (by rw[au (by rw[ae];exact ao _)]))
  (λi H=>by
   rw[ak,ak,ab H];exact he _ (aG H))
 rw[e]
 congr 1
 apply bq
 ·simp
 ·intro i d c
  have H:i<o.length:=by simpa using c
  simp[ab H]
def PK {m p:Ev}{A0:Hx}{k:Nat}(h:m ρ A0=.ok (.ref n) A)(c:A[n]? =some (.lst ws))(a:p ρ A=.ok (.int (k:Int)) A)(b:k<=ws.length):ZA m (Za p) Qv ρ A0=.ok (.ref A.length) (A++[.lst (ws.drop k)]):=by
 have H:Za p ρ A=.ok (some (k:Int)) A:=by
  unfold Za;rw[a,zS]
 unfold ZA;rw[h,zS,H,zS];show(match A[n]? with|some (O.lst ws)=>R.ok (W.ref A.length) (A++[O.lst (gq ws (some (k:Int)) none)])|_=>.bad)=_
 rw[c];dsimp only;unfold gq;rw[HT.DK,HT.EA,Nat.min_eq_left b,a5 (by rw[bC];exact ao _)]
def Jf {vs:List W}(h:A[n]? =some (.lst us))(i:Nat)(N:Nat):(yH (.ref n) (.tup vs) N).at_ A i=some (zip2 us[i]? vs[i]?):=by
 show(match zW (.ref n) A,zW (.tup vs) A with|some us,some vs=>some (zip2 us[i]? vs[i]?)|_,_=>none)=_
 have:zW (.ref n) A=some us:=by unfold zW;dsimp only;rw[h]
 rw[this]
 rfl
def P9 {m M:Ev}{vs:List W}(h:m ρ A=.ok (.ref n) A)(H:A[n]? =some (.lst us))(h':M ρ A=.ok (.tup vs) A):jH m M ρ A=.ok (yH (.ref n) (.tup vs) us.length) A:=by
 unfold jH;rw[h,zS,h',zS]
 have:zW (.ref n) A=some us:=by unfold zW;dsimp only;rw[H]
 rw[this]
 rfl
abbrev fB:Ex:=zq (zX 5 (jk (zT 1 [3,4] (qi (ZA zt (Za zF) Qv)) (zP 0) qd (zR (zi zI (zi zI zt zw) zF))))) (zq (zX 6 (jk (zT 2 [3,4] (jH zt zw) (qG 0 1) qd (zR (zi zZ (zi zI (zi zI zt zF) qe) zw))))) (zq (qR (ye (jW (mQ Jv (zV jz))) (zi qZ (zi zZ (zi zI zw qe) (zi zI zw qH)) (mQ jX (zV yD)))) yI zA) zA))
def Az {x5 x6:Option W}(H:Wf K S)(h:A[0]? =some (.lst (S.map zm)))(hm:w.length<=K)(hK:K<=8)(hw:∀v∈w,-100<v/\v<100)(J:i<w.length)(X:j<w.length):
  ∃Q Y B,B[0]? =some (.lst (S.map zm))/\fB [some (.ref 0),some (zj w),some (.int (w.length:Int)),some (.int (i:Int)),some (.int (j:Int)),x5,x6] A=.ok (if kI S w i j then .nx [some (.ref 0),some (zj w),some (.int (w.length:Int)),some (.int (i:Int)),some (.int (j:Int)),Q,Y] else .rt (.bl false)) B:=by
 have o:(S.map zm).length=K:=by rw[ae,H.l]
 have e8:w.length<=8:=by omega
 generalize m:([some (.ref 0),some (zj w),some (.int (w.length:Int)),some (.int (i:Int)),some (.int (j:Int)),x5,x6]:En)=ρ;have P:ZA zt (Za zF) Qv ρ A=.ok (.ref A.length) (A++[.lst ((S.map zm).drop w.length)]):=by
  subst m;exact PK (zo rfl) h (zo rfl) (by rw[o];exact hm)
 rw[<- List.map_drop]at P;have e5:zT 1 [3,4] (qi (ZA zt (Za zF) Qv)) (zP 0) qd (zR (zi zI (zi zI zt zw) zF)) ρ A=.ok ((S.drop w.length).map λt=>W.int (at2 t i j)) (A++[.lst ((S.drop w.length).map zm)]):=by
  rw[DO P];refine G3 (f:=zm) qw kh (by have:=H.l;rw[bC];unfold qf;omega) (λt ht=>?_)
  have n:=mem_of_mem_drop ht;have U:=H.r t n;subst m;exact(zN ((zN (zo rfl) (zo rfl)).trans (Qg (a:=i) (by omega))) (zo rfl)).trans (gN (b:=j) (by rw[H.c t n _ (yN (by omega))];omega))
 have D:=kR e5;have q:(A++[O.lst ((S.drop w.length).map zm)]++[O.lst ((S.drop w.length).map λt=>W.int (at2 t i j))])[0]? =some (.lst (S.map zm)):=yF (yF h);have y:(A++[O.lst ((S.drop w.length).map zm)]++[O.lst ((S.drop w.length).map λt=>W.int (at2 t i j))])[(A++[O.lst ((S.drop w.length).map zm)]).length]? =some (.lst ((S.drop w.length).map λt=>W.int (at2 t i j))):=kh;generalize A++[O.lst ((S.drop w.length).map zm)]++[O.lst ((S.drop w.length).map λt=>W.int (at2 t i j))]=B at*;generalize (A++[O.lst ((S.drop w.length).map zm)]).length=p at*;generalize e:([some (.ref 0),some (zj w),some (.int (w.length:Int)),some (.int (i:Int)),some (.int (j:Int)),some (.ref p),x6]:En)=σ;have ez:jH zt zw σ B=.ok (yH (.ref 0) (zj w) (S.map zm).length) B:=by
  subst e;exact P9 (zo rfl) q (zo rfl)
 have e6:=Ld (cap:=[3,4]) (me:=zi zZ (zi zI (zi zI zt zF) qe) zw) (N:=w.length) (u:=λk=>zm (S.getD k [])) (v:=λk=>.int (w.getD k 0)) (g:=λk=>.int (pS S k i j * w.getD k 0)) ez (by show w.length<=(S.map zm).length;rw[o];exact hm) (by omega)
  (λk I=>(Jf q k _).trans (by
   rw[ak,ab (show k<S.length by rw[H.l];omega),int_at I,aa (l:=S),ab (show k<S.length by rw[H.l];omega)]
   rfl))
  ((
   Jf q _ _).trans (by
   rw[au (l:=w.map W.int) (by rw[ae];exact ao _)]
   cases (S.map zm)[w.length]?<;>rfl))
  (λk I=>by
   have ht:S.getD k []∈S:=by
    rw[aa,ab (show k<S.length by rw[H.l];omega)]
    exact aG _
   have U:=H.r _ ht;have hb:=H.b _ ht i j;subst e;exact(zN ((zN ((zN (zo rfl) (zo rfl)).trans (Qg (a:=i) (by omega))) (zo rfl)).trans (gN (b:=j) (by rw[H.c _ ht _ (yN (by omega))];omega))) (zo rfl)).trans (yW (by show -(2 ^ 64)<at2 _ i j;omega) (by show at2 _ i j<2 ^ 64;omega)))
 have E:=kR e6;have Z:(B++[O.lst ((List.range w.length).map λk=>W.int (pS S k i j * w.getD k 0))])[0]? =some (.lst (S.map zm)):=yF q;have x:(B++[O.lst ((List.range w.length).map λk=>W.int (pS S k i j * w.getD k 0))])[p]? =some (.lst ((S.drop w.length).map λt=>W.int (at2 t i j))):=yF y;have s:(B++[O.lst ((List.range w.length).map λk=>W.int (pS S k i j * w.getD k 0))])[B.length]? =some (.lst ((List.range w.length).map λk=>W.int (pS S k i j * w.getD k 0))):=kh;generalize B++[O.lst ((List.range w.length).map λk=>W.int (pS S k i j * w.getD k 0))]=C at*;refine⟨some (.ref p),some (.ref B.length),C,Z,?_⟩;have wi:=hw (w.getD i 0) (by rw[aa,ab J];exact aG _)
 generalize d:([some (.ref 0),some (zj w),some (.int (w.length:Int)),some (.int (i:Int)),some (.int (j:Int)),some (.ref p),some (.ref B.length)]:En)=τ;have f1:jW (mQ Jv (zV jz)) τ C=.ok (.bl (!((S.drop w.length).any λt=>at2 t i j != 0))) C:=by
  subst d;refine wq ((jS (yE (w:=.ref p) (ws:=((S.drop w.length).map λt=>at2 t i j).map W.int) (A1:=C) (zo rfl) (by unfold zW;dsimp only;rw[x,aR];rfl))).trans ?_)
  show gu (λks=>ks.any id) _ C=_;unfold gu;rw[Sq,aR];dsimp only;rw[List.any_map]
  rfl
 have f2:zi qZ (zi zZ (zi zI zw qe) (zi zI zw qH)) (mQ jX (zV yD)) τ C=.ok (.bl (!decide (w.getD i 0 * w.getD j 0=((List.range w.length).map λk=>pS S k i j * w.getD k 0).sum))) C:=by
  subst d;refine(zN ((zN ((zN (zo rfl) (zo rfl)).trans (gN J)) ((zN (zo rfl) (zo rfl)).trans (gN X))).trans (yW (by omega) (by omega))) ((jS (yE (w:=.ref B.length) (ws:=((List.range w.length).map λk=>pS S k i j * w.getD k 0).map W.int) (A1:=C) (zo rfl) (by unfold zW;dsimp only;rw[s,aR];rfl))).trans (Q2 _))).trans (JB _ _ _)
 have hf:ye (jW (mQ Jv (zV jz))) (zi qZ (zi zZ (zi zI zw qe) (zi zI zw qH)) (mQ jX (zV yD))) τ C=.ok (.bl (!kI S w i j)) C:=by
  unfold kI;cases L:(S.drop w.length).any λt=>at2 t i j != 0 with
  |true=>rw[L]at f1;exact Oa f1|false=>rw[L]at f1;rw[Bool.false_or];exact(gL f1).trans f2
 have head:∀{z},zq (qR (ye (jW (mQ Jv (zV jz))) (zi qZ (zi zZ (zi zI zw qe) (zi zI zw qH)) (mQ jX (zV yD)))) yI zA) zA τ C=z->fB ρ A=z:=λT=>by
  subst m;subst e;subst d;exact(zK (qK D)).trans ((zK (qK E)).trans T)
 refine head ?_;cases M:kI S w i j with
 |true=>rw[M]at hf;exact(zK ((yc hf).trans jf)).trans jf|false=>rw[M]at hf;exact qy ((Qm hf).trans (qy (qX qw)))
def all_succ {p:Nat->Bool}{k:Nat}:(List.range (k+1)).all p=((List.range k).all p&&p k):=by
 rw[bc,List.all_append];simp
def all_false {p:Nat->Bool}{k N:Nat}(H:k<N)(h:p k=false):(List.range N).all p=false:=by
 cases e:(List.range N).all p with
 |false=>rfl|true=>exact absurd (b2.mp e k (bX.mpr H)) (by rw[h];decide)
abbrev fI:Ex:=zq (jm (jL zF) (zP 4) fB) zA
def dc {x4 x5 x6:Option W}(n:Wf K S)(h:A[0]? =some (.lst (S.map zm)))(hm:w.length<=K)(o:K<=8)(hw:∀v∈w,-100<v/\v<100)(l:i<w.length):
  (∃a Y y B,B[0]? =some (.lst (S.map zm))/\(List.range w.length).all (kI S w i)=true/\fI [some (.ref 0),some (zj w),some (.int (w.length:Int)),some (.int (i:Int)),x4,x5,x6] A=.ok (.nx [some (.ref 0),some (zj w),some (.int (w.length:Int)),some (.int (i:Int)),a,Y,y]) B)∨
  ∃B,B[0]? =some (.lst (S.map zm))/\(List.range w.length).all (kI S w i)=false/\fI [some (.ref 0),some (zj w),some (.int (w.length:Int)),some (.int (i:Int)),x4,x5,x6] A=.ok (.rt (.bl false)) B:=by
 have d:=Z2 (m:=zF) (ρ:=[some (.ref 0),some (zj w),some (.int (w.length:Int)),some (.int (i:Int)),x4,x5,x6]) (A:=A) (A1:=A) (k:=(w.length:Int)) (zo rfl) (gF (by omega))
 rw[aB]at d;rcases J0 (j:=kZ 0 w.length) (st:=turn (zP 4) fB) (N:=w.length) (I:=λk ρ B=>B[0]? =some (.lst (S.map zm))/\(List.range k).all (kI S w i)=true/\∃a Y y,ρ=[some (.ref 0),some (zj w),some (.int (w.length:Int)),some (.int (i:Int)),a,Y,y]) (Q:=λr B=>r=.bl false/\B[0]? =some (.lst (S.map zm))/\(List.range w.length).all (kI S w i)=false)
  (λk ρ B b ⟨h0,H,a,Y,y,e⟩=>by
   subst e;refine⟨_,Qc b,?_⟩;obtain⟨Z,z,C,f,p⟩:=Az (x5:=Y) (x6:=y) (j:=k) n h0 hm o hw l b;have E:=(kq (tw:=zP 4) (w:=.int (0+(k:Int))) (ρ:=[some (.ref 0),some (zj w),some (.int (w.length:Int)),some (.int (i:Int)),a,Y,y]) (ρ1:=[some (.ref 0),some (zj w),some (.int (w.length:Int)),some (.int (i:Int)),some (.int (k:Int)),Y,y]) (A:=B) (m1:=fB) (by rw[Int.zero_add];rfl)).trans p
   cases hf:kI S w i k with
   |true=>
    rw[hf]at E;exact .inl ⟨_,C,E,f,by rw[all_succ,H,hf];rfl,_,_,_,rfl⟩
   |false=>
    rw[hf]at E;exact .inr ⟨_,C,E,rfl,f,all_false b hf⟩)
  (λρ B _=>Z8 (by omega)) w.length 0 [some (.ref 0),some (zj w),some (.int (w.length:Int)),some (.int (i:Int)),x4,x5,x6] A (by omega) ⟨h,rfl,_,_,_,rfl⟩ with ⟨g,B,e,c,H,a,Y,y,rfl⟩|⟨r,B,e,rfl,c,H⟩
 ·exact .inl ⟨a,Y,y,B,c,H,(zK ((yM d).trans e)).trans jf⟩
 ·exact .inr ⟨B,c,H,qy ((yM d).trans e)⟩
def Bx (o:Wf K S)(hm:w.length<=K)(p:K<=8)(hw:∀v∈w,-100<v/\v<100):∃B,KW [.ref 0,zj w] [.lst (S.map zm)]=.ok (.bl (kH S w)) B/\B[0]? =some (.lst (S.map zm)):=by
 have l:mQ qm (zV zw) [some (.ref 0),some (zj w),none,none,none,none,none] [.lst (S.map zm)]=.ok (.int (w.length:Int)) [.lst (S.map zm)]:=by
  rw[jS (yE (w:=zj w) (ws:=w.map W.int) (A1:=[.lst (S.map zm)]) (zo rfl) rfl)];unfold qm;rw[ae]
 have E:=Z2 (m:=zF) (ρ:=[some (.ref 0),some (zj w),some (.int (w.length:Int)),none,none,none,none]) (A:=[.lst (S.map zm)]) (A1:=[.lst (S.map zm)]) (k:=(w.length:Int)) (zo rfl) (gF (by omega))
 rw[aB]at E;unfold KW;rcases J0 (j:=kZ 0 w.length) (st:=turn (zP 3) fI) (N:=w.length) (I:=λk ρ B=>B[0]? =some (.lst (S.map zm))/\(List.range k).all (λi=>(List.range w.length).all λj=>kI S w i j)=true/\∃b a Y y,ρ=[some (.ref 0),some (zj w),some (.int (w.length:Int)),b,a,Y,y]) (Q:=λr B=>r=.bl false/\B[0]? =some (.lst (S.map zm))/\kH S w=false)
  (λk ρ B c ⟨h0,H,b,a,Y,y,e⟩=>by
   subst e;refine⟨_,Qc c,?_⟩;have t:=kq (tw:=zP 3) (w:=.int (0+(k:Int))) (ρ:=[some (.ref 0),some (zj w),some (.int (w.length:Int)),b,a,Y,y]) (ρ1:=[some (.ref 0),some (zj w),some (.int (w.length:Int)),some (.int (k:Int)),a,Y,y]) (A:=B) (m1:=fI) (by rw[Int.zero_add];rfl)
   rcases dc (x4:=a) (x5:=Y) (x6:=y) (i:=k) o h0 hm p hw c with ⟨q,Z,z,C,d,h,g⟩|⟨C,d,h,g⟩
   ·exact .inl ⟨_,C,t.trans g,d,by rw[all_succ,H];exact h,_,_,_,_,rfl⟩
   ·exact .inr ⟨_,C,t.trans g,rfl,d,all_false c h⟩)
  (λρ B _=>Z8 (by omega)) w.length 0 [some (.ref 0),some (zj w),some (.int (w.length:Int)),none,none,none,none] [.lst (S.map zm)] (by omega) ⟨rfl,rfl,_,_,_,_,rfl⟩ with ⟨n,B,e,f,H,b,a,Y,y,rfl⟩|⟨r,B,e,rfl,f,H⟩
 ·refine⟨B,qQ ?_,f⟩
  rw[show kH S w=true from H]
  unfold XW;exact(zK (qK l)).trans ((zK ((yM E).trans e)).trans (qy (qX qw)))
 ·refine⟨B,qQ ?_,f⟩
  rw[H];unfold XW;exact(zK (qK l)).trans (qy ((yM E).trans e))
def He {f:Fn}{v:W}(H:A[n]? =some (.lst ws))(hn:qI ws=true)(u:qI us=true)(h:f (.ref 0::us) [.lst ws]=.ok v A1)(b:A1[0]? =some (.lst ws))(a:v.nr=true):j7 f (.ref n::us) A=.ok v A:=by
 unfold j7;dsimp only;rw[H];dsimp only;rw[hn,u,h];dsimp only[Bool.and_true,if_true];rw[List.head?_eq_getElem?,b];dsimp only;rw[hn,a]
 have:A.set n (.lst ws)=A:=by
  apply List.ext_getElem?
  intro i
  by_cases h:n=i
  ·subst h
   rw[aC (wQ H),H]
  ·rw[aF h]
 rw[this]
 rfl
def PU (H:Wf K S)(hm:w.length<=K)(a:K<=8)(hw:∀v∈w,-100<v/\v<100)(h:A[n]? =some (.lst (S.map zm))):Zq [.ref n,zj w] A=.ok (.bl (kH S w)) A:=by
 obtain⟨B,e,b⟩:=Bx H hm a hw;exact He h (gn (λ_=>j3 _) _) (by show((zj w).nr&&true)=true;rw[jP];rfl) e b rfl
end
noncomputable def dn (s:Int):bF:=(List.range (2 * s.toNat+1)).map λ(i:Nat)=>s-(i:Int)
def ext (s:Int)(w:bF):bE:=(dn s).map λv=>w++[v]
def step (S:List (bE))(L:bE)(s:Int):bE:=(L.flatMap (ext s)).filter (kH S)
def jC (S:List (bE))(z:bF):Nat->List (bF)
 |0=>[[1]]|k+1=>step S (jC S z k) (z.getD (k+1) 0)
def K1 (s:Int):(dn s).length=2 * s.toNat+1:=by unfold dn;rw[ae,ar]
def XX {s v:Int}(h0:0<=s):v∈dn s↔-s<=v/\v<=s:=by
 unfold dn;rw[mem_map]
 constructor
 ·rintro⟨i,H,rfl⟩
  have:=bX.mp H
  omega
 ·intro h
  exact⟨(s-v).toNat,bX.mpr (by omega),by omega⟩
def three {s:Nat}:2 * s+1<=3 ^ s:=by
 induction s with
 |zero=>decide|succ s i=>rw[Nat.pow_succ];omega
section
variable {K k:Nat}{w z:bF}{S:List (bE)}{L:bE}{s:Int}
def Ye {x:bF}:x∈ext s w↔∃v∈dn s,x=w++[v]:=by
 unfold ext;rw[mem_map];exact⟨λ⟨v,h,e⟩=>⟨v,h,e.symm⟩,λ⟨v,h,e⟩=>⟨v,h,e.symm⟩⟩
def Fu:(step S L s).length<=L.length * 3 ^ s.toNat:=by
 unfold step;refine a7 (List.length_filter_le _ _) ?_
 induction L with
 |nil=>rw[List.flatMap_nil];exact zero_le _|cons w L i=>
  rw[flatMap_cons,aE,bD,Nat.succ_mul]
  have:(ext s w).length<=3 ^ s.toNat:=by
   unfold ext;rw[ae,K1];exact three
  omega
def Pm (M:bE):(M.flatMap (ext s)).length=M.length * (2 * s.toNat+1):=by
 induction M with
 |nil=>rw[List.flatMap_nil];show 0=0 * _;rw[Nat.zero_mul]|cons w M i=>
  rw[flatMap_cons,aE,i,bD,Nat.add_mul M.length 1,Nat.one_mul,add_comm];unfold ext;rw[ae,K1]
structure Zs (K:Nat)(z:bF):Prop where
 l:z.length=K
 p:∀v∈z,1<=v
 s:z.sum<=8
 h:z.getD 0 0=1
theorem Yn:∀(z:bF),(∀v∈z,1<=v)->∀v∈z,0<=z.sum/\v<=z.sum
 |[],_,v,h=>by cases h|x::z,p,v,H=>by
  have c:=p x (aK ..);have b:0<=z.sum:=by
   cases z with
   |nil=>exact Int.le_refl _|cons y Z=>exact(Yn (y::Z) (λu a=>p u (aL _ a)) y (aK ..)).1
  rw[sum_cons];rcases b0.mp H with rfl|H
  ·omega
  ·have:=(Yn z (λu a=>p u (aL _ a)) v H).2
   omega
def Zs.le (h:Zs K z)(H:k<K):1<=z.getD k 0/\z.getD k 0<=8:=by
 have hm:z.getD k 0∈z:=by
  rw[aa,ab (by rw[h.l];exact H)]
  exact aG _
 have:=Yn z h.p _ hm
 have:=h.p _ hm
 have:=h.s
 omega
theorem Kl (a:Zs K z):∀k,k<K->∀w∈jC S z k,w.length=k+1/\(∀v∈w,-9<v/\v<9)/\w.getD 0 0=1/\∀i,i<=k->-(z.getD i 0)<=w.getD i 0/\w.getD i 0<=z.getD i 0
 |0,c,w,h=>by
  have:w=[1]:=b1.mp h
  subst this;refine⟨rfl,λv b=>by rw[b1.mp b];omega,rfl,λi f=>?_⟩
  have:i=0:=by omega
  subst this;rw[a.h];show -1<=(1:Int)/\(1:Int)<=1;omega
 |k+1,c,w,h=>by
  obtain⟨x,d,hw⟩:=List.mem_flatMap.mp (List.mem_filter.mp h).1;obtain⟨v,b,rfl⟩:=Ye.mp hw;obtain⟨n,m,j,g⟩:=Kl a k (by omega) x d
  have Z:=a.le c;have D:=(XX (by omega)).mp b
  refine⟨by rw[aE,n];rfl,λu H=>?_,?_,λi f=>?_⟩
  ·rcases List.mem_append.mp H with H|H
   ·exact m u H
   ·rw[b1.mp H];omega
  ·rw[aa,ah (by omega),<- aa]
   exact j
  ·by_cases e:i=k+1
   ·subst e
    rw[aa (l:=x++[v]),ax (by omega),show k+1-x.length=0 by omega]
    exact D
   ·rw[aa (l:=x++[v]),ah (by omega),<- aa]
    exact g i (by omega)
theorem RN (h:Zs K z):∀k,k<K->(jC S z k).length<=3 ^ (((z.drop 1).take k).sum).toNat
 |0,_=>by show 1<=3 ^ 0;decide|k+1,H=>by
  have i:=RN h k (by omega)
  have Z:=h.le H;have e:(z.drop 1).take (k+1)=(z.drop 1).take k++[z.getD (k+1) 0]:=by
   rw[List.take_succ,List.getElem?_drop,add_comm 1 k,ab (by rw[h.l];exact H),aa,ab (by rw[h.l];exact H)]
   rfl
  have n:0<=((z.drop 1).take k).sum:=by
   cases q:(z.drop 1).take k with
   |nil=>exact Int.le_refl _|cons y l=>
    refine(Yn (y::l) (λu a=>h.p u ?_) y (aK ..)).1;rw[<- q]at a;exact mem_of_mem_drop (List.mem_of_mem_take a)
  have b:=Fu (S:=S) (L:=jC S z k) (s:=z.getD (k+1) 0);rw[e,sum_append,List.sum_singleton,Int.toNat_add n (by omega),Nat.pow_add]
  exact a7 b (Nat.mul_le_mul_right _ i)
def R3 (h:Zs K z)(c:k<K):(jC S z k).length<=2187:=by
 refine a7 (RN h k c) ?_
 have:(((z.drop 1).take k).sum).toNat<=7:=by
  have a:∀l:bF,(∀v∈l,1<=v)->0<=l.sum:=λl b=>by
   cases l with
   |nil=>exact Int.le_refl _|cons y l=>exact(Yn (y::l) b y (aK ..)).1
  have e:z.sum=(z.take 1).sum+((z.drop 1).take k).sum+((z.drop 1).drop k).sum:=by
   rw[<- sum_append,<- sum_append,aQ,List.take_append_drop,List.take_append_drop]
  have a1:1<=(z.take 1).sum:=by
   cases z with
   |nil=>have:=h.l;simp at this;omega|cons x z=>
    have:=h.p x (aK ..)
    simp;omega
  have a2:=a ((z.drop 1).drop k) λv H=>h.p v (mem_of_mem_drop (mem_of_mem_drop H))
  have:=h.s
  omega
 exact Nat.pow_le_pow_right (by decide) this
variable {m j:Nat}
def FF {vs:List W}(h:us.length+vs.length<=1000):qM (.tup us) (.tup vs) A=.ok (.tup (us++vs)) A:=by
 unfold qM;dsimp only;rw[ag (by unfold qf;omega)]
abbrev VC:Em:=k5 (Yr zF (zi yy (ka Qq zF) jj)) (zP 1) qd (zR (zi qM zt (yk (zh zw zr))))
def BC {x1:Option W}{acc:List W}(h0:0<=s)(n:s<=8)(hw:w.length<=8)(m:acc.length<=90000):∃Y,VC [some (zj w),x1,some (.int s)] acc A=.ok ([some (zj w),Y,some (.int s)],acc++(ext s w).map zj) A:=by
 have r:Yr zF (zi yy (ka Qq zF) jj) [some (zj w),x1,some (.int s)] A=.ok (Jp s (2 * s.toNat+1)) A:=by
  have E:zi yy (ka Qq zF) jj [some (zj w),x1,some (.int s)] A=.ok (.int (-s-1)) A:=(zN (x:=.int (-s)) (A1:=A) ((Bg (g:=Qq) (zo (i:=2) rfl)).trans rfl) qw).trans rfl;unfold Yr;rw[show zF [some (zj w),x1,some (.int s)] A=.ok (.int s) A from zo rfl,zS,E,zS]
  show(if (jJ s&&jJ (-s-1))=true then R.ok (Jp s (s-(-s-1)).toNat) A else .bad)=_;rw[ag,show(s-(-s-1)).toNat=2 * s.toNat+1 by omega]
  have:s=0∨s=1∨s=2∨s=3∨s=4∨s=5∨s=6∨s=7∨s=8:=by omega
  rcases this with rfl|rfl|rfl|rfl|rfl|rfl|rfl|rfl|rfl<;>decide
 obtain⟨f,d,o,e,E,c,Y,b⟩:=Xc (j:=Jp s (2 * s.toNat+1)) (tw:=zP 1) (ifs:=qd) (em:=zR (zi qM zt (yk (zh zw zr)))) (N:=2 * s.toNat+1) (I:=λk ρ a B=>B=A/\a=acc++((dn s).take k).map (λv=>zj (w++[v]))/\∃Y,ρ=[some (zj w),Y,some (.int s)])
  (λk ρ a B h ⟨E,c,Y,b⟩=>by
   subst E c b;have l:k<(dn s).length:=by rw[K1];exact h
   have H:(dn s)[k]=s-(k:Int):=by simp[dn]
   refine⟨.int (s-(k:Int)),_,?_,rfl,.inl ⟨_,_,_,_,qw,J8 (y:=zj (w++[s-(k:Int)])) ((zN (zo rfl) (Xp (zy (zo rfl) zM))).trans ((FF ?_).trans ?_)) ?_,rfl,?_,_,rfl⟩⟩
   ·show(if k<2 * s.toNat+1 then some (some (W.int (s-(k:Int)))) else some none)=_
    rw[ag h]
   ·rw[ae];show w.length+1<=1000;omega
   ·unfold zj;rw[aP];rfl
   ·rw[aE,ae,bj];unfold qf;omega
   ·rw[take_succ l,aP,H,aQ];rfl)
  (λρ a B _=>by
   show(if 2 * s.toNat+1<2 * s.toNat+1 then some (some (W.int (s-((2 * s.toNat+1:Nat):Int)))) else some none)=_;rw[aj (by omega)]) (2 * s.toNat+1) 0 [some (zj w),x1,some (.int s)] acc A (by omega) ⟨rfl,by rw[take_zero,map_nil,append_nil],_,rfl⟩
 subst E c b;refine⟨Y,?_⟩;show(k5 _ _ _ _ _ _ _)=_;unfold k5;rw[r,zS];refine e.trans ?_;rw[a5 (by rw[K1];exact ao _)]
 unfold ext;rw[aR]
 rfl
abbrev Nr:jD:=zT 2 [3] (qi zF) (zP 0) qd VC
def dd {x y:Option W}{r:Nat}{a:W}(h0:0<=s)(l:s<=8)(j:∀w∈L,w.length<=8)(t:L.length * 17<=90000)(H:A[r]? =some (.lst (L.map zj))):Nr [some a,x,some (.ref r),some (.int s),y] A=.ok ((L.flatMap (ext s)).map zj) A:=by
 have i:∀k,((L.take k).flatMap (ext s)).length<=L.length * 17:=λk=>by
  rw[Pm];have o:(L.take k).length<=L.length:=by rw[bj];omega
  have m:2 * s.toNat+1<=17:=by omega
  exact mul_le_mul o m
 obtain⟨g,f,u,e,E,b,_⟩:=JY (nl:=2) (cap:=[3]) (mi:=qi zF) (ρ:=[some a,x,some (.ref r),some (.int s),y]) (tw:=zP 0) (ifs:=qd) (em:=VC) (N:=L.length) (I:=λk ρ c B=>B=A/\c=((L.take k).flatMap (ext s)).map zj/\∃d Y,ρ=[d,Y,some (.int s)]) (Zm (n:=r) (zo rfl) H) (by show(L.map zj).length=L.length;rw[ae])
  (λk ρ c B h ⟨E,b,d,Y,q⟩=>by
   subst E b q;have hm:=i k;obtain⟨z,p⟩:=BC (A:=B) (w:=L[k]) (x1:=Y) (acc:=((L.take k).flatMap (ext s)).map zj) h0 l (j _ (aG h)) (by rw[ae];omega)
   refine⟨zj L[k],_,(kD H).trans (by rw[ak,ab h];rfl),rfl,.inl ⟨_,_,_,_,qw,p,rfl,?_,_,_,rfl⟩⟩
   rw[take_succ h,a9,aP,List.flatMap_singleton])
  (λρ c B ⟨E,_⟩=>by
   subst E;exact(kD H).trans (by rw[au (by rw[ae];exact ao _)]))
  ⟨rfl,by rw[take_zero];rfl,_,_,rfl⟩
 subst E b;rw[a5 (ao _)]at e;exact e
abbrev NF:jD:=zT 1 [1] (qi qH) (zP 0) (zx Zq (zh zw (zh zt zr))) (zR zt)
def A7 {x2 x3:Option W}{r:Nat}{a:W}(m:Wf K S)(p:K<=8)(o:∀w∈L,w.length<=K/\∀v∈w,-100<v/\v<100)(s:L.length<=90000)(h0:A[0]? =some (.lst (S.map zm)))(H:A[r]? =some (.lst (L.map zj))):NF [some a,some (.ref 0),x2,x3,some (.ref r)] A=.ok ((L.filter (kH S)).map zj) A:=by
 obtain⟨i,g,t,e,E,d,_⟩:=JY (nl:=1) (cap:=[1]) (mi:=qi qH) (ρ:=[some a,some (.ref 0),x2,x3,some (.ref r)]) (tw:=zP 0) (ifs:=zx Zq (zh zw (zh zt zr))) (em:=zR zt) (N:=L.length) (I:=λk ρ c B=>B=A/\c=((L.take k).filter (kH S)).map zj/\∃y,ρ=[y,some (.ref 0)]) (Zm (n:=r) (zo rfl) H) (by show(L.map zj).length=L.length;rw[ae])
  (λk ρ c B h ⟨E,d,y,q⟩=>by
   subst E d q;obtain⟨l,j⟩:=o _ (aG h);have b:=(zQ (f:=Zq) (ρ:=[some (zj L[k]),some (.ref 0)]) (A:=B) (zy (ma:=zw) (zo rfl) (zy (ma:=zt) (zo rfl) zM))).trans (PU m l p j h0);refine⟨zj L[k],[some (zj L[k]),some (.ref 0)],(kD H).trans (by rw[ak,ab h];rfl),rfl,?_⟩
   cases hf:kH S L[k] with
   |true=>
    rw[hf]at b;refine .inl ⟨_,_,_,_,b,J8 (zo rfl) ?_,rfl,?_,_,rfl⟩
    ·rw[ae]
     have:=List.length_filter_le (kH S) (L.take k)
     rw[bj]at this;unfold qf;omega
    ·rw[take_succ h,List.filter_append,aP,List.filter_cons_of_pos hf,List.filter_nil];rfl
   |false=>
    rw[hf]at b;refine .inr ⟨_,b,rfl,?_,_,rfl⟩;rw[take_succ h,List.filter_append,List.filter_cons_of_neg (by rw[hf];decide),List.filter_nil,append_nil])
  (λρ c B ⟨E,_⟩=>by
   subst E;exact(kD H).trans (by rw[au (by rw[ae];exact ao _)]))
  ⟨rfl,by rw[take_zero];rfl,_,rfl⟩
 subst E d;rw[a5 (ao _)]at e;exact e
structure Dt (t:bE)(K:Nat)(S:List (bE))(z:bF):Prop where
 tab:qc t
 kd:qa t=(K:Int)
 sd:ZF t K=[]
 ks:∀A,ZR [zm t] A=.ok (.ref A.length) (A++[.lst (S.map zm)])
 zf:∀A,gc [zm t] A=.ok (.ref A.length) (A++[.lst (z.map W.int)])
 wf:Wf K S
 zs:Zs K z
 k1:1<=K
 k8:K<=8
abbrev sB:Ex:=zq (zX 4 (jk Nr)) (zq (zX 2 (jk NF)) zA)
def Ap {r:Nat}{x4:Option W}(h:Dt t K S z)(f:k+1<K)(h0:A[0]? =some (.lst (S.map zm)))(g:A[r]? =some (.lst ((jC S z k).map zj))):∃Y c C,sB [some (zm t),some (.ref 0),some (.ref r),some (.int (z.getD (k+1) 0)),x4] A=.ok (.nx [some (zm t),some (.ref 0),some (.ref c),some (.int (z.getD (k+1) 0)),Y]) C/\Ext A C/\C[c]? =some (.lst ((jC S z (k+1)).map zj)):=by
 have b:=Kl (S:=S) h.zs k (by omega)
 have j:=R3 (S:=S) h.zs (k:=k) (by omega)
 have Z:=h.zs.le f;have k8:=h.k8;have m:=kR (dd (s:=z.getD (k+1) 0) (x:=some (.ref 0)) (y:=x4) (a:=zm t) (by omega) (by omega) (λw hw=>by have:=(b w hw).1;omega) (by omega) g)
 have L:∀w∈(jC S z k).flatMap (ext (z.getD (k+1) 0)),w.length<=K/\∀v∈w,-100<v/\v<100:=λw hw=>by
  obtain⟨x,d,hw⟩:=List.mem_flatMap.mp hw;obtain⟨v,e,rfl⟩:=Ye.mp hw;obtain⟨s1,s2,_⟩:=b x d;have D:=(XX (by omega)).mp e
  refine⟨by rw[aE,s1];show k+1+1<=K;omega,λu H=>?_⟩
  rcases List.mem_append.mp H with H|H
  ·have:=s2 u H;omega
  ·rw[b1.mp H];omega
 have l:((jC S z k).flatMap (ext (z.getD (k+1) 0))).length<=90000:=by
  rw[Pm];have i:2 * (z.getD (k+1) 0).toNat+1<=17:=by omega
  exact a7 (mul_le_mul j i) (by decide)
 have E:=kR (A7 (x2:=some (.ref r)) (x3:=some (.int (z.getD (k+1) 0))) (a:=zm t) (A:=A++[.lst (((jC S z k).flatMap (ext (z.getD (k+1) 0))).map zj)]) (r:=A.length) h.wf h.k8 L l (yF h0) kh);exact⟨_,_,_,(zK (qK m)).trans ((zK (qK E)).trans jf),Ext.one.trans Ext.one,kh⟩
def Xj (h:Dt t K S z)(A:Hx):QE [zm t] A=.ok (.ref A.length) (A++[.lst ((jC S z (K-1)).map zj)]):=by
 have Z:=h.zs.l;have k1:=h.k1;have k8:=h.k8;have v:=h.ks [];have u:=h.zf [.lst (S.map zm),.lst [.tup [.int 1]]];have E:=PK (m:=zx gc (zh zt zr)) (p:=jj) (ρ:=[some (zm t),some (.ref 0),some (.ref 1),none,none]) (A0:=[.lst (S.map zm),.lst [.tup [.int 1]]]) (n:=2) (k:=1) ((zQ (zy (zo rfl) zM)).trans u) rfl qw (by rw[ae,Z];exact k1)
 rw[<- List.map_drop]at E;have hd:(z.drop 1).length=K-1:=by rw[bC,Z]
 have c:∀(B:Hx)(i:Nat),B[3]? =some (.lst ((z.drop 1).map W.int))->i<K-1->((zW (.ref 3) B).map λws=>ws[i]?)=some (some (.int (z.getD (i+1) 0))):=λB i s d=>by
  rw[kD s,ak,List.getElem?_drop,add_comm 1 i,ab (by rw[Z];omega),aa,ab (by rw[Z];omega)]
  rfl
 obtain⟨f,B,e,h0,H,r,Y,y,rfl,b⟩:=Zl (j:=⟨λA i=>(zW (.ref 3) A).map λws=>ws[i]?,K-1⟩) (st:=turn (zP 3) sB) (N:=K-1) (I:=λk ρ B=>B[0]? =some (.lst (S.map zm))/\B[3]? =some (.lst ((z.drop 1).map W.int))/\∃r Y y,ρ=[some (zm t),some (.ref 0),some (.ref r),Y,y]/\B[r]? =some (.lst ((jC S z k).map zj)))
  (λi ρ B d ⟨h0,H,r,Y,y,a,b⟩=>by
   subst a;obtain⟨w,g,C,e,x,q⟩:=Ap (x4:=y) h (k:=i) (by omega) h0 b
   exact⟨_,_,C,c B i H d,(kq rfl).trans e,x.at h0,x.at H,g,_,_,rfl,q⟩)
  (λρ B ⟨_,H,_⟩=>by
   show((zW (.ref 3) B).map λws=>ws[K-1]?)=_;rw[kD H,au (by rw[ae,hd];exact ao _)]) (K-1) 0 [some (zm t),some (.ref 0),some (.ref 1),none,none] [.lst (S.map zm),.lst [.tup [.int 1]],.lst (z.map W.int),.lst ((z.drop 1).map W.int)] (by omega) ⟨rfl,rfl,1,_,_,rfl,rfl⟩
 refine Yc (k:=r) (A1:=B) (kj t) (qQ ?_) b (gn (λ_=>jP _) _);unfold Ug;have o:(K-1)=((z.drop 1).map W.int).length:=by rw[ae,hd]
 rw[o]at e;exact(zK (qK ((zQ (zy (zo rfl) zM)).trans v))).trans ((zK (qK (kC (zy (Xp (zy qw zM)) zM)))).trans ((zK ((yM (Zm E rfl)).trans e)).trans (qy (qX (zo rfl)))))
end
noncomputable def sm (n:Nat)(f:Nat->Int):Int:=((List.range n).map f).sum
def yO (n:Nat)(f:Nat->Int):sm (n+1) f=sm n f+f n:=by
 unfold sm;rw[bc,aP,sum_append];simp
def jb {f g:Nat->Int}(h:∀i,i<n->f i=g i):sm n f=sm n g:=by
 unfold sm
 congr 1
 exact bt λi H=>h i (bX.mp H)
def Xq (n:Nat):sm n (λ_=>0)=0:=by
 induction n with
 |zero=>rfl|succ n i=>rw[yO,i];rfl
def P0 (n:Nat)(f g:Nat->Int):sm n (λi=>f i+g i)=sm n f+sm n g:=by
 induction n with
 |zero=>rfl|succ n I=>rw[yO,yO,yO,I];omega
def X0 {a:Nat}(b:a<n)(v:Int):sm n (λi=>if i=a then v else 0)=v:=by
 induction n with
 |zero=>omega|succ n I=>
  rw[yO]
  by_cases h:a=n
  ·subst h
   have:sm a (λi=>if i=a then v else 0)=sm a λ_=>0:=jb λi H=>aj (by omega)
   rw[this,Xq,ag rfl];omega
  ·rw[I (by omega),aj (by omega)]
   omega
def ds (K:Nat)(f:Nat->Nat->Int):Int:=sm K λi=>sm K (f i)
def Eg {K:Nat}{f g:Nat->Nat->Int}(h:∀i j,i<K->j<K->f i j=g i j):ds K f=ds K g:=jb λi a=>jb λj H=>h i j a H
def D5 (K:Nat)(f:Nat->Nat->Int):((List.range K).flatMap λi=>(List.range K).map (f i)).sum=ds K f:=by
 have:∀m,((List.range m).flatMap λi=>(List.range K).map (f i)).sum=sm m λi=>sm K (f i):=by
  intro m
  induction m with
  |zero=>rfl|succ m I=>
   rw[bc,a9,sum_append,I,yO];simp[sm]
 exact this K
section
variable {k:Nat}{r:bF}
def Xb (h:r.length<=8)(A:Hx):gC [zj r,.int (r.length:Int)] A=.ok (.bl true) A:=Rn h A
def Js (ht:qc t)(h:qa t=(r.length:Int))(A:Hx):QM [zm t,zj r] A=.ok .non A:=by
 have K:=yP ht;refine yb (A1:=[]) (by show((zm t).nr&&((zj r).nr&&true))=true;rw[j3,jP];rfl) rfl (Yb (ρ:=[some (zm t),some (zj r)]) ?_)
 unfold UK;exact(zK ((yc (wq (k:=true) ((zQ (zy (zo rfl) (zy ((zQ (zy (zo rfl) zM)).trans (Z7 ht [])) zM))).trans (by rw[h];exact Xb (by omega) [])))).trans jf)).trans jf
variable {x y:bF}{a b c e K:Nat}{S:Nat->List (bF)}
noncomputable def mv (x:bF)(v:Int):Int:=x.getD v.toNat 0
def pv (K:Nat)(S:Nat->List (bF))(x y:bF):bF:=(List.range K).map λk=>ds K λi j=>x.getD i 0 * y.getD j 0 * at2 (S k) i j
def C9:(pv K S x y).length=K:=by unfold pv;rw[ae,ar]
def Av (h:k<K):(pv K S x y).getD k 0=ds K λi j=>x.getD i 0 * y.getD j 0 * at2 (S k) i j:=by
 unfold pv;rw[aa,ak,aM h]
 rfl
def de (ht:qc t)(s:ja t)(j:qa t=(K:Int))(i:k<K):∃b,b<t.length/\at2 t 0 b=(k:Int):=by
 obtain⟨a,b,h,f,e⟩:=gQ ht (v:=k) (by omega)
 have n1:=ht.n1;have D:at2 t 0 0=at2 t a a:=by rw[(ht.dg 0 0 n1 n1).mpr rfl,(ht.dg a a h h).mpr rfl]
 have H:=s 0 0 a a n1 n1 h h D;have hm:((k:Int),(k:Int))∈wD t a a:=by
  unfold wD;exact bZ.mpr ⟨b,bX.mpr f,by rw[e]⟩
 obtain⟨c,d,E⟩:=bZ.mp (H.mem_iff.mpr hm);injection E with g _
 exact⟨c,bX.mp d,g⟩
def Au (ht:qc t)(H:a<t.length)(h:b<t.length)(i j:Nat):0<=shr t a b t.length i j/\shr t a b t.length i j<=8:=by
 rw[QQ ht H h _ (ao _)]
 have:=List.count_le_length (a:=((i:Int),(j:Int))) (l:=(List.range t.length).map λc=>(at2 t a c,at2 t b c))
 rw[ae,ar]at this
 have:=ht.n8
 omega
end
section
variable {N:bE}{x y:bF}{a b e j k K r:Nat}{S:Nat->List (bF)}{B:Hx}{μ:Nat->Nat->Int}
def BR {i j:Int}(H:-1000000000000000<j)(h:j<1000000000000000):zZ (.int i) (.int j) A=.ok (.int (i * j)) A:=by
 unfold zZ;dsimp only;rw[ag];unfold Qp;rw[bh]
 right
 rw[aq,ai,ai];omega
def B2 {i j:Int}(H:-1000000000000000000<i)(h:i<1000000000000000000):zZ (.int i) (.int j) A=.ok (.int (i * j)) A:=by
 unfold zZ;dsimp only;rw[ag];unfold Qp;rw[bh]
 left
 rw[aq,ai,ai];omega
def Gd (x y:bF):Prop:=∀(i j:Nat)(A:Hx),zZ (.int (x.getD i 0)) (.int (y.getD j 0)) A=.ok (.int (x.getD i 0 * y.getD j 0)) A
def Sn (r:bF):Prop:=∀v∈r,-1000000000000000000<v/\v<1000000000000000000
def Pw (h:Sn x)(i:Nat):-1000000000000000000<x.getD i 0/\x.getD i 0<1000000000000000000:=by
 by_cases hi:i<x.length
 ·rw[aa,ab hi]
  exact h _ (aG hi)
 ·rw[aa,au (by omega)]
  exact⟨by decide,by decide⟩
def df (h:Sn x):Gd x y:=λi _ _=>B2 (Pw h i).1 (Pw h i).2
def X9 {vs:List W}{u v:W}(H:us[i]? =some u)(h:vs[i]? =some v):(yH (.tup us) (.tup vs) us.length).at_ A i=some (some (.tup [u,v])):=by
 show some (zip2 us[i]? vs[i]?)=_;rw[H,h]
 rfl
def XC {vs:List W}(h:us.length<=i):(yH (.tup us) (.tup vs) us.length).at_ A i=some none:=by
 show some (zip2 us[i]? vs[i]?)=_;rw[au h]
 rfl
def FL (h:i<K):((jN K μ).map zj)[i]? =some (zj ((List.range K).map (μ i))):=by
 unfold jN;rw[ak,ak,aM h]
 rfl
def Dz (p:x.length=K)(o:y.length=K)(sy:Gd x y)(v:K<=8)(g:∀i j,0<=μ i j/\μ i j<=8)(A:Hx):Y4 [zm (jN K μ),zj x,zj y] A=.ok (.int (ds K λi j=>x.getD i 0 * y.getD j 0 * μ i j)) A:=by
 refine yb (A1:=[]) (by show((zm (jN K μ)).nr&&((zj x).nr&&((zj y).nr&&true)))=true;rw[j3,jP,jP];rfl) rfl (qQ ?_)
 unfold UI;have hm:jH (zO 1) (zO 0) [some (zm (jN K μ)),some (zj x),some (zj y)] []=.ok (yH (.tup (x.map W.int)) (.tup ((jN K μ).map zj)) (x.map W.int).length) []:=J6 (zo rfl) (zo rfl);obtain⟨c,acc,B,e,_,b,h⟩:=JY (nl:=4) (cap:=[2]) (tw:=qG 0 1) (ifs:=z7 (.bl true)) (em:=k5 (jH (zO 4) (zO 1)) (qG 2 3) (z7 (.bl true)) (zR (zi zZ (zi zZ (zO 0) (zO 2)) (zO 3)))) (N:=K)
  (I:=λi ρ acc B=>(∃n m a Y,ρ=[n,m,a,Y,some (zj y)])/\B=[]/\acc=(((List.range i).flatMap λi=>(List.range K).map λj=>x.getD i 0 * y.getD j 0 * μ i j)).map W.int) hm (by show(x.map W.int).length=K;rw[ae,p])
  (λi ρ acc B u ⟨⟨n,m,a,Y,H⟩,b,h⟩=>by
   subst H b h;refine⟨_,[some (.int (x.getD i 0)),some (zj ((List.range K).map (μ i))),a,Y,some (zj y)],X9 (int_at (by omega)) (FL u),rfl,.inl ?_⟩
   obtain⟨c,acc,B,e,⟨f,d,H⟩,b,h⟩:=Xc (j:=yH (.tup (y.map W.int)) (.tup (((List.range K).map (μ i)).map W.int)) (y.map W.int).length) (tw:=qG 2 3) (ifs:=z7 (.bl true)) (em:=zR (zi zZ (zi zZ (zO 0) (zO 2)) (zO 3))) (N:=K)
    (I:=λj ρ acc B=>(∃a Y,ρ=[some (.int (x.getD i 0)),some (zj ((List.range K).map (μ i))),a,Y,some (zj y)])/\B=[]/\acc=(((List.range i).flatMap λi=>(List.range K).map λj=>x.getD i 0 * y.getD j 0 * μ i j)++(List.range j).map λj=>x.getD i 0 * y.getD j 0 * μ i j).map W.int)
    (λj ρ acc B t ⟨⟨a,Y,H⟩,b,h⟩=>by
     subst H b h;have r:=g i j;refine⟨_,[some (.int (x.getD i 0)),some (zj ((List.range K).map (μ i))),some (.int (y.getD j 0)),some (.int (μ i j)),some (zj y)],X9 (int_at (by omega)) (by rw[ak,ak,aM t];rfl),rfl,.inl ⟨[],_,_,[],rfl,J8 (y:=.int (x.getD i 0 * y.getD j 0 * μ i j)) ?_ ?_,⟨_,_,rfl⟩,rfl,?_⟩⟩
     ·exact(zN ((zN (zo rfl) (zo rfl)).trans (sy i j _)) (zo rfl)).trans (BR (by omega) (by omega))
     ·rw[ae,aE,ae,ar,List.length_flatMap]
      have:((List.range i).map λi=>((List.range K).map λj=>x.getD i 0 * y.getD j 0 * μ i j).length).sum=i * K:=by
       have:((List.range i).map λi=>((List.range K).map λj=>x.getD i 0 * y.getD j 0 * μ i j).length)=List.replicate i K:=by
        refine List.eq_replicate_iff.mpr ⟨by simp,λz l=>?_⟩
        obtain⟨q,_,rfl⟩:=bZ.mp l;simp
       rw[this,List.sum_replicate_nat]
      rw[this]
      have:i * K<=7 * 8:=mul_le_mul (by omega) (by omega)
      unfold qf;omega
     ·rw[bc,aP,aP,aP,aP,aQ]
      rfl)
    (λρ acc B _=>XC (by rw[ae];omega)) K 0 [some (.int (x.getD i 0)),some (zj ((List.range K).map (μ i))),a,Y,some (zj y)] ((((List.range i).flatMap λi=>(List.range K).map λj=>x.getD i 0 * y.getD j 0 * μ i j)).map W.int) [] (by omega) ⟨⟨_,_,rfl⟩,rfl,by simp⟩
   subst H b h;refine⟨[],[some (.int (x.getD i 0)),some (zj ((List.range K).map (μ i))),f,d,some (zj y)],(((List.range i).flatMap λi=>(List.range K).map λj=>x.getD i 0 * y.getD j 0 * μ i j)++(List.range K).map λj=>x.getD i 0 * y.getD j 0 * μ i j).map W.int,[],rfl,?_,⟨_,_,_,_,rfl⟩,rfl,?_⟩
   ·unfold k5
    have l:jH (zO 4) (zO 1) [some (.int (x.getD i 0)),some (zj ((List.range K).map (μ i))),a,Y,some (zj y)] []=.ok (yH (.tup (y.map W.int)) (.tup (((List.range K).map (μ i)).map W.int)) (y.map W.int).length) []:=J6 (zo rfl) (zo rfl);rw[l,zS];have s:(yH (.tup (y.map W.int)) (.tup (((List.range K).map (μ i)).map W.int)) (y.map W.int).length).len=K:=by show(y.map W.int).length=K;rw[ae,o]
    rw[s];exact e
   ·rw[bc,a9]
    simp)
  (λρ acc B _=>XC (by rw[ae];omega)) ⟨⟨_,_,_,_,rfl⟩,rfl,rfl⟩
 subst b h;refine qy (qX ((jS e).trans ?_));rw[Q2,D5]
def Sk (ht:qc t)(f:qa t=(K:Int))(c:∀a b,a<t.length->b<t.length->qW t K a b=S (at2 t a b).toNat)(d:k<K):∃μ,S k=jN K μ/\∀i j,0<=μ i j/\μ i j<=8:=by
 obtain⟨a,b,H,h,e⟩:=gQ ht (v:=k) (by omega)
 exact⟨shr t a b t.length,by have:=c a b H h;rw[e,aB]at this;rw[<- this];rfl,λi j=>Au ht H h i j⟩
def dh (ht:qc t)(o:qa t=(K:Int))(n:∀a b,a<t.length->b<t.length->qW t K a b=S (at2 t a b).toNat)(f:x.length=K)(d:y.length=K)(sy:Gd x y)(c:A[r]? =some (.lst ((List.range K).map λk=>zm (S k)))):Ki [.ref r,zj x,zj y] A=.ok (zj (pv K S x y)) A:=by
 have p:=yP ht;unfold Ki GX;refine qQ ?_;unfold Sj;have e:=gE (cap:=[1,2]) (mi:=qi (zO 0)) (me:=zx Y4 (zh (zO 0) (zh (zO 1) (zh (zO 2) zr)))) (ρ:=[some (.ref r),some (zj x),some (zj y)]) (A:=A) (N:=K) (item:=λk=>zm (S k)) (g:=λk=>.int (ds K λi j=>x.getD i 0 * y.getD j 0 * at2 (S k) i j)) (Zm (zo rfl) c) (by show((List.range K).map _).length=K;rw[ae,ar]) (by unfold qf;omega)
  (λi H=>P8 c (by rw[ak,aM H];rfl)) (Oq c (by rw[ae,ar];exact ao _))
  (λk l=>by
   obtain⟨μ,E,h⟩:=Sk ht o n l;refine(zQ (ws:=[zm (S k),zj x,zj y]) (A1:=A) rfl).trans ?_;rw[E,Dz f d sy (by omega) h A]
   congr 2
   exact Eg λi j H m=>by rw[Q3 H m])
 refine qy (qX ((wt e).trans ?_));unfold pv zj;rw[aR]
 rfl
def Cp (ht:qc t)(s:ja t)(h:qa t=(K:Int))(d:∀a b,a<t.length->b<t.length->qW t K a b=S (at2 t a b).toNat)(c:x.length=K)(H:y.length=K)(sy:Gd x y)(A:Hx):Kk [zm t,zj x,zj y] A=.ok (zj (pv K S x y)) A:=by
 refine yb (A1:=[.lst ((List.range K).map λk=>zm (S k))]) (by show((zm t).nr&&((zj x).nr&&((zj y).nr&&true)))=true;rw[j3,jP,jP];rfl) (jP _) (qQ ?_)
 unfold SX;refine(zK (yh ((zQ (zy (zo rfl) zM)).trans (Zv ht h (Xl ht s) [])))).trans ?_;refine(zK (yh ((zQ (zy (zo rfl) (zy (zo rfl) zM))).trans (Js ht (by rw[h,c]) [])))).trans ?_
 refine(zK (yh ((zQ (zy (zo rfl) (zy (zo rfl) zM))).trans (Js ht (by rw[h,H]) [])))).trans (qy (qX ?_))
 exact(zQ (ws:=[.ref 0,zj x,zj y]) (A1:=[.lst ((List.range K).map λk=>zm (S k))]) (zy ((zQ (zy (zo rfl) zM)).trans (S8 ht h d [])) (zy (zo rfl) (zy (zo rfl) zM)))).trans (dh ht h d c H sy rfl)
noncomputable def av (x y:bF):bF:=(List.range x.length).map λi=>x.getD i 0+y.getD i 0
def Bw {q p:Nat}(l:y.length=x.length)(b:x.length<=8)(H:ρ[q]? =some (some (zj x)))(a:ρ[p]? =some (some (zj y))):mQ qU (zT 2 [] (jH (zO q) (zO p)) (qG 0 1) (z7 (.bl true)) (zR (zi qM (zO 0) (zO 1)))) ρ A=.ok (zj (av x y)) A:=by
 have e:=JW (A:=A) (cap:=[]) (ρ:=ρ) (me:=zi qM (zO 0) (zO 1)) (N:=x.length) (u:=λi=>.int (x.getD i 0)) (v:=λi=>.int (y.getD i 0)) (g:=λi=>.int (x.getD i 0+y.getD i 0)) (J6 (zo H) (zo a)) (by show(x.map W.int).length=_;rw[ae]) (by omega)
  (λi h=>X9 (int_at h) (int_at (by omega))) (XC (by rw[ae];exact ao _)) (λi h=>(zN (zo rfl) (zo rfl)).trans rfl)
 refine(wt e).trans ?_;unfold av zj;rw[aR]
 rfl
def EG (ht:qc t)(s:ja t)(h:qa t=(K:Int))(a:x.length=K)(H:y.length=K)(A:Hx):KG [zm t,zj x,zj y] A=.ok (zj (av x y)) A:=by
 have b:=yP ht;refine yb (A1:=[]) (by show((zm t).nr&&((zj x).nr&&((zj y).nr&&true)))=true;rw[j3,jP,jP];rfl) (jP _) (qQ ?_)
 unfold Pr;refine(zK (yh ((zQ (zy (zo rfl) zM)).trans (Zv ht h (Xl ht s) [])))).trans ?_;refine(zK (yh ((zQ (zy (zo rfl) (zy (zo rfl) zM))).trans (Js ht (by rw[h,a]) [])))).trans ?_
 exact(zK (yh ((zQ (zy (zo rfl) (zy (zo rfl) zM))).trans (Js ht (by rw[h,H]) [])))).trans (qy (qX (Bw (by omega) (by omega) rfl rfl)))
end
def Zw (n:Nat)(f:Nat->Int)(v:Int):sm n (λi=>v * f i)=v * sm n f:=by
 induction n with
 |zero=>show(0:Int)=v * 0;rw[Int.mul_zero]|succ n I=>rw[yO,yO,I,Int.mul_add]
def J9 (n:Nat)(f:Nat->Int)(v:Int):sm n (λi=>f i * v)=sm n f * v:=by
 rw[Int.mul_comm,<- Zw];exact jb λi _=>Int.mul_comm _ _
def Z9 (n m:Nat)(f:Nat->Nat->Int):sm n (λi=>sm m (f i))=sm m λj=>sm n λi=>f i j:=by
 induction n with
 |zero=>show(0:Int)=_;exact(Xq m).symm|succ n I=>
  rw[yO,I,<- P0];exact jb λj _=>(yO n λi=>f i j).symm
section
variable {x y:bF}{K:Nat}
def di (H:x.length=K)(h:y.length=K)(w:Int)(hw:w.toNat<K):mv (av x y) w=mv x w+mv y w:=by
 unfold mv av;rw[aa,ak,aM (by omega)]
 rfl
def Bn:(av x y).length=x.length:=by unfold av;rw[ae,ar]
end
section
variable {K m j k:Nat}{w x z:bF}{S:List (bE)}
def Full (K:Nat)(S:List (bE))(w:bF):Prop:=∀i j,i<K->j<K->w.getD i 0 * w.getD j 0=sm K λk=>pS S k i j * w.getD k 0
structure Wt (K:Nat)(S:List (bE))(z w:bF):Prop where
 l:w.length=K
 o:w.getD 0 0=1
 b:∀i,i<K->-(z.getD i 0)<=w.getD i 0/\w.getD i 0<=z.getD i 0
 f:Full K S w
def Xg:kI S w i j=true↔(∃t∈S.drop w.length,at2 t i j≠0)∨w.getD i 0 * w.getD j 0=sm w.length λk=>pS S k i j * w.getD k 0:=by
 unfold kI;rw[bh,any_eq_true,ai]
 have:(∃t∈S.drop w.length,(at2 t i j != 0)=true)↔∃t∈S.drop w.length,at2 t i j≠0:=by
  constructor
  ·rintro⟨t,ht,h⟩;exact⟨t,ht,by simpa using h⟩
  ·rintro⟨t,ht,h⟩;exact⟨t,ht,by simpa using h⟩
 rw[this];exact Iff.rfl
def Rk:kH S w=true↔∀i j,i<w.length->j<w.length->kI S w i j=true:=by
 unfold kH;rw[ba]
 constructor
 ·intro h i j a H
  exact b2.mp (h i (bX.mpr a)) j (bX.mpr H)
 ·intro h i a
  rw[ba];exactλj H=>h i j (bX.mp a) (bX.mp H)
def Rg (b:S.length=K)(hw:w.length=K):kH S w=true↔Full K S w:=by
 rw[Rk];unfold Full;rw[hw];refine⟨λh i j a H=>?_,λh i j a H=>Xg.mpr (.inr (by rw[hw];exact h i j a H))⟩
 rcases Xg.mp (h i j a H) with ⟨t,ht,_⟩|e
 ·rw[hw,List.drop_of_length_le (by omega)]at ht
  cases ht
 ·rw[hw]at e;exact e
def G1 {l:bF}(h:i<m):(l.take m).getD i 0=l.getD i 0:=by
 rw[aa,List.getElem?_take_of_lt h,<- aa]
theorem PR {f:Nat->Int}:∀d,(∀k,m<=k->k<m+d->f k=0)->sm (m+d) f=sm m f
 |0,_=>rfl|d+1,h=>by
  rw[<- Nat.add_assoc,yO,PR d (λk H a=>h k H (by omega)),h (m+d) (by omega) (by omega),Int.add_zero]
def RJ (c:S.length=K)(hw:w.length=K)(hf:Full K S w)(hm:m<=K):kH S (w.take m)=true:=by
 have l:(w.take m).length=m:=by rw[bj];omega
 refine Rk.mpr λi j a H=>Xg.mpr ?_;rw[l]at a H ⊢
 by_cases h:∃t∈S.drop m,at2 t i j≠0
 ·exact .inl h
 ·refine .inr ?_
  rw[G1 a,G1 H,hf i j (by omega) (by omega)]
  have e:K=m+(K-m):=by omega
  rw[e,PR (K-m) λk f d=>?_]
  ·exact jb λk b=>by rw[G1 b]
  ·have:at2 (S.getD k []) i j=0:=Decidable.byContradiction λq=>h ⟨S.getD k [],by
    rw[aa,ab (by omega)]
    exact List.mem_iff_getElem.mpr ⟨k-m,by rw[bC];omega,by rw[List.getElem_drop];congr 1;omega⟩,q⟩
   show at2 _ i j * _=0;rw[this,zero_mul]
theorem PJ (H:Zs K z)(a:S.length=K)(hw:Wt K S z w):∀k,k<K->w.take (k+1)∈jC S z k
 |0,h=>by
  have:w.take 1=[1]:=by
   cases w with
   |nil=>have:=hw.l;simp at this;omega|cons v w=>have:=hw.o;rw[show(v::w).getD 0 0=v from rfl]at this;rw[this];rfl
  rw[this];exact b1.mpr rfl
 |k+1,h=>by
  have i:=PJ H a hw k (by omega)
  have c:=hw.l;have Z:=H.le h;have e:w.take (k+1+1)=w.take (k+1)++[w.getD (k+1) 0]:=by
   rw[take_succ (by omega),aa,ab (by omega)]
   rfl
  refine List.mem_filter.mpr ⟨?_,RJ a c hw.f (by omega)⟩
  rw[e];exact List.mem_flatMap.mpr ⟨_,i,Ye.mpr ⟨_,(XX (by omega)).mpr (hw.b _ h),rfl⟩⟩
def Dh (H:1<=k)(h:w∈jC S z k):kH S w=true:=by
 obtain⟨k,rfl⟩:∃j,k=j+1:=⟨k-1,by omega⟩
 exact(List.mem_filter.mp h).2
def EJ (H:Zs K z)(b:S.length=K)(k1:1<=K)(d:K=1->pS S 0 0 0=1):w∈jC S z (K-1)↔Wt K S z w:=by
 constructor
 ·intro h
  obtain⟨s1,s2,s3,s4⟩:=Kl H (K-1) (by omega) w h
  have a:w.length=K:=by omega
  refine⟨a,s3,λi c=>s4 i (by omega),?_⟩
  by_cases e:K=1
  ·subst e
   intro i j c f
   have:i=0:=by omega
   subst this
   have:j=0:=by omega
   subst this;rw[s3,yO];show(1:Int) * 1=sm 0 _+pS S 0 0 0 * w.getD 0 0;rw[d rfl,s3]
   rfl
  ·exact(Rg b a).mp (Dh (by omega) h)
 ·intro h
  have:=PJ H b h (K-1) (by omega)
  rwa[a5 (by have:=h.l;omega)]at this
theorem Ss (H:Zs K z):∀k,k<K->(jC S z k).Nodup
 |0,_=>by
  show [[(1:Int)]].Nodup
  decide
 |k+1,l=>by
  have i:=Ss H k (by omega)
  have s:=Kl (S:=S) H k (by omega)
  refine List.Pairwise.filter _ ?_;rw[List.pairwise_flatMap];refine⟨λw hw=>?_,?_⟩
  ·unfold ext dn
   rw[aR,pairwise_map];refine List.Pairwise.imp_of_mem ?_ (bB (n:=2 * (z.getD (k+1) 0).toNat+1));intro a b _ _ h e;have E:(z.getD (k+1) 0-(a:Int))=z.getD (k+1) 0-(b:Int):=by have:=List.append_cancel_left e;injection this
   exact h (by omega)
  ·refine List.Pairwise.imp_of_mem ?_ i
   intro a b g f h x d y c e;obtain⟨v,_,rfl⟩:=Ye.mp d;obtain⟨j,_,rfl⟩:=Ye.mp c;exact h (List.append_inj_left e (by rw[(s a g).1,(s b f).1]))
theorem Rf (H:Zs K z)(a:S.length=K)(hf:Full K S z):∀k,k<K->∃l,jC S z k=z.take (k+1)::l
 |0,c=>by
  refine⟨[],?_⟩
  have:z.take 1=[1]:=by
   cases z with
   |nil=>have:=H.l;simp at this;omega|cons v w=>have:=H.h;rw[show(v::w).getD 0 0=v from rfl]at this;rw[this];rfl
  rw[this]
  rfl
 |k+1,c=>by
  obtain⟨l,e⟩:=Rf H a hf k (by omega)
  have b:=H.l;have E:z.take (k+1+1)=z.take (k+1)++[z.getD (k+1) 0]:=by
   rw[take_succ (by omega),aa,ab (by omega)]
   rfl
  have hd:dn (z.getD (k+1) 0)=z.getD (k+1) 0::(List.range (2 * (z.getD (k+1) 0).toNat)).map λ(i:Nat)=>z.getD (k+1) 0-((i+1:Nat):Int):=by
   unfold dn;rw[List.range_succ_eq_map,aS,aR];simp
  show ∃l,step S (jC S z k) (z.getD (k+1) 0)=_;unfold step;rw[e,flatMap_cons];unfold ext;rw[hd,aS,List.cons_append,<- E,List.filter_cons_of_pos (RJ a b hf (by omega))]
  exact⟨_,rfl⟩
theorem G0  [DecidableEq α]:∀{l k:List α},l.Nodup->k.Nodup->(∀a,a∈l↔a∈k)->l.Perm k
 |[],k,_,_,h=>by
  cases k with
  |nil=>exact List.Perm.refl _|cons a k=>exact absurd ((h a).mpr (aK ..)) not_mem_nil
 |a::l,k,H,c,h=>by
  have f:a∈k:=(h a).mp (aK ..);refine List.Perm.trans ?_ (List.perm_cons_erase f).symm;refine List.Perm.cons a (G0 (List.nodup_cons.mp H).2 (c.erase a) λb=>?_);rw[c.mem_erase_iff]
  constructor
  ·intro d
   exact⟨λe=>(List.nodup_cons.mp H).1 (e ▸ d),(h b).mp (aL _ d)⟩
  ·rintro⟨j,i⟩
   rcases b0.mp ((h b).mpr i) with rfl|g
   ·exact absurd rfl j
   ·exact g
end
theorem K0  [BEq α] [LawfulBEq α] [DecidableEq α] (f:Nat->α)(v:α):∀n:Nat,((((List.range n).map f).count v:Nat):Int)=sm n λc=>if f c=v then 1 else 0
 |0=>rfl|n+1=>by
  rw[bc,aP,List.count_append,yO,<- K0 f v n,aS,map_nil,List.count_singleton]
  by_cases h:f n=v
  ·rw[ag h,ag (aU.mpr h)]
   rfl
  ·rw[aj h,aj (λq=>h (aU.mp q))]
   rfl
section
variable {y z v:bF}{a b c e j k K:Nat}{S:Nat->List (bF)}
def Be (ht:qc t)(H:a<t.length)(h:b<t.length)(i j:Nat):shr t a b t.length i j=sm t.length λc=>if (at2 t a c,at2 t b c)=((i:Int),(j:Int)) then 1 else 0:=by
 rw[QQ ht H h t.length (ao _) i j];exact K0 (λc=>(at2 t a c,at2 t b c)) _ _
def Jb (g:∀a b,a<t.length->b<t.length->qW t K a b=S (at2 t a b).toNat)(ht:qc t)(H:a<t.length)(h:b<t.length)(e:at2 t a b=(k:Int))(f:i<K)(d:j<K):at2 (S k) i j=sm t.length λc=>if (at2 t a c,at2 t b c)=((i:Int),(j:Int)) then 1 else 0:=by
 have:=g a b H h
 rw[e,aB]at this;rw[<- this];unfold qW;rw[Q3 f d,Be ht H h]
def Dn (l:∀a b,a<t.length->b<t.length->qW t K a b=S (at2 t a b).toNat)(ht:qc t)(r:qa t=(K:Int))(p:k<K)(g:i<K)(f:j<K):at2 (S k) i j=at2 (S k) j i:=by
 obtain⟨a,b,d,H,e⟩:=gQ ht (v:=k) (by omega)
 rw[Jb l ht d H e g f,Jb l ht H d ((ht.sy b a H d).trans e) f g];refine jb λc _=>?_
 by_cases q:(at2 t a c,at2 t b c)=((i:Int),(j:Int))
 ·rw[ag q,ag (by injection q with m Q;rw[m,Q])]
 ·rw[aj q,aj (λh=>q (by injection h with o n;rw[o,n]))]
def nb (t:bE)(a i:Nat):Int:=sm t.length λc=>if at2 t a c=(i:Int) then 1 else 0
def Xy (ht:qc t)(s:ja t)(e:a<t.length)(H:b<t.length)(i:Nat):nb t a i=nb t b i:=by
 have d:at2 t a a=at2 t b b:=by rw[(ht.dg a a e e).mpr rfl,(ht.dg b b H H).mpr rfl]
 have p:=s a a b b e e H H d;have h:∀q:Nat,nb t q i=((((wD t q q).count ((i:Int),(i:Int)):Nat)):Int):=λq=>by
  unfold wD nb;rw[K0];refine jb λc _=>?_
  by_cases h:at2 t q c=(i:Int)
  ·rw[ag h,ag (by rw[h])]
  ·rw[aj h,aj (λz=>h (by injection z))]
 rw[h,h,p.count_eq]
def F1 (o:∀a b,a<t.length->b<t.length->qW t K a b=S (at2 t a b).toNat)(ht:qc t)(f:i<K)(n:j<K)(d:k<K):nb t 0 k * at2 (S k) i j=nb t 0 i * at2 (S i) k j:=by
 have n1:=ht.n1;have h:∀{p q:Nat},p<K->q<K->nb t 0 p * at2 (S p) q j=sm t.length λb=>sm t.length λc=>if at2 t 0 b=(p:Int)/\at2 t 0 c=(q:Int)/\at2 t b c=(j:Int) then 1 else 0:=λ {p q} r m=>by
  unfold nb;rw[<- J9];refine jb λb H=>?_
  by_cases e:at2 t 0 b=(p:Int)
  ·rw[ag e,Int.one_mul,Jb o ht n1 H e m n]
   refine jb λc _=>?_
   by_cases z:(at2 t 0 c,at2 t b c)=((q:Int),(j:Int))
   ·rw[ag z,ag (by injection z with l Z;exact⟨e,l,Z⟩)]
   ·rw[aj z,aj (λy=>z (by rw[y.2.1,y.2.2]))]
  ·rw[aj e,zero_mul]
   exact((jb λc _=>by rw[aj (λy=>e y.1)]).trans (Xq _)).symm
 rw[h d f,h f d,Z9];refine jb λb H=>jb λc g=>?_
 by_cases z:at2 t 0 c=(k:Int)/\at2 t 0 b=(i:Int)/\at2 t c b=(j:Int)
 ·rw[ag z,ag ⟨z.2.1,z.1,(ht.sy b c H g).trans z.2.2⟩]
 ·rw[aj z,aj (λy=>z ⟨y.2.1,y.1,(ht.sy c b g H).trans y.2.2⟩)]
def Xv (ht:qc t)(d:qa t=(K:Int))(a:b<t.length)(H:c<t.length)(v:Int):sm K (λj=>if at2 t b c=(j:Int) then v else 0)=v:=by
 have h:=Zr ht d a H;refine(jb λj _=>?_).trans (X0 h.2 v)
 by_cases q:at2 t b c=(j:Int)
 ·rw[ag q,ag (by rw[q,aB])]
 ·rw[aj q,aj (λe=>q (by rw[<- h.1,e]))]
def Dv (l:∀a b,a<t.length->b<t.length->qW t K a b=S (at2 t a b).toNat)(ht:qc t)(s:ja t)(m:qa t=(K:Int))(n:k<K)(f:i<K):sm K (λj=>at2 (S k) i j)=nb t 0 i:=by
 obtain⟨a,b,H,h,e⟩:=gQ ht (v:=k) (by omega)
 rw[Xy ht s ht.n1 H i,jb λj d=>Jb l ht H h e f d,Z9];unfold nb;refine jb λc g=>?_;rw[<- Xv ht m h g (if at2 t a c=(i:Int) then 1 else 0)];refine jb λj _=>?_
 by_cases q:at2 t a c=(i:Int)
 ·rw[ag q]
  by_cases r:at2 t b c=(j:Int)
  ·rw[ag r,ag (by rw[q,r])]
  ·rw[aj r,aj (λz=>r (by injection z))]
 ·rw[aj (λz=>q (by injection z))]
  by_cases r:at2 t b c=(j:Int)
  ·rw[ag r,aj q]
  ·rw[aj r]
def Oi (ht:qc t)(H:qa t=(K:Int)):sm K (λk=>nb t 0 k)=(t.length:Int):=by
 unfold nb;rw[Z9,jb λc h=>Xv ht H ht.n1 h 1];generalize t.length=n
 induction n with
 |zero=>rfl|succ n i=>rw[yO,i];omega
def DE (ht:qc t):nb t 0 0=1:=by
 unfold nb;refine(jb λc h=>?_).trans (X0 ht.n1 1)
 by_cases q:c=0
 ·subst q
  exact(ag ((ht.dg 0 0 ht.n1 ht.n1).mpr rfl)).trans (ag rfl).symm
 ·exact(aj (λe=>q ((ht.dg 0 c ht.n1 h).mp e).symm)).trans (aj q).symm
def G2 (ht:qc t)(H:a<t.length):t.getD a []=(List.range t.length).map λc=>at2 t a c:=by
 have h:=ht.sq _ (yN H);refine bq (by rw[ae,ar,h]) λc b d=>?_
 rw[List.getElem_map,List.getElem_range];unfold at2;rw[aa (l:=t.getD a []),ab b]
 rfl
def gT (ht:qc t)(h:k<K):(zJ t K).getD k 0=nb t 0 k:=by
 unfold zJ;rw[aa,ak,aM h];show(((t.getD 0 []).count (k:Int):Nat):Int)=_;rw[G2 ht ht.n1];exact K0 (λc=>at2 t 0 c) (k:Int) t.length
def KD:(zJ t K).length=K:=by unfold zJ;rw[ae,ar]
end
section
variable {a b j k K:Nat}
def SL (t:bE)(K:Nat):List (bE):=(List.range K).map λ(k:Nat)=>qW t K (gv t (k:Int)/t.length) (gv t (k:Int)%t.length)
def Pj (ht:qc t)(i:qa t=(K:Int))(g:k<K):gv t (k:Int)/t.length<t.length/\gv t (k:Int)%t.length<t.length/\at2 t (gv t (k:Int)/t.length) (gv t (k:Int)%t.length)=(k:Int):=by
 have n1:=ht.n1;obtain⟨a,b,d,H,e⟩:=gQ ht (v:=k) (by omega)
 have h:a * t.length+b<t.length * t.length:=by
  have c:a * t.length+t.length<=t.length * t.length:=by
   have:(a+1) * t.length<=t.length * t.length:=Nat.mul_le_mul_right _ d
   rwa[Nat.add_mul,Nat.one_mul]at this
  omega
 have hd:(a * t.length+b)/t.length=a:=by rw[mul_comm,Nat.mul_add_div n1,Nat.div_eq_of_lt H,Nat.add_zero]
 have hm:(a * t.length+b)%t.length=b:=by rw[mul_comm,Nat.mul_add_mod,Nat.mod_eq_of_lt H]
 unfold gv;cases hf:(List.range (t.length * t.length)).find? λm=>decide (at2 t (m/t.length) (m%t.length)=(k:Int)) with
 |none=>
  have:=List.find?_eq_none.mp hf (a * t.length+b) (bX.mpr h)
  rw[hd,hm,e]at this;simp at this
 |some m=>
  have c:=List.find?_some hf;have f:=bX.mp (List.mem_of_find?_eq_some hf);exact⟨Nat.div_lt_of_lt_mul f,Nat.mod_lt _ n1,of_decide_eq_true c⟩
def KZ:(SL t K).length=K:=by unfold SL;rw[ae,ar]
def B6 (h:k<K):(SL t K).getD k []=qW t K (gv t (k:Int)/t.length) (gv t (k:Int)%t.length):=by
 unfold SL;rw[aa,ak,aM h]
 rfl
def Yt (ht:qc t)(s:ja t)(c:qa t=(K:Int))(a b:Nat)(H:a<t.length)(h:b<t.length):qW t K a b=(λk=>(SL t K).getD k []) (at2 t a b).toNat:=by
 have n:=Zr ht c H h;obtain⟨e,d,r⟩:=Pj ht c n.2;show _=(SL t K).getD _ [];rw[B6 n.2];exact Rv ht s H h e d (by rw[r];exact n.1.symm)
def Qi (ht:qc t)(s:ja t)(a:qa t=(K:Int)):Zs K (zJ t K):=by
 have g:=yP ht;have n8:=ht.n8;refine⟨KD,λv c=>?_,?_,?_⟩
 ·obtain⟨k,h,rfl⟩:=bZ.mp c
  have h:=bX.mp h;obtain⟨b,f,e⟩:=de ht s a h;have hm:(k:Int)∈t.getD 0 []:=by
   rw[G2 ht ht.n1];exact bZ.mpr ⟨b,bX.mpr f,e⟩
  have:=List.count_pos_iff.mpr hm
  omega
 ·have:(zJ t K).sum=sm K λk=>nb t 0 k:=by
   unfold sm
   congr 1
   refine bq (by rw[KD,ae,ar]) λi H j=>?_
   have d:i<K:=by rw[KD]at H;exact H
   rw[List.getElem_map,List.getElem_range,<- gT ht d,aa,ab H]
   rfl
  rw[this,Oi ht a];omega
 ·rw[gT ht (by omega),DE ht]
def AV (ht:qc t)(s:ja t)(u:qa t=(K:Int)):Wf K (SL t K):=by
 have n8:=ht.n8;have g:∀m∈SL t K,∃a b,a<t.length/\b<t.length/\m=qW t K a b:=λm hm=>by
  obtain⟨k,n,rfl⟩:=bZ.mp hm;obtain⟨f,r,_⟩:=Pj ht u (bX.mp n);exact⟨_,_,f,r,rfl⟩
 refine⟨KZ,λm hm=>?_,λm hm=>?_,λm hm i j=>?_⟩
 ·obtain⟨a,b,_,_,rfl⟩:=g m hm
  exact Xd
 ·obtain⟨a,b,_,_,rfl⟩:=g m hm
  intro q d;unfold qW jN at d;obtain⟨i,_,rfl⟩:=bZ.mp d;rw[ae,ar]
 ·obtain⟨a,b,p,o,rfl⟩:=g m hm
  by_cases h:i<K/\j<K
  ·unfold qW
   rw[Q3 h.1 h.2,QQ ht p o _ (ao _)]
   have:=List.count_le_length (a:=((i:Int),(j:Int))) (l:=(List.range t.length).map λc=>(at2 t a c,at2 t b c))
   rw[ae,ar]at this;omega
  ·have:at2 (qW t K a b) i j=0:=by
    unfold at2
    by_cases hi:i<K
    ·have w:¬j<K:=λq=>h ⟨hi,q⟩
     have v:((qW t K a b).getD i []).length=K:=by
      have H:(qW t K a b).getD i []∈qW t K a b:=yN (by unfold qW;rw[Xd];exact hi)
      unfold qW jN at H;obtain⟨q,_,e⟩:=bZ.mp H;unfold qW jN;rw[<- e,ae,ar]
     rw[aa (l:=(qW t K a b).getD i []),au (by omega)]
     rfl
    ·rw[aa (l:=qW t K a b),au (by unfold qW;rw[Xd];omega)]
     rfl
   omega
def ON (ht:qc t)(s:ja t)(h:qa t=(K:Int)):Dt t K (SL t K) (zJ t K):=by
 have b:=yP ht;have l:=Ov ht;have n8:=ht.n8;refine⟨ht,h,Xl ht s,λA=>?_,λA=>E2 ht h A,AV ht s h,Qi ht s h,by omega,by omega⟩
 rw[S8 (S:=λk=>(SL t K).getD k []) ht h (Yt ht s h) A,QH (SL t K) [] zm,KZ]
def PX (ht:qc t)(s:ja t)(c:qa t=(K:Int)):Full K (SL t K) (zJ t K):=λi j a H=>by
 have b:=Yt ht s c;rw[gT ht a,gT ht H];have e:(sm K λk=>pS (SL t K) k i j * (zJ t K).getD k 0)=sm K λk=>nb t 0 i * at2 ((SL t K).getD i []) k j:=jb λk h=>by
  rw[gT ht h,Int.mul_comm];exact F1 (S:=λk=>(SL t K).getD k []) b ht a H h
 rw[e,Zw,jb λk h=>Dn (S:=λk=>(SL t K).getD k []) b ht c a h H,Dv (S:=λk=>(SL t K).getD k []) b ht s c a H]
variable {T:bE}{c e m v:Nat}{p o:bJ}{q l x:bF}
def OD:(je p).getD 0 0=0:=rfl
def Oy (H:p.Perm (List.range m))(b:k<=m):0<=(je p).getD k 0/\(je p).getD k 0<=(m:Int):=by
 have a:p.length=m:=by rw[H.length_eq,ar]
 by_cases h:k=0
 ·subst h
  rw[OD];omega
 ·rw[Zn (by omega) (by omega)]
  have:=bX.mp (H.mem_iff.mp (aG (l:=p) (n:=k-1) (by omega)))
  omega
def Pa (H:p.Perm (List.range m))(a:v<=m):∃k,k<=m/\(je p).getD k 0=(v:Int):=by
 have l:p.length=m:=by rw[H.length_eq,ar]
 by_cases h:v=0
 ·exact⟨0,by omega,by rw[OD,h];rfl⟩
 ·obtain⟨i,b,e⟩:=aY (H.mem_iff.mpr (bX.mpr (show v-1<m by omega)))
  refine⟨i+1,by omega,?_⟩
  rw[Zn (by omega) (by omega)]
  have:p[i+1-1]'(by omega)=v-1:=e
  rw[this];omega
structure Tn (T t:bE)(K:Nat)(p o:bJ):Prop where
 hT:qc T
 ht:qc t
 kT:qa T=(K:Int)
 kt:qa t=(K:Int)
 len:t.length=T.length
 pp:p.Perm (List.range (K-1))
 oo:o.Perm (List.range T.length)
 at_:∀a b,a<T.length->b<T.length->at2 t a b=(je p).getD (at2 T (o.getD a 0) (o.getD b 0)).toNat 0
def Qu (h:o.Perm (List.range n))(b:a<n):o.getD a 0<n:=by
 have H:o.length=n:=by rw[h.length_eq,ar]
 rw[aa,ab (by omega)]
 exact bX.mp (h.mem_iff.mp (aG _))
def Wc (h:o.Perm (List.range n))(d:a<n):∃b,b<n/\o.getD b 0=a:=by
 have H:o.length=n:=by rw[h.length_eq,ar]
 obtain⟨i,c,e⟩:=aY (h.mem_iff.mpr (bX.mpr d));exact⟨i,by omega,by rw[aa,ab c];exact e⟩
def dj (hT:qc T)(f:qa T=(K:Int))(g:p.Perm (List.range (qa T-1).toNat))(H:o.Perm (List.range T.length)):Tn T (yX T p o) K p o:=by
 obtain⟨ht,l⟩:=Sw hT g H;have m:=yP hT;have h:p.Perm (List.range (K-1)):=by rwa[f,show((K:Int)-1).toNat=K-1 by omega]at g
 have at_:∀a b,a<T.length->b<T.length->at2 (yX T p o) a b=(je p).getD (at2 T (o.getD a 0) (o.getD b 0)).toNat 0:=λa b d c=>Rp H d c;refine⟨hT,ht,f,?_,l,h,H,at_⟩
 apply Int.le_antisymm
 ·obtain⟨a,b,d,c,e⟩:=KR ht.sq (KI ht)
  rw[l]at d c;rw[at_ a b d c]at e
  have:=(Oy h (k:=(at2 T (o.getD a 0) (o.getD b 0)).toNat) (by have:=(Zr hT f (Qu H d) (Qu H c)).2;omega)).2
  omega
 ·obtain⟨k,n,e⟩:=Pa h (v:=K-1) (ao _)
  obtain⟨x,y,j,i,E⟩:=gQ hT (v:=k) (by omega)
  obtain⟨a,d,rfl⟩:=Wc H j;obtain⟨b,c,rfl⟩:=Wc H i
  have:=Q6 ht (a:=a) (b:=b) (by omega) (by omega)
  rw[at_ a b d c,E,aB,e]at this;omega
def Xa:∀{l k:bF},l.Perm k->l.sum=k.sum:=λh=>by
 induction h with
 |nil=>rfl|cons x _ a=>rw[sum_cons,sum_cons,a]|swap x y l=>rw[sum_cons,sum_cons,sum_cons,sum_cons];omega|trans _ _ I i=>exact I.trans i
def Nb (H:o.Perm (List.range n))(g:Nat->Int):sm n (λc=>g (o.getD c 0))=sm n g:=by
 have h:o.length=n:=by rw[H.length_eq,ar]
 unfold sm
 have:=QH o 0 g
 rw[h]at this;rw[<- this];exact Xa (H.map g)
def pi (p:bJ)(k:Nat):Nat:=((je p).getD k 0).toNat
def wW (h:Tn T t K p o)(H:k<K):((pi p k:Nat):Int)=(je p).getD k 0/\pi p k<K:=by
 have b:=yP h.hT;have kT:=h.kT
 have:=Oy h.pp (k:=k) (by omega)
 unfold pi;omega
def K4 (h:Tn T t K p o)(H:k<K)(a:j<K)(e:pi p k=pi p j):k=j:=by
 have c:=(wW h H).1;have b:=(wW h a).1;have P:p.length=K-1:=by rw[h.pp.length_eq,ar]
 exact R8 ((h.pp.nodup_iff).mpr bB) (by omega) (by omega) (by rw[<- c,<- b,e])
def Zp (h:Tn T t K p o)(hm:m<K):∃k,k<K/\pi p k=m:=by
 obtain⟨k,H,e⟩:=Pa h.pp (v:=m) (by omega)
 exact⟨k,by omega,by unfold pi;rw[e,aB]⟩
def Ow (h:Tn T t K p o)(g:Nat->Int):sm K (λk=>g (pi p k))=sm K g:=by
 have d:((List.range K).map (pi p)).Perm (List.range K):=by
  refine G0 ?_ bB λm=>?_
  ·rw[List.Nodup,pairwise_map]
   exact List.Pairwise.imp_of_mem (λ {a b} i f c e=>c (K4 h (bX.mp i) (bX.mp f) e)) bB
  ·rw[mem_map,List.mem_range]
   exact⟨λ⟨k,H,e⟩=>e ▸ (wW h (bX.mp H)).2,λhm=>let ⟨k,H,e⟩:=Zp h hm;⟨k,bX.mpr H,e⟩⟩
 unfold sm
 have:=Xa (d.map g)
 rw[aR]at this;exact this
def dk (h:Tn T t K p o)(c:a<T.length)(H:b<T.length):at2 t a b=((pi p (at2 T (o.getD a 0) (o.getD b 0)).toNat:Nat):Int):=by
 rw[h.at_ a b c H,(wW h (Zr h.hT h.kT (Qu h.oo c) (Qu h.oo H)).2).1]
def K5 (h:Tn T t K p o)(c:a<T.length)(H:b<T.length)(d:k<K):at2 t a b=((pi p k:Nat):Int)↔at2 T (o.getD a 0) (o.getD b 0)=(k:Int):=by
 have n:=Zr h.hT h.kT (Qu h.oo c) (Qu h.oo H);rw[dk h c H]
 constructor
 ·intro e
  have:=K4 h n.2 d (by omega)
  omega
 ·intro e
  rw[e,aB]
def BY (h:Tn T t K p o)(A:ja T)(st:ja t)(B:k<K)(d:i<K)(H:j<K):pS (SL t K) (pi p k) (pi p i) (pi p j)=pS (SL T K) k i j:=by
 have kT:=h.kT;obtain⟨x,y,s,r,e⟩:=gQ h.hT (v:=k) (by omega)
 obtain⟨a,m,rfl⟩:=Wc h.oo s;obtain⟨b,g,rfl⟩:=Wc h.oo r;have l:a<t.length:=by rw[h.len];exact m
 have f:b<t.length:=by rw[h.len];exact g
 refine(Jb (S:=λk=>(SL t K).getD k []) (Yt h.ht st h.kt) h.ht l f ((K5 h m g B).mpr e) (wW h d).2 (wW h H).2).trans (Eq.trans ?_ (Jb (S:=λk=>(SL T K).getD k []) (Yt h.hT A h.kT) h.hT s r e d H).symm);rw[h.len];rw[<- Nb h.oo λc=>if (at2 T (o.getD a 0) c,at2 T (o.getD b 0) c)=((i:Int),(j:Int)) then 1 else 0];refine jb λc u=>?_;have Q:=K5 h m u d;have q:=K5 h g u H
 by_cases z:(at2 T (o.getD a 0) (o.getD c 0),at2 T (o.getD b 0) (o.getD c 0))=((i:Int),(j:Int))
 ·injection z with n Z
  rw[ag (by rw[Q.mpr n,q.mpr Z]),ag (by rw[n,Z])]
 ·rw[aj (λy=>z (by injection y with w Y;rw[Q.mp w,q.mp Y])),aj z]
def dm (h:Tn T t K p o)(s:ja T)(H:k<K):nb t 0 (pi p k)=nb T 0 k:=by
 have n1:=h.hT.n1;rw[Xy h.hT s n1 (Qu h.oo n1) k];unfold nb;rw[h.len,<- Nb h.oo λc=>if at2 T (o.getD 0 0) c=(k:Int) then 1 else 0];refine jb λc a=>?_;have q:=K5 h n1 a H
 by_cases z:at2 T (o.getD 0 0) (o.getD c 0)=(k:Int)
 ·rw[ag z,ag (q.mpr z)]
 ·rw[aj z,aj λy=>z (q.mp y)]
def KY (h:Tn T t K p o)(s:ja T)(H:k<K):(zJ t K).getD (pi p k) 0=(zJ T K).getD k 0:=by
 rw[gT h.ht (wW h H).2,gT h.hT H,dm h s H]
variable {w z:bF}
abbrev Rw (t:bE)(K:Nat):bE:=jC (SL t K) (zJ t K) (K-1)
def dq (ht:qc t)(s:ja t)(H:qa t=(K:Int))(a:K=1):pS (SL t K) 0 0 0=1:=by
 subst a
 have:=PX ht s H 0 0 (by omega) (by omega)
 rw[(Qi ht s H).h,yO,(Qi ht s H).h]at this;have e:sm 0 (λk=>pS (SL t 1) k 0 0 * (zJ t 1).getD k 0)=0:=rfl;rw[e]at this;omega
def Zt (ht:qc t)(s:ja t)(h:qa t=(K:Int)):w∈Rw t K↔Wt K (SL t K) (zJ t K) w:=by
 have b:=yP ht;exact EJ (Qi ht s h) KZ (by omega) (dq ht s h)
def OI (ht:qc t)(s:ja t)(h:qa t=(K:Int)):(Rw t K).Nodup:=by
 have b:=yP ht;exact Ss (Qi ht s h) (K-1) (by omega)
def ps (p:bJ)(K:Nat)(w:bF):bF:=(List.range K).map λk=>w.getD (pi p k) 0
def k4 (h:k<K):(ps p K w).getD k 0=w.getD (pi p k) 0:=by
 unfold ps;rw[aa,ak,aM h]
 rfl
def P5:(ps p K w).length=K:=by unfold ps;rw[ae,ar]
def X7 (hw:w.length=K)(b:x.length=K)(h:∀k,k<K->w.getD k 0=x.getD k 0):w=x:=by
 refine bq (by omega) λi a H=>?_
 have:=h i (by omega)
 rw[aa,ab a,aa,ab H]at this;exact this
def O7 (h:Tn T t K p o):pi p 0=0:=rfl
def OB (h:Tn T t K p o)(s:ja T)(st:ja t)(hw:w.length=K):Wt K (SL t K) (zJ t K) w↔Wt K (SL T K) (zJ T K) (ps p K w):=by
 have l:=yP h.hT;have kT:=h.kT;have hf:Full K (SL t K) w↔Full K (SL T K) (ps p K w):=by
  have key:∀i j,i<K->j<K->((w.getD (pi p i) 0 * w.getD (pi p j) 0=sm K λk=>pS (SL t K) k (pi p i) (pi p j) * w.getD k 0)↔(ps p K w).getD i 0 * (ps p K w).getD j 0=sm K λk=>pS (SL T K) k i j * (ps p K w).getD k 0):=λi j a c=>by
   rw[k4 a,k4 c,<- Ow h λk=>pS (SL t K) k (pi p i) (pi p j) * w.getD k 0];rw[show(sm K λk=>pS (SL t K) (pi p k) (pi p i) (pi p j) * w.getD (pi p k) 0)=sm K λk=>pS (SL T K) k i j * (ps p K w).getD k 0 from jb λk e=>by rw[BY h s st e a c,k4 e]]
  constructor
  ·intro g i j a c
   exact(key i j a c).mp (g _ _ (wW h a).2 (wW h c).2)
  ·intro g i j a c
   obtain⟨I,H,rfl⟩:=Zp h a;obtain⟨J,d,rfl⟩:=Zp h c;exact(key I J H d).mpr (g I J H d)
 constructor
 ·intro g
  refine⟨P5,by rw[k4 (by omega),O7 h];exact g.o,λi a=>?_,hf.mp g.f⟩
  rw[k4 a,<- KY h s a];exact g.b _ (wW h a).2
 ·intro g
  refine⟨hw,?_,λi a=>?_,hf.mpr g.f⟩
  ·have:=g.o
   rwa[k4 (by omega),O7 h]at this
  ·obtain⟨I,H,rfl⟩:=Zp h a
   have:=g.b I H
   rwa[k4 H,<- KY h s H]at this
def Bh (h:Tn T t K p o)(hw:w.length=K):∃x:bF,x.length=K/\ps p K x=w:=by
 have ch:∀m:Nat,∃k:Nat,m<K->k<K/\pi p k=m:=λm=>by
  by_cases hm:m<K
  ·obtain⟨k,d,c⟩:=Zp h hm
   exact⟨k,λ_=>⟨d,c⟩⟩
  ·exact⟨0,λz=>absurd z hm⟩
 obtain⟨q,b⟩:=Classical.axiomOfChoice ch;refine⟨(List.range K).map λm=>w.getD (q m) 0,by rw[ae,ar],X7 P5 hw λk H=>?_⟩
 have pc:=(wW h H).2;rw[k4 H,aa (l:=List.map _ _),ak,aM pc];show w.getD (q (pi p k)) 0=_;obtain⟨a,Q⟩:=b (pi p k) pc;rw[K4 h a H Q]
def Pq (h:Tn T t K p o)(s:ja T)(st:ja t):((Rw t K).map (ps p K)).Perm (Rw T K):=by
 refine G0 ?_ (OI h.hT s h.kT) λw=>?_
 ·rw[List.Nodup,pairwise_map]
  refine List.Pairwise.imp_of_mem (λ {a b} j i c e=>c ?_) (OI h.ht st h.kt);have f:=((Zt h.ht st h.kt).mp j).l;have L:=((Zt h.ht st h.kt).mp i).l;refine X7 f L λm hm=>?_;obtain⟨k,d,rfl⟩:=Zp h hm;rw[<- k4 d,<- k4 d,e]
 ·rw[Zt h.hT s h.kT,mem_map]
  constructor
  ·rintro⟨x,H,rfl⟩
   have g:=(Zt h.ht st h.kt).mp H;exact(OB h s st g.l).mp g
  ·intro g
   obtain⟨x,H,rfl⟩:=Bh h g.l;exact⟨x,(Zt h.ht st h.kt).mpr ((OB h s st H).mpr g),rfl⟩
def Qw (K:Nat)(z w:bF):Int:=sm K λk=>w.getD k 0 * w.getD k 0 * (840/z.getD k 0)
def q9 (n K:Nat)(z w:bF):Int:=(n:Int) * 840/Qw K z w
def P7 (h:Tn T t K p o)(s:ja T):q9 t.length K (zJ t K) w=q9 T.length K (zJ T K) (ps p K w):=by
 unfold q9;rw[h.len]
 congr 1
 unfold Qw;rw[<- Ow h];exact jb λk H=>by rw[k4 H,KY h s H]
noncomputable def su (l:bE)(f:List Int->Int):Int:=(l.map f).sum
def Oz (h:Tn T t K p o)(s:ja T)(st:ja t)(f:List Int->Int):su (Rw t K) (λw=>f (ps p K w))=su (Rw T K) f:=by
 unfold su
 have:=Xa ((Pq h s st).map f)
 rwa[aR]at this
def dr (t:bE)(K:Nat):Bool:=(List.range K).all λk=>(List.range K).all λj=>decide (su (Rw t K) (λw=>q9 t.length K (zJ t K) w * (w.getD k 0 * w.getD j 0))=if k=j then(t.length:Int) * (zJ t K).getD k 0 else 0)
def WJ (t:bE)(K:Nat):Bool:=if (Rw t K).length=K then decide (su (Rw t K) (q9 t.length K (zJ t K))=(t.length:Int))&&dr t K else decide (su (Rw t K) (q9 t.length K (zJ t K))<(t.length:Int))
structure Or (t:bE)(K:Nat):Prop where
 tot:su (Rw t K) (q9 t.length K (zJ t K))=(t.length:Int)
 or_:∀k j,k<K->j<K->su (Rw t K) (λw=>q9 t.length K (zJ t K) w * (w.getD k 0 * w.getD j 0))=if k=j then(t.length:Int) * (zJ t K).getD k 0 else 0
def dt (H:WJ T K=true)(h:Tn T t K p o)(s:ja T)(st:ja t):((Rw t K).length=K/\Or t K)∨((Rw t K).length≠K/\su (Rw t K) (q9 t.length K (zJ t K))<(t.length:Int)):=by
 have l:(Rw t K).length=(Rw T K).length:=by rw[<- (Pq h s st).length_eq,ae]
 have ht:su (Rw t K) (q9 t.length K (zJ t K))=su (Rw T K) (q9 T.length K (zJ T K)):=by
  rw[<- Oz h s st]
  congr 1
  exact funext λw=>P7 h s
 unfold WJ at H
 split at H
 ·rename_i e
  rw[aq,ai]at H;refine .inl ⟨l.trans e,by rw[ht,H.1,h.len],λm M hm b=>?_⟩
  obtain⟨k,a,rfl⟩:=Zp h hm;obtain⟨j,c,rfl⟩:=Zp h b;have g:=of_decide_eq_true (b2.mp (b2.mp H.2 k (bX.mpr a)) j (bX.mpr c));rw[<- Oz h s st]at g;rw[KY h s a,h.len];refine Eq.trans ?_ (g.trans ?_)
  ·congr 1
   exact funext λw=>by rw[<- h.len,P7 h s,k4 a,k4 c,h.len]
  ·by_cases q:k=j
   ·subst q
    rw[ag rfl,ag rfl]
   ·rw[aj q,aj λz=>q (K4 h a c z)]
 ·rename_i e
  rw[ai]at H;exact .inr ⟨by rw[l];exact e,by rw[ht,h.len];exact H⟩
end
section
variable {w z x y:bF}{b j k K:Nat}{S:List (bE)}
def getD_mem (h:k<w.length):w.getD k 0∈w:=by
 rw[aa,ab h];exact aG _
def mem_getD {v:Int}(h:v∈w):∃k,k<w.length/\w.getD k 0=v:=by
 obtain⟨k,H,e⟩:=aY h;exact⟨k,H,by rw[aa,ab H];exact e⟩
def Wt.sm (h:Wt K S z w)(a:Zs K z):∀v∈w,-9<v/\v<9:=λv c=>by
 obtain⟨k,d,rfl⟩:=mem_getD c;have H:k<K:=by rw[<- h.l];exact d
 have:=h.b k H
 have:=a.le H
 omega
def OM (d:Dt t K S z)(h:Wt K S z w)(A:Hx):YO [zm t,zj w] A=.ok (.bl true) A:=by
 have H:=h.l;have k1:=d.k1;have k8:=d.k8;have hn:qI [zm t,zj w]=true:=by show((zm t).nr&&((zj w).nr&&true))=true;rw[j3,jP];rfl
 have g:zx gC (zh zw (zh (zx wN (zh zt zr)) zr)) [some (zm t),some (zj w)] []=.ok (.bl true) []:=(zQ (zy (zo rfl) (zy ((zQ (zy (zo rfl) zM)).trans (Z7 d.tab [])) zM))).trans (by rw[d.kd,<- H];exact Xb (by omega) [])
 have c:zi jn (zi zI zw qx) jj [some (zm t),some (zj w)] []=.ok (.bl true) []:=(zN ((zN (zo rfl) qw).trans (gN (b:=0) (by omega))) qw).trans ((ZI _ _ _).trans (by rw[h.o];rfl))
 have E:=d.ks [];have e:zx Zq (zh (zx ZR (zh zt zr)) (zh zw zr)) [some (zm t),some (zj w)] []=.ok (.bl true) [.lst (S.map zm)]:=(zQ (zy ((zQ (zy (zo rfl) zM)).trans E) (zy (zo rfl) zM))).trans ((PU d.wf (by omega) d.k8 (λv a=>by have:=h.sm d.zs v a;omega) rfl).trans (by rw[(Rg d.wf.l H).mpr h.f];rfl))
 refine yb (A1:=[.lst (S.map zm)]) hn rfl (qQ ?_);unfold VW;exact(zK ((yc (wq g)).trans jf)).trans (qy (qX ((gL c).trans e)))
def Ox (d:Dt t K S z)(h:Wt K S z w)(A:Hx):YQ [zm t,zj w] A=.ok .non A:=by
 have hn:qI [zm t,zj w]=true:=by show((zm t).nr&&((zj w).nr&&true))=true;rw[j3,jP];rfl
 refine yb (A1:=[]) hn rfl (Yb (ρ:=[some (zm t),some (zj w)]) ?_);unfold V0;exact(zK ((yc (wq ((zQ (zy (zo rfl) (zy (zo rfl) zM))).trans (OM d h [])))).trans jf)).trans jf
def B5 (d:Dt t K S z)(h:Wt K S z w)(A:Hx):Y0 [zm t,zj w] A=.ok (.bl true) A:=by
 have hn:qI [zm t,zj w]=true:=by show((zm t).nr&&((zj w).nr&&true))=true;rw[j3,jP];rfl
 refine yb (A1:=[]) hn rfl (qQ ?_);unfold U2;exact(zK (yh ((zQ (zy (zo rfl) zM)).trans (Zv d.tab d.kd d.sd [])))).trans (qy (qX ((zQ (zy (zo rfl) (zy (zo rfl) zM))).trans (OM d h []))))
def CS (d:Dt t K S z)(A:Hx):Y5 [zm t] A=.ok (.ref A.length) (A++[.lst ((jC S z (K-1)).map zj)]):=by
 refine Yc (k:=0) (A1:=[.lst ((jC S z (K-1)).map zj)]) (kj t) (qQ ?_) rfl (gn (λ_=>jP _) _);unfold U7;exact(zK (yh ((zQ (zy (zo rfl) zM)).trans (Zv d.tab d.kd d.sd [])))).trans (qy (qX ((zQ (zy (zo rfl) zM)).trans (Xj d []))))
def du (d:Dt t K S z)(A:Hx):Yd [zm t] A=.ok (.ref A.length) (A++[.lst (z.map W.int)]):=by
 refine Yc (k:=0) (A1:=[.lst (z.map W.int)]) (kj t) (qQ ?_) rfl (gn (λ_=>rfl) _);unfold R0;exact(zK (yh ((zQ (zy (zo rfl) zM)).trans (Zv d.tab d.kd d.sd [])))).trans (qy (qX ((zQ (zy (zo rfl) zM)).trans (d.zf []))))
def Oe (d:Dt t K S z)(A:Hx):YS [zm t] A=.ok (.bl (decide ((jC S z (K-1)).length=K))) A:=by
 refine yb (A1:=[.lst ((jC S z (K-1)).map zj)]) (kj t) rfl (qQ ?_);unfold Ue;have E:mQ qm (zV (zx QE (zh zt zr))) [some (zm t)] []=.ok (.int ((jC S z (K-1)).length:Int)) [.lst ((jC S z (K-1)).map zj)]:=by
  rw[jS (yE (w:=.ref 0) (ws:=(jC S z (K-1)).map zj) (A1:=[.lst ((jC S z (K-1)).map zj)]) ((zQ (zy (zo rfl) zM)).trans (Xj d [])) rfl)];unfold qm;rw[ae]
 refine(zK (yh ((zQ (zy (zo rfl) zM)).trans (Zv d.tab d.kd d.sd [])))).trans (qy (qX ((zN E ((zQ (zy (zo rfl) zM)).trans (Z7 d.tab _))).trans ?_)));rw[d.kd,ZI]
 congr 2
 exact decide_eq_decide.mpr ⟨λe=>by omega,λe=>by omega⟩
def wv (K:Nat)(w x:bF):Int:=sm K λk=>w.getD k 0 * x.getD k 0
def D1 (hw:w.length=K)(a:x.length=K)(b:K<=8)(H:∀v∈w,-9<v/\v<9)(A:Hx):XA [zj w,zj x] A=.ok (.int (wv K w x)) A:=by
 have hn:qI [zj w,zj x]=true:=by show((zj w).nr&&((zj x).nr&&true))=true;rw[jP,jP];rfl
 refine yb (A1:=[]) hn rfl (qQ ?_);unfold Pl;have E:=JW (A:=[]) (cap:=[]) (ρ:=[some (zj w),some (zj x)]) (me:=zi zZ zt zw) (mi:=jH zt zw) (N:=K) (u:=λk=>.int (w.getD k 0)) (v:=λk=>.int (x.getD k 0)) (g:=λk=>.int (w.getD k 0 * x.getD k 0)) (J6 (us:=w.map W.int) (vs:=x.map W.int) (zo rfl) (zo rfl)) (by show(w.map W.int).length=K;rw[ae,hw]) (by omega)
  (λk h=>by show some (zip2 (w.map W.int)[k]? (x.map W.int)[k]?)=_;rw[int_at (by omega),int_at (by omega)];rfl)
  (by show some (zip2 (w.map W.int)[K]? (x.map W.int)[K]?)=_;rw[au (by rw[ae];omega)];rfl)
  (λk h=>by
   have:=H _ (getD_mem (w:=w) (k:=k) (by omega))
   exact(zN (zo rfl) (zo rfl)).trans (yW (by omega) (by omega)))
 have e:((List.range K).map λk=>W.int (w.getD k 0 * x.getD k 0))=((List.range K).map λk=>w.getD k 0 * x.getD k 0).map W.int:=by rw[aR];rfl
 rw[e]at E;exact qy (qX ((jS E).trans (Q2 _)))
def Ji (d:Dt t K S z)(h:Wt K S z w)(H:x.length=K)(A:Hx):wj [zm t,zj w,zj x] A=.ok (.int (wv K w x)) A:=by
 have hn:qI [zm t,zj w,zj x]=true:=by show((zm t).nr&&((zj w).nr&&((zj x).nr&&true)))=true;rw[j3,jP,jP];rfl
 refine yb (A1:=[]) hn rfl (qQ ?_);unfold T9;exact(zK (yh ((zQ (zy (zo rfl) zM)).trans (Zv d.tab d.kd d.sd [])))).trans ((zK (yh ((zQ (zy (zo rfl) (zy (zo rfl) zM))).trans (Ox d h [])))).trans ((zK (yh ((zQ (zy (zo rfl) (zy (zo rfl) zM))).trans (Js d.tab (by rw[d.kd,H]) [])))).trans
  (qy (qX ((zQ (zy (zo rfl) (zy (zo rfl) zM))).trans (D1 h.l H d.k8 (h.sm d.zs) []))))))
def dv (h:Wt K S z w):wv K w (pv K (λk=>S.getD k []) x y)=wv K w x * wv K w y:=by
 unfold wv;have E:(sm K λk=>w.getD k 0 * (pv K (λk=>S.getD k []) x y).getD k 0)=sm K λk=>sm K λi=>sm K λj=>w.getD k 0 * (x.getD i 0 * y.getD j 0 * pS S k i j):=jb λk H=>by
  rw[Av H];unfold ds;rw[<- Zw];exact jb λi _=>by rw[<- Zw]
 rw[E,Z9,<- J9];refine jb λi b=>?_;rw[Z9,<- Zw];refine jb λj a=>?_;have e:(sm K λk=>w.getD k 0 * (x.getD i 0 * y.getD j 0 * pS S k i j))=(x.getD i 0 * y.getD j 0) * sm K λk=>pS S k i j * w.getD k 0:=by
  rw[<- Zw];refine jb λk _=>?_
  grind
 rw[e,<- h.f i j b a]
 grind
def AN (H:x.length=K)(h:y.length=K):wv K w (av x y)=wv K w x+wv K w y:=by
 unfold wv;rw[<- P0];refine jb λk a=>?_;have e:=di H h (k:Int) (by rw[aB];exact a)
 unfold mv at e;rw[aB]at e;rw[e,Int.mul_add]
noncomputable def tb (z w:bF):Nat->Int×Int
 |0=>(0,1)|k+1=>((tb z w k).1 * z.getD k 0+w.getD k 0 * w.getD k 0 * (tb z w k).2,(tb z w k).2 * z.getD k 0)
def Vs {v:Int}(H:1<=v)(h:v<=8):v * (840/v)=840/\0<840/v:=by
 have:v=1∨v=2∨v=3∨v=4∨v=5∨v=6∨v=7∨v=8:=by omega
 rcases this with rfl|rfl|rfl|rfl|rfl|rfl|rfl|rfl<;>decide
def Vh {v:Int}(h:-9<v/\v<9):0<=v * v/\v * v<=64:=by
 have:v=-8∨v=-7∨v=-6∨v=-5∨v=-4∨v=-3∨v=-2∨v=-1∨v=0∨v=1∨v=2∨v=3∨v=4∨v=5∨v=6∨v=7∨v=8:=by omega
 rcases this with rfl|rfl|rfl|rfl|rfl|rfl|rfl|rfl|rfl|rfl|rfl|rfl|rfl|rfl|rfl|rfl|rfl<;>decide
theorem OO (h:Zs K z)(hw:w.length=K)(H:∀v∈w,-9<v/\v<9):∀k,k<=K->(0<(tb z w k).2/\(tb z w k).2<=(8:Int) ^ k)/\(0<=(tb z w k).1/\(tb z w k).1<=64 * (k:Int) * (8:Int) ^ k)/\(tb z w k).1 * 840=(tb z w k).2 * Qw k z w
 |0,_=>by
  refine⟨?_,?_,rfl⟩
  ·show 0<(1:Int)/\(1:Int)<=8 ^ 0
   decide
  ·show 0<=(0:Int)/\(0:Int)<=64 * ((0:Nat):Int) * 8 ^ 0
   decide
 |k+1,l=>by
  obtain⟨⟨j,f⟩,⟨c1,c2⟩,e⟩:=OO h hw H k (by omega)
  have Z:=h.le (k:=k) (by omega)
  have g:=Vs Z.1 Z.2;have b:=Vh (H _ (getD_mem (w:=w) (k:=k) (by omega)))
  have p:(0:Int)<8 ^ k:=Int.pow_pos (by decide)
  have eq:Qw (k+1) z w=Qw k z w+w.getD k 0 * w.getD k 0 * (840/z.getD k 0):=by unfold Qw;rw[yO]
  unfold tb;generalize (tb z w k).1=T at*;generalize (tb z w k).2=B at*;generalize w.getD k 0 * w.getD k 0=a at*;refine⟨⟨mul_pos j (by omega),?_⟩,⟨?_,?_⟩,?_⟩
  ·rw[Int.pow_succ]
   exact Int.mul_le_mul f Z.2 (by omega) (by omega)
  ·exact Int.add_nonneg (mul_nonneg c1 (by omega)) (mul_nonneg b.1 (by omega))
  ·have d:T * z.getD k 0<=64 * (k:Int) * 8 ^ k * 8:=Int.mul_le_mul c2 Z.2 (by omega) (mul_nonneg (by omega) (by omega))
   have c:a * B<=64 * 8 ^ k:=Int.mul_le_mul b.2 f (by omega) (by omega)
   have m:64 * ((k+1:Nat):Int) * (8:Int) ^ (k+1)=64 * (k:Int) * 8 ^ k * 8+512 * 8 ^ k:=by
    rw[Int.pow_succ]
    grind
   omega
  ·rw[eq]
   have i:=g.1;generalize 840/z.getD k 0=q at*;generalize z.getD k 0=v at*;generalize Qw k z w=Q at*;show(T * v+a * B) * 840=B * v * (Q+a * q);have d:T * v * 840=B * Q * v:=by rw[<- e,mul_assoc,Int.mul_comm v 840,<- mul_assoc]
   have c:a * B * 840=a * B * (v * q):=by rw[i]
   rw[Int.add_mul,d,c]
   grind
def PY (h:Wt K S z w)(H:Zs K z)(k1:1<=K):0<Qw K z w:=by
 have h0:∀m,m<=K->0<=Qw m z w/\(1<=m->840<=Qw m z w):=λm=>by
  induction m with
  |zero=>intro _;exact⟨Int.le_refl _,λq=>absurd q (by omega)⟩|succ m i=>
   intro hm;have i:=i (by omega)
   have Z:=H.le (k:=m) (by omega)
   have a:=Vs Z.1 Z.2;have b:=Vh (h.sm H _ (getD_mem (w:=w) (k:=m) (by rw[h.l];omega)))
   have e:Qw (m+1) z w=Qw m z w+w.getD m 0 * w.getD m 0 * (840/z.getD m 0):=by unfold Qw;rw[yO]
   have p:=mul_nonneg b.1 (Int.le_of_lt a.2);refine⟨by omega,λ_=>?_⟩
   by_cases q:m=0
   ·subst q
    rw[e,h.o,H.h]
    have:=i.1
    show(840:Int)<=Qw 0 z w+1 * 1 * (840/1);omega
   ·have:=i.2 (by omega)
    omega
 have:=(h0 K (ao _)).2 k1
 omega
abbrev oB:Ex:=zq (zX 2 (zi qM (zi zZ zF qH) (zi zZ (zi zZ jz jz) qe))) (zq (zX 3 (zi zZ qe qH)) zA)
def Pn (d:Dt t K S z)(h:Wt K S z w)(A:Hx):JI [zm t,zj w] A=.ok (.int (q9 t.length K z w)) A:=by
 have r:=h.l;have Z:=d.zs.l;have k1:=d.k1;have k8:=d.k8;have f:=h.sm d.zs;have n8:=d.tab.n8;have n1:=d.tab.n1;have T:=OO d.zs r f;have P:∀k,k<=K->(8:Int) ^ k<=16777216:=λk a=>by
  have:k=0∨k=1∨k=2∨k=3∨k=4∨k=5∨k=6∨k=7∨k=8:=by omega
  rcases this with rfl|rfl|rfl|rfl|rfl|rfl|rfl|rfl|rfl<;>decide
 have bd:∀k,k<=K->(0<(tb z w k).2/\(tb z w k).2<=16777216)/\0<=(tb z w k).1/\(tb z w k).1<=8589934592:=λk a=>by
  obtain⟨⟨b,g⟩,⟨c1,c2⟩,_⟩:=T k a;have p:=P k a;have u:(0:Int)<8 ^ k:=Int.pow_pos (by decide)
  have:64 * (k:Int) * 8 ^ k<=512 * 16777216:=Int.mul_le_mul (by omega) p (by omega) (by decide)
  omega
 have hn:qI [zm t,zj w]=true:=by show((zm t).nr&&((zj w).nr&&true))=true;rw[j3,jP];rfl
 have E:jH (zx gc (zh zt zr)) zw [some (zm t),some (zj w),some (.int 0),some (.int 1),none,none] []=.ok (yH (.ref 0) (zj w) (z.map W.int).length) [.lst (z.map W.int)]:=by
  have s:zx gc (zh zt zr) [some (zm t),some (zj w),some (.int 0),some (.int 1),none,none] []=.ok (.ref 0) [.lst (z.map W.int)]:=(zQ (zy (zo rfl) zM)).trans (d.zf []);unfold jH;rw[s,zS,show zw [some (zm t),some (zj w),some (.int 0),some (.int 1),none,none] [.lst (z.map W.int)]=.ok (zj w) [.lst (z.map W.int)] from zo rfl,zS]
  rfl
 obtain⟨i,B,e,H,Y,y,rfl⟩:=Zl (j:=yH (.ref 0) (zj w) (z.map W.int).length) (st:=turn (qG 4 5) oB) (N:=K) (I:=λk ρ B=>B=[.lst (z.map W.int)]/\∃Y y,ρ=[some (zm t),some (zj w),some (.int (tb z w k).1),some (.int (tb z w k).2),Y,y])
  (λk ρ B a ⟨H,Y,y,c⟩=>by
   subst H c;obtain⟨⟨b,g⟩,c1,c2⟩:=bd k (by omega)
   have o:=f _ (getD_mem (w:=w) (k:=k) (by omega))
   have ww:=Vh o;refine⟨.tup [.int (z.getD k 0),.int (w.getD k 0)],_,_,(Jf (n:=0) (us:=z.map W.int) rfl k _).trans (by rw[int_at (by omega),int_at (by omega)];rfl),(kq (ρ1:=[some (zm t),some (zj w),some (.int (tb z w k).1),some (.int (tb z w k).2),some (.int (z.getD k 0)),some (.int (w.getD k 0))]) rfl).trans ((zK (qK ((zN ((zN (zo rfl) (zo rfl)).trans (yW (by omega) (by omega))) ((zN ((zN (zo rfl) (zo rfl)).trans (yW (by omega) (by omega))) (zo rfl)).trans (yW (by omega) (by omega)))).trans rfl))).trans ((zK (qK ((zN (zo rfl) (zo rfl)).trans (yW (by omega) (by omega))))).trans jf)),rfl,_,_,rfl⟩)
  (λρ B ⟨H,_⟩=>by
   subst H;exact(Jf (n:=0) (us:=z.map W.int) rfl K _).trans (by rw[au (by rw[ae];omega)];rfl))
  K 0 [some (zm t),some (zj w),some (.int 0),some (.int 1),none,none] [.lst (z.map W.int)] (by omega) ⟨rfl,_,_,rfl⟩
 subst H;obtain⟨⟨b,g⟩,c1,c2⟩:=bd K (ao _);obtain⟨_,_,eq⟩:=T K (ao _);have q:=PY h d.zs k1;have tp:0<(tb z w K).1:=by
  have:=mul_pos b q
  omega
 have L:(t.length:Int) * (tb z w K).2/(tb z w K).1=q9 t.length K z w:=by
  unfold q9;rw[<- Int.mul_ediv_mul_of_pos_left (t.length * (tb z w K).2) (tb z w K).1 (show(0:Int)<840 by decide),eq,<- Int.mul_ediv_mul_of_pos_left ((t.length:Int) * 840) (Qw K z w) b]
  congr 1
  ·grind
  ·exact Int.mul_comm _ _
 refine yb (A1:=[.lst (z.map W.int)]) hn rfl (qQ ?_);unfold UN;have m:(z.map W.int).length=K:=by rw[ae,Z]
 refine(zK (qK qw)).trans ((zK (qK qw)).trans ((zK ((yM E).trans (by
  show jT _ _ (z.map W.int).length 0 _ _=_;rw[m]at e ⊢;exact e))).trans (qy (qX ((zN ((zN (len_tab (t:=t) rfl) (zo rfl)).trans (yW (by omega) (by omega))) (zo rfl)).trans ((K3 tp (by omega)).trans (by rw[L])))))))
def Oj (d:Dt t K S z)(h:Wt K S z w)(A:Hx):gD [zm t,zj w] A=.ok (.int (q9 t.length K z w)) A:=by
 have hn:qI [zm t,zj w]=true:=by show((zm t).nr&&((zj w).nr&&true))=true;rw[j3,jP];rfl
 refine yb (A1:=[]) hn rfl (qQ ?_);unfold TK;exact(zK (yh ((zQ (zy (zo rfl) zM)).trans (Zv d.tab d.kd d.sd [])))).trans ((zK (yh ((zQ (zy (zo rfl) (zy (zo rfl) zM))).trans (Ox d h [])))).trans (qy (qX ((zQ (zy (zo rfl) (zy (zo rfl) zM))).trans (Pn d h [])))))
variable {v:bF}{a m:Nat}
def Bz {m:Ev}(h:m ρ A=.ok (.ref n) A1)(H:A1[n]? =some (.lst ws)):yG m ρ A=.ok (yj (.ref n) ws.length) A1:=by
 unfold yG;rw[h,zS]
 have:zW (.ref n) A1=some ws:=by unfold zW;dsimp only;rw[H]
 rw[this]
def Cq {w:W}{N:Nat}(H:A[n]? =some (.lst ws))(h:ws[i]? =some w):(yj (.ref n) N).at_ A i=some (some (.tup [.int i,w])):=by
 show(match zW (.ref n) A with|some ws=>atEnd ws i λx=>.tup [.int i,x]|none=>none)=_
 have:zW (.ref n) A=some ws:=by unfold zW;dsimp only;rw[H]
 rw[this];show atEnd ws i _=_;unfold atEnd;rw[h]
def E6 {N:Nat}(h:A[n]? =some (.lst ws)):(yj (.ref n) N).at_ A ws.length=some none:=by
 show(match zW (.ref n) A with|some w=>atEnd w ws.length λx=>.tup [.int ws.length,x]|none=>none)=_
 have:zW (.ref n) A=some ws:=by unfold zW;dsimp only;rw[h]
 rw[this];show atEnd ws _ _=_;unfold atEnd;rw[au (ao _)];exact ag rfl
def Bk {m M:Ev}{vs:List W}(h:m ρ A=.ok (.ref n) A)(a:A[n]? =some (.lst us))(h':M ρ A=.ok (.ref k) A)(H:A[k]? =some (.lst vs)):jH m M ρ A=.ok (yH (.ref n) (.ref k) us.length) A:=by
 unfold jH;rw[h,zS,h',zS];have E:zW (.ref n) A=some us:=by unfold zW;dsimp only;rw[a]
 have e:zW (.ref k) A=some vs:=by unfold zW;dsimp only;rw[H]
 rw[E,e]
def Pd {vs:List W}{N:Nat}(H:A[n]? =some (.lst us))(h:A[k]? =some (.lst vs))(i:Nat):(yH (.ref n) (.ref k) N).at_ A i=some (zip2 us[i]? vs[i]?):=by
 show(match zW (.ref n) A,zW (.ref k) A with|some us,some vs=>some (zip2 us[i]? vs[i]?)|_,_=>none)=_
 have E:zW (.ref n) A=some us:=by unfold zW;dsimp only;rw[H]
 have e:zW (.ref k) A=some vs:=by unfold zW;dsimp only;rw[h]
 rw[E,e]
def dw (l:bE)(f:List Int->Int):su l f=sm l.length λr=>f (l.getD r []):=by
 unfold su sm;rw[QH l [] f]
def gP {l:bE}(h:i<l.length):(l.map zj)[i]? =some (zj (l.getD i [])):=by
 rw[ak,ab h,aa,ab h]
 rfl
def OL (h:Wt K S z w)(H:Zs K z)(k1:1<=K)(hn:n<=8):0<=q9 n K z w/\q9 n K z w<=6720:=by
 have q:=PY h H k1;unfold q9;refine⟨Int.ediv_nonneg (by omega) (by omega),?_⟩
 have:=Int.ediv_le_self (a:=(n:Int) * 840) (Qw K z w) (by omega)
 omega
def Nj (b:∀v∈w,-9<v/\v<9)(hw:w.length=K)(c:x.length=K)(d:K<=8)(H:∀v∈x,-9<v/\v<9):-1000<wv K w x/\wv K w x<1000:=by
 have h:∀m,m<=K->-(64 * (m:Int))<=sm m (λk=>w.getD k 0 * x.getD k 0)/\sm m (λk=>w.getD k 0 * x.getD k 0)<=64 * (m:Int):=λm=>by
  induction m with
  |zero=>intro _;exact⟨by show -(64 * ((0:Nat):Int))<=0;decide,by show(0:Int)<=64 * ((0:Nat):Int);decide⟩|succ m i=>
   intro hm;have i:=i (by omega)
   have a1:=b _ (getD_mem (w:=w) (k:=m) (by omega))
   have a2:=H _ (getD_mem (w:=x) (k:=m) (by omega))
   rw[yO];have p:-64<=w.getD m 0 * x.getD m 0/\w.getD m 0 * x.getD m 0<=64:=by
    generalize w.getD m 0=p at*;generalize x.getD m 0=q at*
    have:p.natAbs<=8:=by omega
    have a:q.natAbs<=8:=by omega
    have e:(p * q).natAbs<=64:=by rw[Int.natAbs_mul];exact mul_le_mul this a
    omega
   omega
 have:=h K (ao _)
 unfold wv;omega
def X6 (g:Or t K)(H:(Rw t K).length=K)(h:k<K):(sm K λr=>q9 t.length K (zJ t K) ((Rw t K).getD r []) * wv K ((Rw t K).getD r []) x * ((Rw t K).getD r []).getD k 0)=x.getD k 0 * ((t.length:Int) * (zJ t K).getD k 0):=by
 have b:(sm K λr=>q9 t.length K (zJ t K) ((Rw t K).getD r []) * wv K ((Rw t K).getD r []) x * ((Rw t K).getD r []).getD k 0)=sm K λr=>sm K λj=>x.getD j 0 * (q9 t.length K (zJ t K) ((Rw t K).getD r []) * (((Rw t K).getD r []).getD k 0 * ((Rw t K).getD r []).getD j 0)):=jb λr _=>by
  unfold wv;rw[<- Zw,<- J9];exact jb λj _=>by grind
 rw[b,Z9];have E:(sm K λj=>sm K λr=>x.getD j 0 * (q9 t.length K (zJ t K) ((Rw t K).getD r []) * (((Rw t K).getD r []).getD k 0 * ((Rw t K).getD r []).getD j 0)))=sm K λj=>if j=k then x.getD k 0 * ((t.length:Int) * (zJ t K).getD k 0) else 0:=jb λj a=>by
  rw[Zw]
  have:=g.or_ k j h a
  rw[dw,H]at this;rw[this]
  by_cases q:j=k
  ·subst q
   rw[ag rfl,ag rfl]
  ·rw[aj q,aj (λe=>q e.symm),Int.mul_zero]
 rw[E,X0 h]
abbrev mB:Ex:=zq (zX 7 (mQ jX (zT 2 [5] (jH qe zF) (qG 0 1) qd (zR (zi zZ zt (zi zI zw zF)))))) (zq (qR (zi qZ (zi yu yf (zi zZ (mQ qm (zV zt)) yD)) qx) (zq (qt WV) zA) zA) (zq (jd (jU yr qH (zi ku yf (zi zZ (mQ qm (zV zt)) yD)))) zA))
def Cc (ht:qc t)(s:ja t)(J:qa t=(K:Int))(g:Or t K)(c:(Rw t K).length=K)(X:x.length=K)(U:∀v∈x,-9<v/\v<9)(A:Hx):Kr [zm t,zj ((Rw t K).map λw=>wv K w x)] A=.ok (zj x) A:=by
 have d:=ON ht s J;have n8:=ht.n8;have n1:=ht.n1;have k8:=d.k8;have k1:=d.k1;have Z:=d.zs.l;have a:∀r,r<K->Wt K (SL t K) (zJ t K) ((Rw t K).getD r []):=λr h=>(Zt ht s J).mp (by rw[aa,ab (by omega)];exact aG _)
 generalize D:((Rw t K).map λw=>wv K w x)=v;have Q:v.length=K:=by rw[<- D,ae,c]
 have S:∀r,r<K->v.getD r 0=wv K ((Rw t K).getD r []) x:=λr h=>by
  rw[<- D,aa,ak,ab (by omega),aa (l:=Rw t K),ab (by omega)]
  rfl
 have hn:qI [zm t,zj v]=true:=by show((zm t).nr&&((zj v).nr&&true))=true;rw[j3,jP];rfl
 let pt:Nat->Int:=λr=>q9 t.length K (zJ t K) ((Rw t K).getD r []) * wv K ((Rw t K).getD r []) x
 have P:∀r,r<K->-10000000<pt r/\pt r<10000000:=λr h=>by
  have a1:=OL (n:=t.length) (a r h) d.zs k1 n8;have a2:=Nj ((a r h).sm d.zs) (a r h).l X k8 U;show -10000000<q9 t.length K (zJ t K) ((Rw t K).getD r []) * wv K ((Rw t K).getD r []) x/\q9 t.length K (zJ t K) ((Rw t K).getD r []) * wv K ((Rw t K).getD r []) x<10000000;generalize q9 t.length K (zJ t K) ((Rw t K).getD r [])=p at*;generalize wv K ((Rw t K).getD r []) x=q at*;have h3:(p * q).natAbs<=6720 * 1000:=by rw[Int.natAbs_mul];exact mul_le_mul (by omega) (by omega)
  omega
 have e3:zT 2 [0] (jH zF zw) (qG 0 1) qd (zR (zi zZ (zx JI (zh zF (zh zt zr))) zw)) [some (zm t),some (zj v),some (.ref 0),none,none,none,none,none] [.lst ((Rw t K).map zj)]=.ok ((List.range K).map λr=>.int (pt r)) [.lst ((Rw t K).map zj)]:=
  JW (N:=K) (u:=λr=>zj ((Rw t K).getD r [])) (v:=λr=>.int (v.getD r 0)) (P9 (n:=0) (us:=(Rw t K).map zj) (zo rfl) rfl (zo rfl)) (by show((Rw t K).map zj).length=K;rw[ae,c]) (by omega)
   (λr h=>(Jf (n:=0) (us:=(Rw t K).map zj) rfl r _).trans (by rw[gP (by omega),int_at (by omega)];rfl))
   ((Jf (n:=0) (us:=(Rw t K).map zj) rfl K _).trans (by rw[au (by rw[ae];omega)];rfl))
   (λr h=>by
    have a1:=OL (n:=t.length) (a r h) d.zs k1 n8;refine(zN ((zQ (zy (zo rfl) (zy (zo rfl) zM))).trans (Pn d (a r h) _)) (zo rfl)).trans ((yW (by omega) (by omega)).trans ?_)
    rw[S r h])
 have C:=kR e3
 let H:List Int->Hx:=λq=>[.lst ((Rw t K).map zj),.lst ((List.range K).map λr=>.int (pt r)),.lst (q.map W.int),.lst ((zJ t K).map W.int)]
 have z:((zJ t K).map W.int).length=K:=by rw[ae,Z]
 obtain⟨M,B,e,f,i,Y,y,rfl⟩:=Zl (j:=yj (.ref 3) ((zJ t K).map W.int).length) (st:=turn (qG 5 6) mB) (N:=K) (I:=λk ρ B=>B=H (x.take k)/\∃i Y y,ρ=[some (zm t),some (zj v),some (.ref 0),some (.ref 1),some (.ref 2),i,Y,y])
  (λk ρ B o ⟨f,i,Y,y,m⟩=>by
   subst f m;have zk:=d.zs.le o;have L:zT 2 [5] (jH qe zF) (qG 0 1) qd (zR (zi zZ zt (zi zI zw zF))) [some (zm t),some (zj v),some (.ref 0),some (.ref 1),some (.ref 2),some (.int (k:Int)),some (.int ((zJ t K).getD k 0)),y] (H (x.take k))=.ok ((List.range K).map λr=>.int (pt r * ((Rw t K).getD r []).getD k 0)) (H (x.take k)):=
    JW (N:=K) (u:=λr=>.int (pt r)) (v:=λr=>zj ((Rw t K).getD r [])) (Bk (n:=1) (k:=0) (zo rfl) rfl (zo rfl) rfl) (by show((List.range K).map λr=>W.int (pt r)).length=K;rw[ae,ar]) (by omega)
     (λr h=>(Pd (n:=1) (k:=0) rfl rfl r).trans (by rw[ak,aM h,gP (by omega)];rfl))
     ((Pd (n:=1) (k:=0) rfl rfl K).trans (by rw[au (by rw[ae,ar];exact ao _)];rfl))
     (λr h=>by
      have:=P r h
      exact(zN (zo rfl) ((zN (zo rfl) (zo rfl)).trans (gN (b:=k) (by rw[(a r h).l];exact o)))).trans (yW (by omega) (by omega)))
   have es:((List.range K).map λr=>W.int (pt r * ((Rw t K).getD r []).getD k 0))=((List.range K).map λr=>pt r * ((Rw t K).getD r []).getD k 0).map W.int:=by rw[aR];rfl
   rw[es]at L;have e7:mQ jX (zT 2 [5] (jH qe zF) (qG 0 1) qd (zR (zi zZ zt (zi zI zw zF)))) [some (zm t),some (zj v),some (.ref 0),some (.ref 1),some (.ref 2),some (.int (k:Int)),some (.int ((zJ t K).getD k 0)),y] (H (x.take k))=.ok (.int (x.getD k 0 * ((t.length:Int) * (zJ t K).getD k 0))) (H (x.take k)):=((jS L).trans (Q2 _)).trans (by
    rw[show(List.map (λr=>pt r * ((Rw t K).getD r []).getD k 0) (List.range K)).sum=x.getD k 0 * ((t.length:Int) * (zJ t K).getD k 0) from X6 g c o])
   have np:0<(t.length:Int) * (zJ t K).getD k 0:=mul_pos (by omega) (by omega)
   have nb:(t.length:Int) * (zJ t K).getD k 0<=8 * 8:=Int.mul_le_mul (by omega) (by omega) (by omega) (by omega)
   have em:∀{B:Hx},zi zZ (mQ qm (zV zt)) yD [some (zm t),some (zj v),some (.ref 0),some (.ref 1),some (.ref 2),some (.int (k:Int)),some (.int ((zJ t K).getD k 0)),some (.int (x.getD k 0 * ((t.length:Int) * (zJ t K).getD k 0)))] B=.ok (.int ((t.length:Int) * (zJ t K).getD k 0)) B:=λ {B}=>(zN (len_tab (t:=t) rfl) (zo rfl)).trans (yW (by omega) (by omega))
   generalize (t.length:Int) * (zJ t K).getD k 0=N at*;refine⟨.tup [.int (k:Int),.int ((zJ t K).getD k 0)],[some (zm t),some (zj v),some (.ref 0),some (.ref 1),some (.ref 2),some (.int (k:Int)),some (.int ((zJ t K).getD k 0)),some (.int (x.getD k 0 * N))],H (x.take (k+1)),Cq rfl (int_at (by omega)),(kq (ρ1:=[some (zm t),some (zj v),some (.ref 0),some (.ref 1),some (.ref 2),some (.int (k:Int)),some (.int ((zJ t K).getD k 0)),y]) rfl).trans ((zK (qK e7)).trans ((zK ((yc ((zN ((zN (zo rfl) em).trans (Qd np)) qw).trans ((JB _ _ _).trans ?_))).trans jf)).trans ((zK (yh ((Xf (zo rfl) rfl ((zN (zo rfl) em).trans (K3 np (by omega)))).trans (Sd (A:=H (x.take k)) (n:=2) (ws:=(x.take k).map W.int) rfl ?_)))).trans (jf.trans ?_)))),rfl,_,_,_,rfl⟩
   ·rw[Int.mul_emod_left];rfl
   ·rw[ae,bj];omega
   ·rw[Int.mul_ediv_cancel _ (by omega)]
    have:x.take (k+1)=x.take k++[x.getD k 0]:=by
     rw[take_succ (by omega),aa,ab (by omega)]
     rfl
    show R.ok _ [_,_,O.lst _,_]=R.ok _ [_,_,O.lst _,_];rw[this,aP]
    rfl)
  (λρ B ⟨f,_⟩=>by
   subst f
   have:=E6 (A:=H (x.take K)) (n:=3) (ws:=(zJ t K).map W.int) (N:=((zJ t K).map W.int).length) rfl
   rw[z]at this ⊢;exact this) K 0 [some (zm t),some (zj v),some (.ref 0),some (.ref 1),some (.ref 2),none,none,none] (H []) (by omega) ⟨rfl,_,_,_,rfl⟩
 subst f;have T:Gi [zm t] []=.ok .non []:=by
  refine yb (A1:=[]) (kj t) rfl (Yb (ρ:=[some (zm t)]) ?_);unfold Uj;exact(zK ((yc (wq (k:=true) ((zQ (zy (zo rfl) zM)).trans ((Oe d []).trans (by rw[aw c]))))).trans jf)).trans jf
 have E:mQ qm (zV zF) [some (zm t),some (zj v),some (.ref 0),none,none,none,none,none] [.lst ((Rw t K).map zj)]=.ok (.int (v.length:Int)) [.lst ((Rw t K).map zj)]:=by
  rw[jS (yE (w:=.ref 0) (ws:=(Rw t K).map zj) (A1:=[.lst ((Rw t K).map zj)]) (zo rfl) rfl)];unfold qm;rw[ae,c,Q]
 refine yb (A1:=H x) hn (jP x) (qQ ?_);unfold Ru;rw[a5 (by omega)]at e
 refine(zK (yh ((zQ (zy (zo rfl) zM)).trans T))).trans ?_;refine(zK (qK ((zQ (zy (zo rfl) zM)).trans (Xj d [])))).trans ?_;refine(zK ((yc (wq (k:=true) ((zQ (zy (zo rfl) (zy E zM))).trans (Xb (by omega) _)))).trans jf)).trans ?_
 refine(zK (qK C)).trans ((zK (qK (kC zM))).trans ((zK ((yM (Bz (n:=3) ((zQ (zy (zo rfl) zM)).trans (d.zf _)) rfl)).trans (by
  show jT _ _ ((zJ t K).map W.int).length 0 _ _=_;rw[z]at e ⊢;exact e))).trans (qy (qX (wt (yE (w:=.ref 2) (ws:=x.map W.int) (A1:=H x) (zo rfl) rfl))))))
end
def YH {r s:Nat}{l m:bF}(h:A[r]? =some (.lst (l.map W.int)))(H:A[s]? =some (.lst (m.map W.int))):qZ (.ref r) (.ref s) A=.ok (.bl (!decide (l=m))) A:=by
 show kL true _ _ A=_;unfold kL;rw[Oh h,Oh H];dsimp only;rw[PyData.eqv,Kg]
 rfl
section
variable {w x y r:bF}{a b k K m:Nat}
noncomputable def QA (t:bE)(r:bF):bE:=t.map λrow=>row.map λk=>r.getD k.toNat 0
def dy (h:qc t)(n:qa t=(K:Int))(l:r.length=K)(A:Hx):GO [zm t,zj r] A=.ok (zm (QA t r)) A:=by
 have n8:=h.n8;refine yb (A1:=[]) (by show((zm t).nr&&((zj r).nr&&true))=true;rw[j3,jP];rfl) (j3 _) (qQ ?_)
 unfold TN;refine qy (qX ?_);have j:=Z3 (cap:=[1]) (A:=[]) (ρ:=[some (zm t),some (zj r)]) (o:=t) (f:=zj) (m:=zO 0) (me:=mQ qU (zT 1 [1] (qi (zO 0)) (zP 0) (z7 (.bl true)) (zR (zi zI (zO 1) (zO 0))))) (G:=λrow=>zj (row.map λk=>r.getD k.toNat 0)) (zo rfl) (by unfold qf;omega) (λrow H=>by
  have E:=Z3 (cap:=[1]) (A:=[]) (ρ:=[some (zj row),some (zj r)]) (o:=row) (f:=W.int) (m:=zO 0) (me:=zi zI (zO 1) (zO 0)) (G:=λk=>.int (r.getD k.toNat 0)) (zo rfl) (by have:=h.sq row H;unfold qf;omega) (λk c=>by
   have i:=h.lo row H k c;have p:k<qa t:=by
    obtain⟨a,b,g,d,e⟩:=KR h.sq (List.mem_flatten.mpr ⟨row,H,c⟩);rw[<- e];exact Q6 h g d
   obtain⟨v,rfl⟩:=aV i.1;refine(zN (zo rfl) (zo rfl)).trans ((gN (by omega)).trans ?_)
   rw[aB])
  refine(wt E).trans ?_;unfold zj;rw[aR]
  rfl)
 refine(wt j).trans ?_;unfold zm QA;rw[aR]
 rfl
def F6 (h:qc t)(a:qa t=(K:Int))(H:r.length=K)(A:Hx):QT [zm t,zj r] A=.ok (zm (QA t r)) A:=by
 refine yb (A1:=[]) (by show((zm t).nr&&((zj r).nr&&true))=true;rw[j3,jP];rfl) (j3 _) (qQ ?_)
 unfold RA;exact(zK (yh ((zQ (zy (zo rfl) zM)).trans (SK h [])))).trans ((zK (yh ((zQ (zy (zo rfl) (zy (zo rfl) zM))).trans (Js h (by rw[a,H]) [])))).trans (qy (qX ((zQ (zy (zo rfl) (zy (zo rfl) zM))).trans (dy h a H [])))))
def B9 (ht:qc t)(s:ja t)(b:qa t=(K:Int))(h:a<t.length):((t.getD a []).map λv=>x.getD v.toNat 0).sum=wv K (zJ t K) x:=by
 rw[G2 ht h,aR];show(sm t.length λc=>x.getD (at2 t a c).toNat 0)=_;have e:(sm t.length λc=>x.getD (at2 t a c).toNat 0)=sm t.length λc=>sm K λk=>if at2 t a c=(k:Int) then x.getD k 0 else 0:=jb λc H=>by
  have n:=Zr ht b h H;rw[<- Xv ht b h H (x.getD (at2 t a c).toNat 0)];refine jb λk _=>?_
  by_cases q:at2 t a c=(k:Int)
  ·rw[ag q,ag q,q,aB]
  ·rw[aj q,aj q]
 rw[e,Z9];unfold wv;refine jb λk d=>?_;rw[gT ht d,Xy ht s ht.n1 h];unfold nb;rw[<- J9];refine jb λc _=>?_
 by_cases q:at2 t a c=(k:Int)
 ·rw[ag q,ag q,Int.one_mul]
 ·rw[aj q,aj q,zero_mul]
def A6 (ht:qc t)(s:ja t)(H:qa t=(K:Int)):q9 t.length K (zJ t K) (zJ t K)=1:=by
 have zs:=Qi ht s H;have n1:=ht.n1;have e:Qw K (zJ t K) (zJ t K)=(t.length:Int) * 840:=by
  have:Qw K (zJ t K) (zJ t K)=sm K λk=>nb t 0 k * 840:=by
   unfold Qw;refine jb λk h=>?_;have z:=zs.le h;have Z:=Vs z.1 z.2;rw[<- gT ht h,mul_assoc,Z.1]
  rw[this,J9,Oi ht H]
 unfold q9;rw[e];exact Int.ediv_self (by omega)
abbrev dE:Ev:=mQ qU (zT 1 [0] (qi (zi zI zF qx)) (zP 0) qd (zR (zi yy (zx yV (zh zw (zh YI zr))) kA)))
def PQ (hw:w.length<=8)(h0:ρ[0]? =some (some (.ref 0)))(i:ρ[2]? =some (some (.ref 1))){o:O}{l:Hx}(s:ji 0 (o::.lst (zj w::us)::l)):∃x o',dE ρ (o::.lst (zj w::us)::l)=.ok (zj x) (o'::.lst (zj w::us)::l)/\x.length=w.length/\(∀v∈x,-9<v/\v<9)/\ji 0 (o'::.lst (zj w::us)::l):=by
 have j:zi zI zF qx ρ (o::.lst (zj w::us)::l)=.ok (zj w) (o::.lst (zj w::us)::l):=(zN (zo i) qw).trans (Z6 (n:=1) (s:=0) rfl rfl);obtain⟨d,A,J,e,q,o',Q,rfl,f,rfl,a,_⟩:=JY (nl:=1) (cap:=[0]) (mi:=qi (zi zI zF qx)) (ρ:=ρ) (tw:=zP 0) (ifs:=qd) (em:=zR (zi yy (zx yV (zh zw (zh YI zr))) kA)) (N:=w.length) (I:=λk σ c C=>∃q o',q.length=k/\c=q.map W.int/\(∀v∈q,-9<v/\v<9)/\C=o'::.lst (zj w::us)::l/\ji 0 C/\∃Y,σ=[Y,some (.ref 0)]) (Zo j) (by show(w.map W.int).length=w.length;rw[ae])
  (λk σ c C g ⟨q,o',B,z,t,r,a,Y,p⟩=>by
   subst z r p;obtain⟨v,b,E,v0,D,S⟩:=Qb a (m:=9) (by decide) (by decide)
   refine⟨.int (w.getD k 0),[some (.int (w.getD k 0)),some (.ref 0)],by show some (w.map W.int)[k]? =_;rw[int_at g],rfl,.inl ⟨_,_,_,_,qw,J8 (y:=.int (v-4)) (A1:=b::.lst (zj w::us)::l) ((zN (x:=.int v) (A1:=b::.lst (zj w::us)::l) ((zQ (zy (zo rfl) (zy qw zM))).trans E) qw).trans rfl) (by rw[ae];unfold qf;omega),q++[v-4],b,by rw[aE,B];rfl,by rw[aP];rfl,λu h=>?_,rfl,S,_,rfl⟩⟩
   rcases List.mem_append.mp h with h|h
   ·exact t u h
   ·rw[b1.mp h];omega)
  (λσ c C _=>by show some (w.map W.int)[w.length]? =_;rw[au (by rw[ae];exact ao _)])
  ⟨[],o,rfl,rfl,(λv H=>by cases H),rfl,s,_,by show [none,(ρ[0]?).join]=_;rw[h0];rfl⟩
 exact⟨q,o',wt e,Q,f,a⟩
variable {j:Nat}
def RS {j:Nat}{ma m:Ev}{A2:Hx}{x y:W}(h:ma ρ A=.ok x A1)(h':m ρ A1=.ok y A2):g0 i j ma m ρ A=.ok (.nx ((ρ.set i (some x)).set j (some y))) A2:=by
 unfold g0;rw[h,zS,h',zS]
def P4 (ht:qc t)(s:ja t)(h:qa t=(K:Int)):∃l,Rw t K=zJ t K::l:=by
 have b:=yP ht;obtain⟨l,e⟩:=Rf (Qi ht s h) KZ (PX ht s h) (K-1) (by omega)
 refine⟨l,e.trans ?_⟩;rw[a5 (by rw[KD];omega)]
def dz (ht:qc t)(s:ja t)(h:qa t=(K:Int)):Wt K (SL t K) (zJ t K) (zJ t K):=by
 obtain⟨l,e⟩:=P4 ht s h;exact(Zt ht s h).mp (by rw[e];exact aK ..)
def eqB (p q:Bool)(A:Hx):jn (.bl p) (.bl q) A=.ok (.bl (decide (p=q))) A:=by cases p<;>cases q<;>rfl
def AZ {v:Int}(h:A[m]? =some (.lst [.int v]))(hn:n<=8):zZ (.ref m) (.int (n:Int)) A=.ok (.ref A.length) (A++[.lst ((List.replicate n v).map W.int)]):=by
 unfold zZ;dsimp only;rw[h];dsimp only;rw[gF (by omega),aB,aw (show([W.int v]:List W).length * n<=qf by unfold qf;show 1 * n<=_;omega),rep1]
 show R.ok _ (A++[O.lst _])=_;rw[List.map_replicate,map_const',ar]
abbrev rB:Ex:=zq (g0 8 9 (zx wj (zh zw (zh yf (zh qe zr)))) (zx wj (zh zw (zh yf (zh qH zr))))) (zq (qR (wc (zi (Qx true) (zx Y0 (zh zw (zh yf zr))) qd) (zi qZ (zx wj (zh zw (zh yf (zh jz zr)))) (zi zZ ZJ WZ))) yI zA) (zq (qR (zi qZ (zx wj (zh zw (zh yf (zh yD zr)))) (zi qM ZJ WZ)) yI zA) zA))
abbrev yi (t:bE)(K:Nat)(x y:bF)(e d c b a Y:Option W):En:=[some (.ref 0),some (zm t),some (.ref 1),some (zj x),some (zj y),some (zj (pv K (λk=>(SL t K).getD k []) x y)),some (zj (av x y)),e,d,c,b,a,Y]
def dA {f e b a Y:Option W}(d:Dt t K (SL t K) (zJ t K))(h:Wt K (SL t K) (zJ t K) w)(H:x.length=K)(c:y.length=K)(B:∀v∈x,-9<v/\v<9)(A:Hx):rB (yi t K x y (some (zj w)) f e b a Y) A=.ok (.nx (yi t K x y (some (zj w)) (some (.int (wv K w x))) (some (.int (wv K w y))) b a Y)) A:=by
 have g:=Nj (h.sm d.zs) h.l H d.k8 B;refine(zK (RS ((zQ (zy (zo rfl) (zy (zo rfl) (zy (zo rfl) zM)))).trans (Ji d h H A)) ((zQ (zy (zo rfl) (zy (zo rfl) (zy (zo rfl) zM)))).trans (Ji d h c A)))).trans ?_;refine(zK ((yc ((Yp ((zN ((zQ (zy (zo rfl) (zy (zo rfl) zM))).trans (B5 d h A)) qw).trans rfl)).trans ((zN ((zQ (zy (zo rfl) (zy (zo rfl) (zy (zo rfl) zM)))).trans (Ji d h C9 A)) ((zN (zo rfl) (zo rfl)).trans (yW (by omega) (by omega)))).trans ((JB _ _ _).trans (by rw[dv h,aw rfl];rfl))))).trans jf)).trans ?_
 exact(zK ((yc ((zN ((zQ (zy (zo rfl) (zy (zo rfl) (zy (zo rfl) zM)))).trans (Ji d h (by rw[Bn,H]) A)) ((zN (zo rfl) (zo rfl)).trans rfl)).trans ((JB _ _ _).trans (by rw[AN H c,aw rfl];rfl)))).trans jf)).trans jf
def C7 (d:Dt t K (SL t K) (zJ t K))(g:Or t K)(H:(Rw t K).length=K)(b:x.length=K)(a:y.length=K)(e:((Rw t K).map λw=>wv K w x)=(Rw t K).map λw=>wv K w y):x=y:=X7 b a λk h=>by
 have n1:=d.tab.n1;have z:=d.zs.le h;have np:0<(t.length:Int) * (zJ t K).getD k 0:=mul_pos (by omega) (by omega)
 have E:=X6 (x:=x) g H h;have c:=X6 (x:=y) g H h
 have:(sm K λr=>q9 t.length K (zJ t K) ((Rw t K).getD r []) * wv K ((Rw t K).getD r []) x * ((Rw t K).getD r []).getD k 0)=sm K λr=>q9 t.length K (zJ t K) ((Rw t K).getD r []) * wv K ((Rw t K).getD r []) y * ((Rw t K).getD r []).getD k 0:=jb λr f=>by
  have:=List.map_inj_left.mp e ((Rw t K).getD r []) (by rw[aa,ab (by omega)];exact aG _)
  rw[this]
 rw[this,c]at E;exact(Int.eq_of_mul_eq_mul_right (by omega) E).symm
variable {z:bF}{S:List (bE)}{B:Hx}
def DT (ht:qc t)(s:ja t)(P:qa t=(K:Int))(hb:((Rw t K).length=K/\Or t K)∨((Rw t K).length≠K/\su (Rw t K) (q9 t.length K (zJ t K))<(t.length:Int))){o:O}(st:ji 0 [o]):∃B,GL [.ref 0,zm t] [o]=.ok (.bl true) B/\ji 0 B:=by
 have d:=ON ht s P;have n8:=ht.n8;have n1:=ht.n1;have k8:=d.k8;have zl:=d.zs.l;have wz:=dz ht s P;obtain⟨R',er⟩:=P4 ht s P;have hR:∀w∈Rw t K,Wt K (SL t K) (zJ t K) w:=λw hw=>(Zt ht s P).mp hw;have few:(Rw t K).length<=2187:=R3 d.zs (by have:=d.k1;omega)
 have em:(Rw t K).map zj=zj (zJ t K)::R'.map zj:=by rw[er];rfl
 have e1:=CS d [o];rw[show jC (SL t K) (zJ t K) (K-1)=Rw t K from rfl,em]at e1
 have s0:ji 0 (o::.lst (zj (zJ t K)::R'.map zj)::[]):=by obtain⟨c,b,q1,q2⟩:=st;exact⟨c,b,q1,q2⟩
 obtain⟨x,o1,e2,T,bx,s1⟩:=PQ (ρ:=[some (.ref 0),some (zm t),some (.ref 1),none,none,none,none,none,none,none,none,none,none]) (by omega) rfl rfl s0
 obtain⟨y,u,e3,X,b_y,s2⟩:=PQ (ρ:=[some (.ref 0),some (zm t),some (.ref 1),some (zj x),none,none,none,none,none,none,none,none,none]) (by omega) rfl rfl s1
 rw[zl]at T X;have sx:Sn x:=λv hv=>by have:=bx v hv;omega
 have e4:=Cp (S:=λk=>(SL t K).getD k []) ht s P (Yt ht s P) T X (df sx) (u::.lst (zj (zJ t K)::R'.map zj)::[]);have e5:=EG ht s P T X (u::.lst (zj (zJ t K)::R'.map zj)::[]);generalize hL:(O.lst (zj (zJ t K)::R'.map zj))=L at*;have gz:∀{ρ:En}{l:Hx},ρ[2]? =some (some (.ref 1))->zi zI zF qx ρ (u::L::l)=.ok (zj (zJ t K)) (u::L::l):=λ {ρ l} h2=>by
  subst hL;exact(zN (zo h2) qw).trans (Z6 (n:=1) (s:=0) rfl rfl)
 have hLr:∀{l:Hx},(u::L::l)[1]? =some (.lst ((Rw t K).map zj)):=λ {l}=>by rw[em,hL];rfl
 have e6:zi qZ (jk (zV (zi zI zF qx))) (zx Yd (zh zw zr)) (yi t K x y none none none none none none) (u::L::[])=.ok (.bl false) (u::L::[.lst ((zJ t K).map W.int),.lst ((zJ t K).map W.int)]):=by
  have a1:jk (zV (zi zI zF qx)) (yi t K x y none none none none none none) (u::L::[])=.ok (.ref 2) (u::L::[.lst ((zJ t K).map W.int)]):=kR (yE (w:=zj (zJ t K)) (ws:=(zJ t K).map W.int) (gz rfl) rfl);refine(zN a1 ((zQ (zy (zo rfl) zM)).trans (du d _))).trans ?_;refine(YH (r:=2) (s:=3) (l:=zJ t K) (m:=zJ t K) rfl rfl).trans ?_;rw[aw rfl]
  rfl
 have e7:zi qZ (zx gD (zh zw (zh (zi zI zF qx) zr))) jj (yi t K x y none none none none none none) (u::L::[.lst ((zJ t K).map W.int),.lst ((zJ t K).map W.int)])=.ok (.bl false) (u::L::[.lst ((zJ t K).map W.int),.lst ((zJ t K).map W.int)]):=
  (zN ((zQ (zy (zo rfl) (zy (gz rfl) zM))).trans (Oj d wz _)) qw).trans ((JB _ _ _).trans (by rw[A6 ht s P,aw rfl];rfl))
 generalize hC:(u::L::[.lst ((zJ t K).map W.int),.lst ((zJ t K).map W.int)]:Hx)=C at e6 e7;have U:C[1]? =some (.lst ((Rw t K).map zj)):=by rw[<- hC];exact hLr
 obtain⟨ρ',Q,e8,hC',p,h,Y,rfl⟩:=Zl (j:=⟨λA i=>(zW (.ref 1) A).map λws=>ws[i]?,((Rw t K).map zj).length⟩) (st:=turn (zP 7) rB) (N:=(Rw t K).length) (I:=λ_ ρ B=>B=C/\∃p h Y,ρ=yi t K x y p h Y none none none)
  (λi ρ B hi ⟨hB,p,h,Y,hρ⟩=>by
   subst hB hρ;exact⟨_,_,_,(kD U).trans (by rw[gP hi]),(kq (ρ1:=yi t K x y (some (zj ((Rw t K).getD i []))) h Y none none none) rfl).trans (dA d (hR _ (by rw[aa,ab hi];exact aG _)) T X bx _),rfl,_,_,_,rfl⟩)
  (λρ B ⟨hB,_⟩=>by
   subst hB;exact(kD U).trans (by rw[au (by rw[ae];exact ao _)]))
  (Rw t K).length 0 (yi t K x y none none none none none none) C (by omega) ⟨rfl,_,_,_,rfl⟩
 subst hC';have e9:∃D,zi qZ (jk (zT 1 [] (qi (zx QT (zh zw (zh qe zr)))) (zP 0) qd (zR (mQ jX (zV zt))))) (zi zZ (js (zh (zx wj (zh zw (zh (zi zI zF qx) (zh qe zr)))) zr)) (mQ qm (zV zw))) (yi t K x y p h Y none none none) Q=.ok (.bl false) (Q++D):=by
  have sq:=F6 ht P T Q;have c1:=Z3 (cap:=[]) (ρ:=yi t K x y p h Y none none none) (A:=Q) (m:=zx QT (zh zw (zh qe zr))) (o:=QA t x) (f:=zj) (me:=mQ jX (zV zt)) (G:=λr=>.int r.sum) ((zQ (zy (zo rfl) (zy (zo rfl) zM))).trans sq) (by unfold QA;rw[ae];unfold qf;omega) (λr _=>(jS (yE (w:=zj r) (ws:=r.map W.int) (A1:=Q) (zo rfl) rfl)).trans (Q2 r))
  have eq:((QA t x).map λr=>W.int r.sum)=((List.replicate t.length (wv K (zJ t K) x)).map W.int):=by
   unfold QA;rw[aR,List.map_replicate];refine List.eq_replicate_iff.mpr ⟨by rw[ae],λb hb=>?_⟩
   obtain⟨r,hr,rfl⟩:=bZ.mp hb;obtain⟨a,ha,e⟩:=aY hr
   have:r=t.getD a []:=by rw[aa,ab ha];exact e.symm
   show W.int (r.map λk=>x.getD k.toNat 0).sum=_;rw[this,B9 ht s P ha]
  rw[eq]at c1;have c2:=kR c1;have hz:∀l:Hx,zx wj (zh zw (zh (zi zI zF qx) (zh qe zr))) (yi t K x y p h Y none none none) (Q++l)=.ok (.int (wv K (zJ t K) x)) (Q++l):=λl=>by
   rw[<- hC];exact(zQ (zy (zo rfl) (zy (gz rfl) (zy (zo rfl) zM)))).trans (Ji d wz T _)
  have c3:=(zN (g:=zZ) (kC (zy (hz [.lst ((List.replicate t.length (wv K (zJ t K) x)).map W.int)]) zM)) (len_tab (t:=t) (ρ:=yi t K x y p h Y none none none) (i:=1) rfl)).trans (AZ kh n8);refine⟨[.lst ((List.replicate t.length (wv K (zJ t K) x)).map W.int),.lst [.int (wv K (zJ t K) x)],.lst ((List.replicate t.length (wv K (zJ t K) x)).map W.int)],(zN c2 c3).trans ((YH (l:=List.replicate t.length (wv K (zJ t K) x)) (m:=List.replicate t.length (wv K (zJ t K) x)) (yF (yF kh)) kh).trans ?_)⟩;rw[aw rfl];show R.ok (W.bl false) (Q++_++_++_)=_;rw[aQ,aQ]
  rfl
 obtain⟨D,e9⟩:=e9;have sD:ji 0 (Q++D):=by
  rw[<- hC];obtain⟨c,b,q1,q2⟩:=s2;exact⟨c,b,q1,q2⟩
 have hD1:(Q++D)[1]? =some (.lst ((Rw t K).map zj)):=by
  rw[<- hC];exact hLr
 generalize Q++D=E at*;have e10:mQ jX (zT 1 [1] (qi zF) (zP 0) qd (zR (zx gD (zh zw (zh zt zr))))) (yi t K x y p h Y none none none) E=.ok (.int (su (Rw t K) (q9 t.length K (zJ t K)))) E:=by
  have c:=G3 (cap:=[1]) (ρ:=yi t K x y p h Y none none none) (n:=1) (m:=zF) (me:=zx gD (zh zw (zh zt zr))) (f:=zj) (G:=λw=>.int (q9 t.length K (zJ t K) w)) (zo rfl) hD1 (by unfold qf;omega) (λw hw=>(zQ (zy (zo rfl) (zy (zo rfl) zM))).trans (Oj d (hR w hw) E))
  rw[show((Rw t K).map λw=>W.int (q9 t.length K (zJ t K) w))=((Rw t K).map (q9 t.length K (zJ t K))).map W.int by rw[aR];rfl]at c
  exact(jS c).trans (Q2 _)
 have tup:∀(v:bF)(q:Nat){M J H:Option W},(yi t K x y p h Y M J H)[q]? =some (some (zj v))->v.length=K->mQ qU (zT 1 [1,q] (qi zF) (zP 0) qd (zR (zx wj (zh zw (zh zt (zh zF zr)))))) (yi t K x y p h Y M J H) E=.ok (zj ((Rw t K).map λw=>wv K w v)) E:=λv q {M J H} hq lv=>by
  have c:=G3 (cap:=[1,q]) (ρ:=yi t K x y p h Y M J H) (n:=1) (m:=zF) (me:=zx wj (zh zw (zh zt (zh zF zr)))) (f:=zj) (G:=λw=>.int (wv K w v)) (zo rfl) hD1 (by unfold qf;omega) (λw hw=>by
   have:(some (zj w)::[1,q].map λi=>((yi t K x y p h Y M J H)[i]?).join)=[some (zj w),some (zm t),some (zj v)]:=by
    rw[aS,aS,hq]
    rfl
   rw[this];exact(zQ (zy (zo rfl) (zy (zo rfl) (zy (zo rfl) zM)))).trans (Ji d (hR w hw) lv E))
  refine(wt c).trans ?_;unfold zj;rw[aR]
  rfl
 refine⟨E,qQ ?_,sD⟩;unfold Tj;have head:∀{z},zq (zX 10 (mQ jX (zT 1 [1] (qi zF) (zP 0) qd (zR (zx gD (zh zw (zh zt zr))))))) z (yi t K x y p h Y none none none) E=.ok (.rt (.bl true)) E->zq (zX 2 (zx Y5 (zh zw zr))) (zq (zX 3 dE) (zq (zX 4 dE) (zq (g0 5 6 (zx Kk (zh zw (zh qe (zh qH zr)))) (zx KG (zh zw (zh qe (zh qH zr))))) (zq (qR (wc (zi qZ (jk (zV (zi zI zF qx))) (zx Yd (zh zw zr))) (zi qZ (zx gD (zh zw (zh (zi zI zF qx) zr))) jj)) yI zA) (zq (jm (qi zF) (zP 7) rB) (zq (qR (zi qZ (jk (zT 1 [] (qi (zx QT (zh zw (zh qe zr)))) (zP 0) qd (zR (mQ jX (zV zt))))) (zi zZ (js (zh (zx wj (zh zw (zh (zi zI zF qx) (zh qe zr)))) zr)) (mQ qm (zV zw)))) yI zA) (zq (zX 10 (mQ jX (zT 1 [1] (qi zF) (zP 0) qd (zR (zx gD (zh zw (zh zt zr))))))) z))))))) [some (.ref 0),some (zm t),none,none,none,none,none,none,none,none,none,none,none] [o]=.ok (.rt (.bl true)) E:=λ {z} hz=>by
  refine(zK (qK ((zQ (zy (zo rfl) zM)).trans e1))).trans ?_;refine(zK (qK e2)).trans ((zK (qK e3)).trans ?_);refine(zK (RS ((zQ (zy (zo rfl) (zy (zo rfl) (zy (zo rfl) zM)))).trans e4) ((zQ (zy (zo rfl) (zy (zo rfl) (zy (zo rfl) zM)))).trans e5))).trans ?_;refine(zK ((yc ((Yp e6).trans e7)).trans jf)).trans ?_;refine(zK ((yM (Zm (n:=1) (zo rfl) U)).trans (by
   show jT _ _ ((Rw t K).map zj).length 0 _ _=_;rw[ae]at e8 ⊢;exact e8))).trans ?_
  exact(zK ((yc e9).trans jf)).trans hz
 refine head ((zK (qK e10)).trans ?_);have ew:=Oe d E;rw[show jC (SL t K) (zJ t K) (K-1)=Rw t K from rfl]at ew
 rcases hb with ⟨Z,g⟩|⟨Z,hlt⟩
 ·rw[aw Z]at ew
  refine(zK ((yc (wq ((zQ (zy (zo rfl) zM)).trans ew))).trans jf)).trans ?_;refine(zK (qK (tup x 3 rfl T))).trans ((zK (qK ((zN (zo rfl) (tup y 4 rfl X)).trans (VH _ _ _)))).trans (qy (qX ?_)));have a1:zi jn Vf (mQ qm (zV zw)) (yi t K x y p h Y (some (.int (su (Rw t K) (q9 t.length K (zJ t K))))) (some (zj ((Rw t K).map λw=>wv K w x))) (some (.bl (decide (((Rw t K).map λw=>wv K w x)=(Rw t K).map λw=>wv K w y))))) E=.ok (.bl true) E:=(zN (zo rfl) (len_tab (t:=t) rfl)).trans ((ZI _ _ _).trans (by rw[aw g.tot]))
  have a2:zi jn (zx Kr (zh zw (zh Vt zr))) qe (yi t K x y p h Y (some (.int (su (Rw t K) (q9 t.length K (zJ t K))))) (some (zj ((Rw t K).map λw=>wv K w x))) (some (.bl (decide (((Rw t K).map λw=>wv K w x)=(Rw t K).map λw=>wv K w y))))) E=.ok (.bl true) E:=(zN ((zQ (zy (zo rfl) (zy (zo rfl) zM))).trans (Cc ht s P g Z T bx E)) (zo rfl)).trans ((VH _ _ _).trans (by rw[aw rfl]))
  have a3:zi jn O4 (zi jn qe qH) (yi t K x y p h Y (some (.int (su (Rw t K) (q9 t.length K (zJ t K))))) (some (zj ((Rw t K).map λw=>wv K w x))) (some (.bl (decide (((Rw t K).map λw=>wv K w x)=(Rw t K).map λw=>wv K w y))))) E=.ok (.bl true) E:=(zN (zo rfl) ((zN (zo rfl) (zo rfl)).trans (VH _ _ _))).trans ((eqB _ _ _).trans (by
   have:decide (((Rw t K).map λw=>wv K w x)=(Rw t K).map λw=>wv K w y)=decide (x=y):=decide_eq_decide.mpr ⟨λe=>C7 d g Z T X e,λe=>by rw[e]⟩
   rw[this,aw rfl]))
  exact(gL a1).trans ((gL a2).trans a3)
 ·rw[aJ Z]at ew
  refine qy ((Qm (wq ((zQ (zy (zo rfl) zM)).trans ew))).trans (qy (qX ((zN (zo rfl) (len_tab (t:=t) rfl)).trans ?_))));show R.ok (W.bl (decide (su (Rw t K) (q9 t.length K (zJ t K))<(t.length:Int)))) E=_;rw[aw hlt]
def ES (ht:qc t)(s:ja t)(i:qa t=(K:Int))(g:((Rw t K).length=K/\Or t K)∨((Rw t K).length≠K/\su (Rw t K) (q9 t.length K (zJ t K))<(t.length:Int)))(st:ji n A):∃o,Zi [.ref n,zm t] A=.ok (.bl true) (A.set n o)/\ji n (A.set n o):=by
 obtain⟨x,b,c,f,H⟩:=st;have hm:=wQ c;obtain⟨B,e,X,d,E,h,a⟩:=DT ht s i g (o:=.lst [.int x,.bl b]) ⟨x,b,rfl,f,H⟩;exact⟨.lst [.int X,.bl d],QX (A1:=B) c (kj t) e E rfl,X,d,aC hm,h,a⟩
end
structure Bs where
 t:bE
 k:Nat
 s:List (bE)
 z:bF
 r:bE
noncomputable def Bd:List Bs:=[⟨[[0]],1,[[[1]]],[1],[[1]]⟩,
 ⟨[[0,1],[1,0]],2,[[[1,0],[0,1]],[[0,1],[1,0]]],[1,1],[[1,1],[1,-1]]⟩,
 ⟨[[0,1,1],[1,0,1],[1,1,0]],2,[[[1,0],[0,2]],[[0,1],[1,1]]],[1,2],[[1,2],[1,-1]]⟩,
 ⟨[[0,1,1,1],[1,0,1,1],[1,1,0,1],[1,1,1,0]],2,[[[1,0],[0,3]],[[0,1],[1,2]]],[1,3],[[1,3],[1,-1]]⟩,
 ⟨[[0,1,1,1,1],[1,0,1,1,1],[1,1,0,1,1],[1,1,1,0,1],[1,1,1,1,0]],2,[[[1,0],[0,4]],[[0,1],[1,3]]],[1,4],[[1,4],[1,-1]]⟩,
 ⟨[[0,1,1,1,1,1],[1,0,1,1,1,1],[1,1,0,1,1,1],[1,1,1,0,1,1],[1,1,1,1,0,1],[1,1,1,1,1,0]],2,[[[1,0],[0,5]],[[0,1],[1,4]]],[1,5],[[1,5],[1,-1]]⟩,
 ⟨[[0,1,1,1,1,1,1],[1,0,1,1,1,1,1],[1,1,0,1,1,1,1],[1,1,1,0,1,1,1],[1,1,1,1,0,1,1],[1,1,1,1,1,0,1],[1,1,1,1,1,1,0]],2,[[[1,0],[0,6]],[[0,1],[1,5]]],[1,6],[[1,6],[1,-1]]⟩,
 ⟨[[0,1,1,1,1,1,1,1],[1,0,1,1,1,1,1,1],[1,1,0,1,1,1,1,1],[1,1,1,0,1,1,1,1],[1,1,1,1,0,1,1,1],[1,1,1,1,1,0,1,1],[1,1,1,1,1,1,0,1],[1,1,1,1,1,1,1,0]],2,[[[1,0],[0,7]],[[0,1],[1,6]]],[1,7],[[1,7],[1,-1]]⟩,
 ⟨[[0,1,2,1],[1,0,1,2],[2,1,0,1],[1,2,1,0]],3,[[[1,0,0],[0,2,0],[0,0,1]],[[0,1,0],[1,0,1],[0,1,0]],[[0,0,1],[0,2,0],[1,0,0]]],[1,2,1],[[1,2,1],[1,0,-1],[1,-2,1]]⟩,
 ⟨[[0,1,2,2,1],[1,0,1,2,2],[2,1,0,1,2],[2,2,1,0,1],[1,2,2,1,0]],3,[[[1,0,0],[0,2,0],[0,0,2]],[[0,1,0],[1,0,1],[0,1,1]],[[0,0,1],[0,1,1],[1,1,0]]],[1,2,2],[[1,2,2]]⟩,
 ⟨[[0,1,2,3,2,1],[1,0,1,2,3,2],[2,1,0,1,2,3],[3,2,1,0,1,2],[2,3,2,1,0,1],[1,2,3,2,1,0]],4,[[[1,0,0,0],[0,2,0,0],[0,0,2,0],[0,0,0,1]],[[0,1,0,0],[1,0,1,0],[0,1,0,1],[0,0,1,0]],[[0,0,1,0],[0,1,0,1],[1,0,1,0],[0,1,0,0]],[[0,0,0,1],[0,0,2,0],[0,2,0,0],[1,0,0,0]]],[1,2,2,1],[[1,2,2,1],[1,1,-1,-1],[1,-1,-1,1],[1,-2,2,-1]]⟩,
 ⟨[[0,1,2,3,3,2,1],[1,0,1,2,3,3,2],[2,1,0,1,2,3,3],[3,2,1,0,1,2,3],[3,3,2,1,0,1,2],[2,3,3,2,1,0,1],[1,2,3,3,2,1,0]],4,[[[1,0,0,0],[0,2,0,0],[0,0,2,0],[0,0,0,2]],[[0,1,0,0],[1,0,1,0],[0,1,0,1],[0,0,1,1]],[[0,0,1,0],[0,1,0,1],[1,0,0,1],[0,1,1,0]],[[0,0,0,1],[0,0,1,1],[0,1,1,0],[1,1,0,0]]],[1,2,2,2],[[1,2,2,2]]⟩,
 ⟨[[0,1,2,3,4,3,2,1],[1,0,1,2,3,4,3,2],[2,1,0,1,2,3,4,3],[3,2,1,0,1,2,3,4],[4,3,2,1,0,1,2,3],[3,4,3,2,1,0,1,2],[2,3,4,3,2,1,0,1],[1,2,3,4,3,2,1,0]],5,[[[1,0,0,0,0],[0,2,0,0,0],[0,0,2,0,0],[0,0,0,2,0],[0,0,0,0,1]],[[0,1,0,0,0],[1,0,1,0,0],[0,1,0,1,0],[0,0,1,0,1],[0,0,0,1,0]],[[0,0,1,0,0],[0,1,0,1,0],[1,0,0,0,1],[0,1,0,1,0],[0,0,1,0,0]],[[0,0,0,1,0],[0,0,1,0,1],[0,1,0,1,0],[1,0,1,0,0],[0,1,0,0,0]],[[0,0,0,0,1],[0,0,0,2,0],[0,0,2,0,0],[0,2,0,0,0],[1,0,0,0,0]]],[1,2,2,2,1],[[1,2,2,2,1],[1,0,-2,0,1],[1,-2,2,-2,1]]⟩,
 ⟨[[0,1,2,2],[1,0,2,2],[2,2,0,1],[2,2,1,0]],3,[[[1,0,0],[0,1,0],[0,0,2]],[[0,1,0],[1,0,0],[0,0,2]],[[0,0,1],[0,0,1],[1,1,0]]],[1,1,2],[[1,1,2],[1,1,-2],[1,-1,0]]⟩,
 ⟨[[0,1,1,2,2,2],[1,0,1,2,2,2],[1,1,0,2,2,2],[2,2,2,0,1,1],[2,2,2,1,0,1],[2,2,2,1,1,0]],3,[[[1,0,0],[0,2,0],[0,0,3]],[[0,1,0],[1,1,0],[0,0,3]],[[0,0,1],[0,0,2],[1,2,0]]],[1,2,3],[[1,2,3],[1,2,-3],[1,-1,0]]⟩,
 ⟨[[0,1,2,2,2,2],[1,0,2,2,2,2],[2,2,0,1,2,2],[2,2,1,0,2,2],[2,2,2,2,0,1],[2,2,2,2,1,0]],3,[[[1,0,0],[0,1,0],[0,0,4]],[[0,1,0],[1,0,0],[0,0,4]],[[0,0,1],[0,0,1],[1,1,2]]],[1,1,4],[[1,1,4],[1,1,-2],[1,-1,0]]⟩,
 ⟨[[0,1,1,1,2,2,2,2],[1,0,1,1,2,2,2,2],[1,1,0,1,2,2,2,2],[1,1,1,0,2,2,2,2],[2,2,2,2,0,1,1,1],[2,2,2,2,1,0,1,1],[2,2,2,2,1,1,0,1],[2,2,2,2,1,1,1,0]],3,[[[1,0,0],[0,3,0],[0,0,4]],[[0,1,0],[1,2,0],[0,0,4]],[[0,0,1],[0,0,3],[1,3,0]]],[1,3,4],[[1,3,4],[1,3,-4],[1,-1,0]]⟩,
 ⟨[[0,1,2,2,2,2,2,2],[1,0,2,2,2,2,2,2],[2,2,0,1,2,2,2,2],[2,2,1,0,2,2,2,2],[2,2,2,2,0,1,2,2],[2,2,2,2,1,0,2,2],[2,2,2,2,2,2,0,1],[2,2,2,2,2,2,1,0]],3,[[[1,0,0],[0,1,0],[0,0,6]],[[0,1,0],[1,0,0],[0,0,6]],[[0,0,1],[0,0,1],[1,1,4]]],[1,1,6],[[1,1,6],[1,1,-2],[1,-1,0]]⟩,
 ⟨[[0,1,1,2],[1,0,2,1],[1,2,0,1],[2,1,1,0]],3,[[[1,0,0],[0,2,0],[0,0,1]],[[0,1,0],[1,0,1],[0,1,0]],[[0,0,1],[0,2,0],[1,0,0]]],[1,2,1],[[1,2,1],[1,0,-1],[1,-2,1]]⟩,
 ⟨[[0,1,1,2,1,2,2,3],[1,0,2,1,2,1,3,2],[1,2,0,1,2,3,1,2],[2,1,1,0,3,2,2,1],[1,2,2,3,0,1,1,2],[2,1,3,2,1,0,2,1],[2,3,1,2,1,2,0,1],[3,2,2,1,2,1,1,0]],4,[[[1,0,0,0],[0,3,0,0],[0,0,3,0],[0,0,0,1]],[[0,1,0,0],[1,0,2,0],[0,2,0,1],[0,0,1,0]],[[0,0,1,0],[0,2,0,1],[1,0,2,0],[0,1,0,0]],[[0,0,0,1],[0,0,3,0],[0,3,0,0],[1,0,0,0]]],[1,3,3,1],[[1,3,3,1],[1,1,-1,-1],[1,-1,-1,1],[1,-3,3,-1]]⟩,
 ⟨[[0,1,2,3],[1,0,3,2],[2,3,0,1],[3,2,1,0]],4,[[[1,0,0,0],[0,1,0,0],[0,0,1,0],[0,0,0,1]],[[0,1,0,0],[1,0,0,0],[0,0,0,1],[0,0,1,0]],[[0,0,1,0],[0,0,0,1],[1,0,0,0],[0,1,0,0]],[[0,0,0,1],[0,0,1,0],[0,1,0,0],[1,0,0,0]]],[1,1,1,1],[[1,1,1,1],[1,1,-1,-1],[1,-1,1,-1],[1,-1,-1,1]]⟩,
 ⟨[[0,1,2,3,4,5,6,7],[1,0,3,2,5,4,7,6],[2,3,0,1,6,7,4,5],[3,2,1,0,7,6,5,4],[4,5,6,7,0,1,2,3],[5,4,7,6,1,0,3,2],[6,7,4,5,2,3,0,1],[7,6,5,4,3,2,1,0]],8,[[[1,0,0,0,0,0,0,0],[0,1,0,0,0,0,0,0],[0,0,1,0,0,0,0,0],[0,0,0,1,0,0,0,0],[0,0,0,0,1,0,0,0],[0,0,0,0,0,1,0,0],[0,0,0,0,0,0,1,0],[0,0,0,0,0,0,0,1]],[[0,1,0,0,0,0,0,0],[1,0,0,0,0,0,0,0],[0,0,0,1,0,0,0,0],[0,0,1,0,0,0,0,0],[0,0,0,0,0,1,0,0],[0,0,0,0,1,0,0,0],[0,0,0,0,0,0,0,1],[0,0,0,0,0,0,1,0]],[[0,0,1,0,0,0,0,0],[0,0,0,1,0,0,0,0],[1,0,0,0,0,0,0,0],[0,1,0,0,0,0,0,0],[0,0,0,0,0,0,1,0],[0,0,0,0,0,0,0,1],[0,0,0,0,1,0,0,0],[0,0,0,0,0,1,0,0]],[[0,0,0,1,0,0,0,0],[0,0,1,0,0,0,0,0],[0,1,0,0,0,0,0,0],[1,0,0,0,0,0,0,0],[0,0,0,0,0,0,0,1],[0,0,0,0,0,0,1,0],[0,0,0,0,0,1,0,0],[0,0,0,0,1,0,0,0]],[[0,0,0,0,1,0,0,0],[0,0,0,0,0,1,0,0],[0,0,0,0,0,0,1,0],[0,0,0,0,0,0,0,1],[1,0,0,0,0,0,0,0],[0,1,0,0,0,0,0,0],[0,0,1,0,0,0,0,0],[0,0,0,1,0,0,0,0]],[[0,0,0,0,0,1,0,0],[0,0,0,0,1,0,0,0],[0,0,0,0,0,0,0,1],[0,0,0,0,0,0,1,0],[0,1,0,0,0,0,0,0],[1,0,0,0,0,0,0,0],[0,0,0,1,0,0,0,0],[0,0,1,0,0,0,0,0]],[[0,0,0,0,0,0,1,0],[0,0,0,0,0,0,0,1],[0,0,0,0,1,0,0,0],[0,0,0,0,0,1,0,0],[0,0,1,0,0,0,0,0],[0,0,0,1,0,0,0,0],[1,0,0,0,0,0,0,0],[0,1,0,0,0,0,0,0]],[[0,0,0,0,0,0,0,1],[0,0,0,0,0,0,1,0],[0,0,0,0,0,1,0,0],[0,0,0,0,1,0,0,0],[0,0,0,1,0,0,0,0],[0,0,1,0,0,0,0,0],[0,1,0,0,0,0,0,0],[1,0,0,0,0,0,0,0]]],[1,1,1,1,1,1,1,1],[[1,1,1,1,1,1,1,1],[1,1,1,1,-1,-1,-1,-1],[1,1,-1,-1,1,1,-1,-1],[1,1,-1,-1,-1,-1,1,1],[1,-1,1,-1,1,-1,1,-1],[1,-1,1,-1,-1,1,-1,1],[1,-1,-1,1,1,-1,-1,1],[1,-1,-1,1,-1,1,1,-1]]⟩,
 ⟨[[0,1,1,1,1,2],[1,0,1,1,2,1],[1,1,0,2,1,1],[1,1,2,0,1,1],[1,2,1,1,0,1],[2,1,1,1,1,0]],3,[[[1,0,0],[0,4,0],[0,0,1]],[[0,1,0],[1,2,1],[0,1,0]],[[0,0,1],[0,4,0],[1,0,0]]],[1,4,1],[[1,4,1],[1,0,-1],[1,-2,1]]⟩,
 ⟨[[0,1,1,2,3,3],[1,0,1,3,2,3],[1,1,0,3,3,2],[2,3,3,0,1,1],[3,2,3,1,0,1],[3,3,2,1,1,0]],4,[[[1,0,0,0],[0,2,0,0],[0,0,1,0],[0,0,0,2]],[[0,1,0,0],[1,1,0,0],[0,0,0,1],[0,0,1,1]],[[0,0,1,0],[0,0,0,2],[1,0,0,0],[0,2,0,0]],[[0,0,0,1],[0,0,1,1],[0,1,0,0],[1,1,0,0]]],[1,2,1,2],[[1,2,1,2],[1,2,-1,-2],[1,-1,1,-1],[1,-1,-1,1]]⟩,
 ⟨[[0,1,2,1,3,4,5,4],[1,0,1,2,4,3,4,5],[2,1,0,1,5,4,3,4],[1,2,1,0,4,5,4,3],[3,4,5,4,0,1,2,1],[4,3,4,5,1,0,1,2],[5,4,3,4,2,1,0,1],[4,5,4,3,1,2,1,0]],6,[[[1,0,0,0,0,0],[0,2,0,0,0,0],[0,0,1,0,0,0],[0,0,0,1,0,0],[0,0,0,0,2,0],[0,0,0,0,0,1]],[[0,1,0,0,0,0],[1,0,1,0,0,0],[0,1,0,0,0,0],[0,0,0,0,1,0],[0,0,0,1,0,1],[0,0,0,0,1,0]],[[0,0,1,0,0,0],[0,2,0,0,0,0],[1,0,0,0,0,0],[0,0,0,0,0,1],[0,0,0,0,2,0],[0,0,0,1,0,0]],[[0,0,0,1,0,0],[0,0,0,0,2,0],[0,0,0,0,0,1],[1,0,0,0,0,0],[0,2,0,0,0,0],[0,0,1,0,0,0]],[[0,0,0,0,1,0],[0,0,0,1,0,1],[0,0,0,0,1,0],[0,1,0,0,0,0],[1,0,1,0,0,0],[0,1,0,0,0,0]],[[0,0,0,0,0,1],[0,0,0,0,2,0],[0,0,0,1,0,0],[0,0,1,0,0,0],[0,2,0,0,0,0],[1,0,0,0,0,0]]],[1,2,1,1,2,1],[[1,2,1,1,2,1],[1,2,1,-1,-2,-1],[1,0,-1,1,0,-1],[1,0,-1,-1,0,1],[1,-2,1,1,-2,1],[1,-2,1,-1,2,-1]]⟩,
 ⟨[[0,1,1,1,2,3,3,3],[1,0,1,1,3,2,3,3],[1,1,0,1,3,3,2,3],[1,1,1,0,3,3,3,2],[2,3,3,3,0,1,1,1],[3,2,3,3,1,0,1,1],[3,3,2,3,1,1,0,1],[3,3,3,2,1,1,1,0]],4,[[[1,0,0,0],[0,3,0,0],[0,0,1,0],[0,0,0,3]],[[0,1,0,0],[1,2,0,0],[0,0,0,1],[0,0,1,2]],[[0,0,1,0],[0,0,0,3],[1,0,0,0],[0,3,0,0]],[[0,0,0,1],[0,0,1,2],[0,1,0,0],[1,2,0,0]]],[1,3,1,3],[[1,3,1,3],[1,3,-1,-3],[1,-1,1,-1],[1,-1,-1,1]]⟩,
 ⟨[[0,1,2,1,3,3,3,3],[1,0,1,2,3,3,3,3],[2,1,0,1,3,3,3,3],[1,2,1,0,3,3,3,3],[3,3,3,3,0,1,2,1],[3,3,3,3,1,0,1,2],[3,3,3,3,2,1,0,1],[3,3,3,3,1,2,1,0]],4,[[[1,0,0,0],[0,2,0,0],[0,0,1,0],[0,0,0,4]],[[0,1,0,0],[1,0,1,0],[0,1,0,0],[0,0,0,4]],[[0,0,1,0],[0,2,0,0],[1,0,0,0],[0,0,0,4]],[[0,0,0,1],[0,0,0,2],[0,0,0,1],[1,2,1,0]]],[1,2,1,4],[[1,2,1,4],[1,2,1,-4],[1,0,-1,0],[1,-2,1,0]]⟩,
 ⟨[[0,1,2,3,4,4,4,4],[1,0,3,2,4,4,4,4],[2,3,0,1,4,4,4,4],[3,2,1,0,4,4,4,4],[4,4,4,4,0,1,2,3],[4,4,4,4,1,0,3,2],[4,4,4,4,2,3,0,1],[4,4,4,4,3,2,1,0]],5,[[[1,0,0,0,0],[0,1,0,0,0],[0,0,1,0,0],[0,0,0,1,0],[0,0,0,0,4]],[[0,1,0,0,0],[1,0,0,0,0],[0,0,0,1,0],[0,0,1,0,0],[0,0,0,0,4]],[[0,0,1,0,0],[0,0,0,1,0],[1,0,0,0,0],[0,1,0,0,0],[0,0,0,0,4]],[[0,0,0,1,0],[0,0,1,0,0],[0,1,0,0,0],[1,0,0,0,0],[0,0,0,0,4]],[[0,0,0,0,1],[0,0,0,0,1],[0,0,0,0,1],[0,0,0,0,1],[1,1,1,1,0]]],[1,1,1,1,4],[[1,1,1,1,4],[1,1,1,1,-4],[1,1,-1,-1,0],[1,-1,1,-1,0],[1,-1,-1,1,0]]⟩]
noncomputable def ZK:List (bE):=[[[0,1],[1,0]],[[0,1,1],[1,0,1],[1,1,0]],[[0,1,2,1],[1,0,1,2],[2,1,0,1],[1,2,1,0]],[[0,1,1,1],[1,0,1,1],[1,1,0,1],[1,1,1,0]],[[0,1,2,3],[1,0,3,2],[2,3,0,1],[3,2,1,0]]]
def Nt (n K:Nat)(z:bF)(R:bE):Bool:=if R.length=K then decide (su R (q9 n K z)=(n:Int))&&((List.range K).all λk=>(List.range K).all λj=>decide (su R (λw=>q9 n K z w * (w.getD k 0 * w.getD j 0))=if k=j then(n:Int) * z.getD k 0 else 0)) else decide (su R (q9 n K z)<(n:Int))
def Al (t:bE)(K:Nat):WJ t K=Nt t.length K (zJ t K) (Rw t K):=rfl
def NA (b:Bs):Bool:=Vl b.t&&XB b.t&&decide (qa b.t=(b.k:Int))&&decide (SL b.t b.k=b.s)&&decide (zJ b.t b.k=b.z)&&decide (jC b.s b.z (b.k-1)=b.r)&&Nt b.t.length b.k b.z b.r
def Cr:Bd.all NA=true:=by decide +kernel
structure Bo (b:Bs):Prop where
 tab:qc b.t
 sd:ja b.t
 kd:qa b.t=(b.k:Int)
 bs:WJ b.t b.k=true
def Vb {b:Bs}(h:b∈Bd):Bo b:=by
 have H:=b2.mp Cr b h;unfold NA at H;rw[aq,aq,aq,aq,aq,aq,ai,ai,ai,ai]at H;obtain⟨⟨⟨⟨⟨⟨g,f⟩,e⟩,d⟩,B⟩,c⟩,a⟩:=H;refine⟨Cb g,II f,e,?_⟩;rw[Al,B,show Rw b.t b.k=b.r by unfold Rw;rw[d,B,c]]
 exact a
def VF (r:R W)(t:bE):Bool:=match r with
 |.ok w _=>w.nr&&w.beq (zm t)|_=>false
def QZ {f:Fn}(H:qI us=true)(h:VF (f us []) t=true)(A:Hx):iso f us A=.ok (zm t) A:=by
 unfold VF at h
 split at h
 ·rename_i w B e
  rw[aq]at h
  have:=W.eq_of h.2
  subst this;exact yb H h.1 e
 ·cases h
def yz (f:Fn)(us:List W):Bool:=qI us&&Bd.any λb=>VF (f us []) b.t
def kY {f:Fn}(h:yz f us=true):∃b∈Bd,∀A,iso f us A=.ok (zm b.t) A:=by
 unfold yz at h;rw[aq]at h;obtain⟨b,H,e⟩:=List.any_eq_true.mp h.2;exact⟨b,H,QZ h.1 e⟩
def dB:((List.range 8).all λ(r:Nat)=>yz Y9 [.int (1+(r:Int))])=true:=by decide +kernel
def dC:((List.range 6).all λ(r:Nat)=>yz JU [.int (3+(r:Int))])=true:=by decide +kernel
noncomputable abbrev bp:List (Int×Int):=[(2,2),(2,3),(3,2),(2,4),(4,2),(1,5),(5,1)]
def dD:(bp.all λq=>yz Y6 [.int q.1,.int q.2])=true:=by decide +kernel
def dF:((List.range 2).all λ(r:Nat)=>yz Y7 [.int (2+(r:Int))])=true:=by decide +kernel
def dG:((List.range 2).all λ(r:Nat)=>yz YU [.int (2+(r:Int))])=true:=by decide +kernel
def O5:yz GG [.int 4]=true:=by decide +kernel
noncomputable abbrev a2:bE:=[[0,1],[1,0]]
def dH:(ZK.all λs=>yz Y2 [zm a2,zm s])=true:=by decide +kernel
def dI:(ZK.all λs=>yz Y1 [zm a2,zm s])=true:=by decide +kernel
section
variable {o:O}
def WM (A:Hx):gg [.int 2] A=.ok (zm a2) A:=QZ rfl (by decide +kernel) A
def Nv (A:Hx):gg [.int 3] A=.ok (zm [[0,1,1],[1,0,1],[1,1,0]]) A:=QZ rfl (by decide +kernel) A
def dJ (A:Hx):gg [.int 4] A=.ok (zm [[0,1,1,1],[1,0,1,1],[1,1,0,1],[1,1,1,0]]) A:=QZ rfl (by decide +kernel) A
def Nx (A:Hx):Zj [.int 4] A=.ok (zm [[0,1,2,1],[1,0,1,2],[2,1,0,1],[1,2,1,0]]) A:=QZ rfl (by decide +kernel) A
def dM (A:Hx):ZO [.int 2] A=.ok (zm [[0,1,2,3],[1,0,3,2],[2,3,0,1],[3,2,1,0]]) A:=QZ rfl (by decide +kernel) A
noncomputable abbrev c1 {f:Fn}{w v:W}(hm:m ρ A=.ok w A)(h:f [w] A=.ok v A):zx f (zh m zr) ρ A=.ok v A:=(zQ (zy hm zM)).trans h
noncomputable abbrev c2 {f:Fn}{k:Ev}{w x v:W}(hm:m ρ A=.ok w A)(H:k ρ A=.ok x A)(h:f [w,x] A=.ok v A):zx f (zh m (zh k zr)) ρ A=.ok v A:=(zQ (zy hm (zy H zM))).trans h
def DW (s:ji n A):∃t∈ZK,∃o,JR [.ref n] A=.ok (zm t) (A.set n o)/\ji n (A.set n o):=by
 obtain⟨x,b,H,e,f⟩:=s;have hm:=wQ H;obtain⟨r,a,E,c,l,s1⟩:=Qb (n:=0) (A:=[.lst [.int x,.bl b]]) ⟨x,b,rfl,e,f⟩ (m:=5) (by decide) (by decide)
 obtain⟨i,rfl⟩:=aV c;have h:i<ZK.length:=by show i<5;omega
 obtain⟨y,z,d,Q,q⟩:=s1;refine⟨ZK[i],aG h,.lst [.int y,.bl z],QX (A1:=[a,.lst (ZK.map zm)]) H rfl (qQ ?_) d (j3 _),y,z,aC hm,Q,q⟩;unfold Ti;refine(zK (ρ1:=[some (.ref 0),some (.int (i:Int))]) (A1:=[a]) (qK ((zQ (zy (zo rfl) (zy qw zM))).trans E))).trans ?_;exact qy (qX ((zN (kC (ws:=ZK.map zm) (A1:=[a]) (zy (c1 qw (WM _)) (zy (c1 qw (Nv _)) (zy (c1 qw (Nx _)) (zy (c1 qw (dJ _)) (zy (c1 qw (dM _)) zM)))))) (zo rfl)).trans (Z6 (n:=1) (s:=i) rfl (by rw[ak,ab h];rfl))))
def Got (ρ:En)(r:R Fl):Prop:=∃b∈Bd,∃a o l,r=.ok (.nx a) (o::l)/\ji 0 (o::l)/\a[0]? =some (some (.ref 0))/\a[2]? =some (some (zm b.t))
def WH {R:Fn}{c mi:Int}{m:Nat}(H:((List.range m).all λ(r:Nat)=>yz R [.int (c+(r:Int))])=true)(h:mi=(m:Int))(m1:1<=m)(M:m<=9)(s:ji 0 [o])(h0:ρ[0]? =some (some (.ref 0)))(f:ρ.length=5):Got ρ (zq (zX 2 (zx (iso R) (zh (zi qM (z7 (.int c)) (zx yV (zh zt (zh (z7 (.int mi)) zr)))) zr))) zA ρ [o]):=by
 subst h;obtain⟨v,a,E,v0,l,s1⟩:=Qb s (m:=(m:Int)) (by omega) (by omega)
 obtain⟨i,rfl⟩:=aV v0;obtain⟨b,d,e⟩:=kY (b2.mp H i (bX.mpr (by omega)))
 refine⟨b,d,_,a,[],(zK (qK ((zQ (zy ((zN qw ((zQ (zy (zo h0) (zy qw zM))).trans E)).trans rfl) zM)).trans (e _)))).trans jf,s1,?_,?_⟩
 ·rw[aF (by decide)];exact h0
 ·rw[aC (by omega)]
def Nm {R:Fn}(h:(ZK.all λt=>yz R [zm a2,zm t])=true)(s:ji 0 [o])(h0:ρ[0]? =some (some (.ref 0)))(c:ρ.length=5):Got ρ (zq (zX 2 (zx (iso R) (zh (zx gg (zh yB zr)) (zh (zx JR (zh zt zr)) zr)))) zA ρ [o]):=by
 obtain⟨t,ht,a,E,s1⟩:=DW s;obtain⟨b,H,e⟩:=kY (b2.mp h t ht);refine⟨b,H,_,a,[],(zK (qK ((zQ (zy (c1 qw (WM _)) (zy ((zQ (zy (zo h0) zM)).trans E) zM))).trans (e _)))).trans jf,s1,?_,?_⟩
 ·rw[aF (by decide)];exact h0
 ·rw[aC (by omega)]
def Qa {c:Ev}{a b:Ex}{p:Bool}{B:Hx}(h:c ρ B=.ok (.bl p) B)(d:p=true->Got ρ (a ρ B))(H:p=false->Got ρ (b ρ B)):Got ρ (qR c a b ρ B):=by
 cases p with
 |true=>rw[Qm h];exact d rfl|false=>rw[yc h];exact H rfl
def Q1 {a:Ex}{B:Hx}(h:Got ρ (a ρ B)):Got ρ (zq a zA ρ B):=by
 obtain⟨b,H,c,o,l,e,r⟩:=h;exact⟨b,H,c,o,l,(zK e).trans jf,r⟩
def F4 (s:ji n A):∃b∈Bd,∃p q o,p.Perm (List.range (qa b.t-1).toNat)/\q.Perm (List.range b.t.length)/\ZP [.ref n] A=.ok (zm (yX b.t p q)) (A.set n o)/\ji n (A.set n o):=by
 obtain⟨x,u,g,J,H⟩:=s;have hm:=wQ g;obtain⟨r,a,T,Z,Y,s1⟩:=Qb (n:=0) (A:=[.lst [.int x,.bl u]]) ⟨x,u,rfl,J,H⟩ (m:=12) (by decide) (by decide)
 have eq:∀(c:Int){B:Hx},zi jn zw (z7 (.int c)) [some (.ref 0),some (.int r),none,none,none] B=.ok (.bl (decide (r=c))) B:=λc {B}=>(zN (zo rfl) qw).trans (ZI _ _ _);have lt:∀(c:Int){B:Hx},zi gw zw (z7 (.int c)) [some (.ref 0),some (.int r),none,none,none] B=.ok (.bl (decide (r<c))) B:=λc {B}=>(zN (zo rfl) qw).trans rfl;have S:ji 0 [a]:=s1;have key:∃m1,U6 gg JK JM ZO JP Zj JR yV ZM JN JL=zq (zX 1 (zx yV (zh zt (zh (z7 (.int 12)) zr)))) (zq m1 (zq (qt (zx ZM (zh zt (zh zF zr)))) zA))/\Got [some (.ref 0),some (.int r),none,none,none] (m1 [some (.ref 0),some (.int r),none,none,none] [a]):=by
  refine⟨_,rfl,?_⟩;refine Qa (eq 0) (λ_=>WH dB rfl (by decide) (by decide) S rfl rfl) λh0=>Q1 (Qa (lt 3) (λ_=>WH dC rfl (by decide) (by decide) S rfl rfl) λh1=>Q1 (Qa (eq 3) (λ_=>?_) λj=>Q1 (Qa (lt 6) (λ_=>WH dF rfl (by decide) (by decide) S rfl rfl) λh3=>Q1 (Qa (eq 6) (λ_=>WH dG rfl (by decide) (by decide) S rfl rfl) λh4=>Q1 (Qa (eq 7) (λ_=>?_) λh5=>Q1 (Qa (lt 10) (λ_=>Nm dH S rfl rfl) λ_=>Nm dI S rfl rfl))))))
  ·obtain⟨v,I,P,v0,X,s2⟩:=Qb (n:=0) (A:=[a,.lst (bp.map λq=>.tup [.int q.1,.int q.2])]) (by obtain⟨y,z,d,Q⟩:=s1;exact⟨y,z,d,Q⟩) (m:=7) (by decide) (by decide)
   obtain⟨i,rfl⟩:=aV v0;have f:i<bp.length:=by show i<7;omega
   obtain⟨b,h,e⟩:=kY (b2.mp dD bp[i] (aG f));refine⟨b,h,_,I,[.lst (bp.map λq=>.tup [.int q.1,.int q.2])],(zK (E8 (w:=.tup [.int (bp[i]).1,.int (bp[i]).2]) ((zN (kC (ws:=bp.map λq=>.tup [.int q.1,.int q.2]) (A1:=[a]) rfl) ((zQ (zy (zo rfl) (zy qw zM))).trans P)).trans (Z6 (n:=1) (s:=i) rfl (by rw[ak,ab f];rfl))) rfl)).trans ((zK (qK ((zQ (zy (zo rfl) (zy (zo rfl) zM))).trans (e _)))).trans jf),s2,rfl,rfl⟩
  ·obtain⟨b,h,e⟩:=kY O5
   exact⟨b,h,_,a,[],(zK (qK ((zQ (zy qw zM)).trans (e _)))).trans jf,S,rfl,rfl⟩
 obtain⟨m1,em,b,h,C,o',l,N,s3,h0,j⟩:=key;have U:=Vb h;obtain⟨p,q,E,M,⟨y,z,d,Q,D⟩,L,K⟩:=Ry U.tab s3;refine⟨b,h,p,q,.lst [.int y,.bl z],L,K,QX (A1:=(o'::l).set 0 E) g rfl (qQ ?_) d (j3 _),y,z,aC hm,Q,D⟩;rw[em];exact(zK (ρ1:=[some (.ref 0),some (.int r),none,none,none]) (A1:=[a]) (qK ((zQ (zy (zo rfl) (zy qw zM))).trans T))).trans ((zK N).trans (qy (qX ((zQ (zy (zo h0) (zy (zo j) zM))).trans M))))
def l5:yz Y9 [.int 5]=true:=by decide +kernel
def l6:yz JU [.int 6]=true:=by decide +kernel
def l4:yz JU [.int 4]=true:=by decide +kernel
def dN:yz Y6 [.int 2,.int 3]=true:=by decide +kernel
def l3:yz Y7 [.int 3]=true:=by decide +kernel
def l2:yz YU [.int 2]=true:=by decide +kernel
def l7:yz Y2 [zm a2,zm [[0,1,1],[1,0,1],[1,1,0]]]=true:=by decide +kernel
def l8:yz Y1 [zm a2,zm [[0,1,2,1],[1,0,1,2],[2,1,0,1],[1,2,1,0]]]=true:=by decide +kernel
abbrev n6 (e d c a B b:Bs):List W:=[zm e.t,zm d.t,zm c.t,zm a.t,zm B.t,zm b.t]
abbrev n3 (a B b:Bs):List W:=[zm a.t,zm B.t,zm b.t]
def D6 (s:ji n A):∃b∈Bd,∃p q o,p.Perm (List.range (qa b.t-1).toNat)/\q.Perm (List.range b.t.length)/\ZN [.ref n] A=.ok (zm (yX b.t p q)) (A.set n o)/\ji n (A.set n o):=by
 obtain⟨x,M,L,hx,H⟩:=s;have hm:=wQ L;obtain⟨r,u,e1,N,rl,s1⟩:=Qb (n:=0) (A:=[.lst [.int x,.bl M]]) ⟨x,M,rfl,hx,H⟩ (m:=9) (by decide) (by decide)
 obtain⟨i,rfl⟩:=aV N;have hi:i<9:=by omega
 obtain⟨f,m1,f1⟩:=kY l5;obtain⟨e,m2,f2⟩:=kY l6;obtain⟨d,m3,J⟩:=kY l4;obtain⟨c,m4,f4⟩:=kY dN;obtain⟨a,m5,I⟩:=kY l3;obtain⟨B,Z,E⟩:=kY l2;obtain⟨l,Y,D⟩:=kY O5;obtain⟨j,X,f8⟩:=kY l7;obtain⟨g,U,C⟩:=kY l8;have f1:∀A,gg [.int 5] A=.ok (zm f.t) A:=f1;have f2:∀A,Zj [.int 6] A=.ok (zm e.t) A:=f2;have J:∀A,Zj [.int 4] A=.ok (zm d.t) A:=J;have f4:∀A,JM [.int 2,.int 3] A=.ok (zm c.t) A:=f4;have I:∀A,JN [.int 3] A=.ok (zm a.t) A:=I;have E:∀A,ZO [.int 2] A=.ok (zm B.t) A:=E;have D:∀A,JP [.int 4] A=.ok (zm l.t) A:=D;have f8:∀A,JK [zm a2,zm [[0,1,1],[1,0,1],[1,1,0]]] A=.ok (zm j.t) A:=f8;have C:∀A,JL [zm a2,zm [[0,1,2,1],[1,0,1,2],[2,1,0,1],[1,2,1,0]]] A=.ok (zm g.t) A:=C;have S:∃b∈Bd,([f,e,d,c,a,B]++[l,j,g])[i]? =some b:=by
  match i,hi with
  |0,_=>exact⟨f,m1,rfl⟩|1,_=>exact⟨e,m2,rfl⟩|2,_=>exact⟨d,m3,rfl⟩|3,_=>exact⟨c,m4,rfl⟩|4,_=>exact⟨a,m5,rfl⟩|5,_=>exact⟨B,Z,rfl⟩|6,_=>exact⟨l,Y,rfl⟩|7,_=>exact⟨j,X,rfl⟩|8,_=>exact⟨g,U,rfl⟩|i+9,h=>exact absurd h (by omega)
 obtain⟨b,K,eb⟩:=S;have bo:=Vb K;have s2:ji 0 [u,.lst (n6 f e d c a B),.lst (n3 l j g),.lst ((n6 f e d c a B)++(n3 l j g))]:=by obtain⟨y,z,v,Q⟩:=s1;exact⟨y,z,v,Q⟩
 obtain⟨p,q,T,e2,⟨y,z,v,Q,P⟩,hp,hq⟩:=Ry bo.tab s2;refine⟨b,K,p,q,.lst [.int y,.bl z],hp,hq,QX (A1:=[u,.lst (n6 f e d c a B),.lst (n3 l j g),.lst ((n6 f e d c a B)++(n3 l j g))].set 0 T) L rfl (qQ ?_) v (j3 _),y,z,aC hm,Q,P⟩;unfold V5;refine(zK (ρ1:=[some (.ref 0),some (.int (i:Int)),none]) (A1:=[u]) (qK ((zQ (zy (zo rfl) (zy qw zM))).trans e1))).trans ?_;refine(zK (ρ1:=[some (.ref 0),some (.int (i:Int)),some (.ref 1)]) (A1:=[u,.lst (n6 f e d c a B)]) (qK (kC (ws:=(n6 f e d c a B)) (zy (c1 qw (f1 _)) (zy (c1 qw (f2 _)) (zy (c1 qw (J _)) (zy (c2 qw qw (f4 _)) (zy (c1 qw (I _)) (zy (c1 qw (E _)) zM))))))))).trans ?_;refine(zK (ρ1:=[some (.ref 0),some (.int (i:Int)),some (.ref 3)]) (A1:=[u,.lst (n6 f e d c a B),.lst (n3 l j g),.lst ((n6 f e d c a B)++(n3 l j g))]) (qK ((zN (zo rfl) (kC (ws:=(n3 l j g)) (A1:=[u,.lst (n6 f e d c a B)]) (zy (c1 qw (D _)) (zy (c2 (c1 qw (WM _)) (c1 qw (Nv _)) (f8 _)) (zy (c2 (c1 qw (WM _)) (c1 qw (Nx _)) (C _)) zM))))).trans (Rt rfl rfl (by show 9<=qf;decide))))).trans ?_
 refine qy (qX ((zQ (zy (zo rfl) (zy ((zN (zo rfl) (zo rfl)).trans (Z6 (s:=i) rfl (w:=zm b.t) ?_)) zM))).trans e2));rw[show n6 f e d c a B++n3 l j g=([f,e,d,c,a,B]++[l,j,g]).map λb=>zm b.t from rfl,ak,eb]
 rfl
def dO {b:Bs}{p q:bJ}(c:b∈Bd)(a:p.Perm (List.range (qa b.t-1).toNat))(H:q.Perm (List.range b.t.length))(st:ji n A):∃o,Zi [.ref n,zm (yX b.t p q)] A=.ok (.bl true) (A.set n o)/\ji n (A.set n o):=by
 have B:=Vb c;have h:=dj B.tab B.kd a H;have su:=LP B.tab a H B.sd;exact ES h.ht su h.kt (dt B.bs h B.sd su) st
abbrev rC (f:Fn):Ev:=zx Zi (zh zF (zh (zx f (zh zF zr)) zr))
def P2 {f:Fn}(hf:∀{n:Nat}{A:Hx},ji n A->∃b∈Bd,∃p q o,p.Perm (List.range (qa b.t-1).toNat)/\q.Perm (List.range b.t.length)/\f [.ref n] A=.ok (zm (yX b.t p q)) (A.set n o)/\ji n (A.set n o))(s:ji n A)(H:ρ[2]? =some (some (.ref n))):∃B,jW (rC f) ρ A=.ok (.bl false) B/\ji n B/\∀i,i≠n->B[i]? =A[i]?:=by
 obtain⟨b,d,p,q,o,c,a,E,s1⟩:=hf s;obtain⟨g,e,s2⟩:=dO d c a s1;refine⟨_,wq ((zQ (zy (zo H) (zy ((zQ (zy (zo H) zM)).trans E) zM))).trans e),s2,λi h=>?_⟩;rw[aF (Ne.symm h),aF (Ne.symm h)]
abbrev BL:Ex:=zq (zX 2 (zx QN (zh zt (zh zw zr)))) (zq (qR (wc (jW (rC ZP)) (jW (rC ZN))) yI zA) zA)
def D8 {k:Nat}{x2:Option W}(h:A[0]? =some (.ro (ns.map W.int))):∃y B,BL [some (.ref 0),some (.int (k:Int)),x2] A=.ok (.nx [some (.ref 0),some (.int (k:Int)),y]) B/\B[0]? =some (.ro (ns.map W.int)):=by
 obtain⟨o,b,s1⟩:=Ci h k;have H:(A++[o])[0]? =some (.ro (ns.map W.int)):=yF h;have n:0≠A.length:=by have:=wQ h;omega
 obtain⟨B,E,s2,a⟩:=P2 (f:=ZP) F4 (ρ:=[some (.ref 0),some (.int (k:Int)),some (.ref A.length)]) s1 rfl;obtain⟨C,e,s3,K⟩:=P2 (f:=ZN) D6 (ρ:=[some (.ref 0),some (.int (k:Int)),some (.ref A.length)]) s2 rfl;refine⟨_,C,(zK (qK ((zQ (zy (zo rfl) (zy (zo rfl) zM))).trans b))).trans ((zK ((yc ((Yp E).trans e)).trans jf)).trans jf),?_⟩;rw[K 0 n,a 0 n,H]
end
def Vd:Fn:=qu 3 (X8 Zi QN ZP ZN)
def HU:OV Vd:=λns l=>by
 have s:zW (.ref 0) [.ro (ns.map W.int)]=some (ns.map W.int):=rfl;have E:mQ qm (zV zt) [some (.ref 0),none,none] [.ro (ns.map W.int)]=.ok (.int ns.length) [.ro (ns.map W.int)]:=by
  rw[jS (yE (w:=.ref 0) (A1:=[.ro (ns.map W.int)]) (zo rfl) s)];unfold qm;rw[ae]
 have em:zi X5 jj (zi We (mQ qm (zV zt)) kA) [some (.ref 0),none,none] [.ro (ns.map W.int)]=
   .ok (.int (if (if (4:Int)<ns.length then 4 else(ns.length:Int)) > 1 then(if (4:Int)<ns.length then 4 else(ns.length:Int)) else 1)) [.ro (ns.map W.int)]:=
  (zN (qw (w:=.int 1)) ((zN E (qw (w:=.int 4))).trans rfl)).trans rfl
 generalize c:(if (if (4:Int)<ns.length then 4 else(ns.length:Int)) > 1 then(if (4:Int)<ns.length then 4 else(ns.length:Int)) else 1)=v at em;have H:jJ v=true:=by
  have:0<=v/\v<1000:=by
   rw[<- c]
   split<;>split<;>omega
  obtain⟨k,rfl⟩:=aV this.1;exact LO (by omega)
 obtain⟨b,B,e,_⟩:=Zl (j:=kZ 0 v.toNat) (st:=turn (zP 1) BL) (N:=v.toNat) (I:=λ_ ρ B=>B[0]? =some (.ro (ns.map W.int))/\∃Y y,ρ=[some (.ref 0),Y,y])
  (λi ρ B d ⟨h0,Y,y,h⟩=>by
   subst h;obtain⟨z,f,e,a⟩:=D8 (k:=i) (x2:=y) h0;refine⟨_,_,f,Qc d,(kq (ρ1:=[some (.ref 0),some (.int (i:Int)),y]) ?_).trans e,a,_,_,rfl⟩;rw[Int.zero_add];rfl)
  (λρ B _=>Z8 (by omega)) v.toNat 0 [some (.ref 0),none,none] [.ro (ns.map W.int)] (by omega) ⟨rfl,_,_,rfl⟩
 refine⟨B,qQ ?_⟩;unfold X8;exact(zK ((yM (Z2 em H)).trans e)).trans (qy (qX qw))
section
variable {K:Frag}
def Bm (Z:Zz K h mg){f:Addr}(F:gx K "law" "law" Wd f fd):yR P w K mg base wB 11 f fd ["_law_script"] (Zc K 1 Vd):=
 o_law (k:=10) Z.B F (Lw Z).up (Lo Z).up (M8 Z).up (N1 Z).up
def all_mk {l:PySem.W.OpenLaw}{b:Addr}(X:K.In h)(Gl:h.Ns mainGlobals mg)(H:mg "law"=some (.ref b))(T:Tx K):
  ∃fd:FuncData,(∀(s:Shared)(v:Value),BindsTo s fd ⟨[v],[]⟩ [("_law_script",v)])/\∀base:Heap,K.In base->base.Ns mainGlobals mg->yR l.prog w K mg base wB 11 b fd ["_law_script"] (Zc K 1 Vd):=by
 obtain⟨f,fd,F,a⟩:=T.An;have e:=H.symm.trans (aO X Gl a);cases e;obtain⟨i,g,kV,doc,pm,an,c,ct,o,rfl,L,d⟩:=id F.ex;exact⟨_,λs v=>.of_eq rfl,λbase j nb=>Bm (zz X Gl T) F⟩
end
end G
namespace PySem.W.Fast
def tw11402935525360106920:Nat:=0
def tw2736863980273198414:Nat:=0
def tw3708375658123119252:Nat:=0
def tw15250395748315247005:Nat:=0
def tw7560553465678457787:Nat:=0
def tw6289634123358157613:Nat:=0
def tw8305443983805020868:Nat:=0
def tw18088141570536532676:Nat:=0
def tw16219308669599405328:Nat:=0
def tw13849163119856469216:Nat:=0
def tw6693288155858474624:Nat:=0
def tw14862368039214277829:Nat:=0
def tw5228631642382942083:Nat:=0
def tw1542207649913189967:Nat:=0
def tw10231690459925093133:Nat:=0
def tw2203844328392840965:Nat:=0
def tw2833322206801701382:Nat:=0
def tw5731766152510817978:Nat:=0
def tw14665970564597954390:Nat:=0
def tw13771335114472590719:Nat:=0
def tw4734637338727790760:Nat:=0
def tw3597182317651545183:Nat:=0
def tw16139734729048799493:Nat:=0
def tw1191208258200636946:Nat:=0
def tw814612207916992737:Nat:=0
def tw6952659499006302614:Nat:=0
def tw7868680008835892373:Nat:=0
def tw13299635374836752683:Nat:=0
end PySem.W.Fast
open PySem PySem.W PyProof.Rows
set_option maxRecDepth 100000 in
set_option maxHeartbeats 0 in
theorem PySem.Challenge.cw_nearkinds_k33_whole_weights_holds : PySem.Challenge.rw_nearkinds_k33_whole_weights.Holds := by
 w_on;o_law;k_head;(case hw=>w_witness2)
 k_fill
 refine Mi.Ak (l:=PySem.Challenge.rw_nearkinds_k33_whole_weights) (k:=11) (x := "_law_script") G.HU rfl rfl ⟨rfl,by decide,by decide⟩ (λw h Y=>PySem.W.kIn_of Y) ?F
 case F=>
  intro w mg fa h KX Gl hmg;have T:G.Tx (L2.Ny KX):=by
   dsimp only [L2.Ny]
   apply G.Tx.mk<;>first | (refine' Mi.zad ?a ?l ?c ?k;(case a=>k_is);(case l=>k_is);(case c=>k_is);(case k=>k_is)) | (refine' Mi.Ay ?a;(case a=>k_is)) | k_is|kernel_rfl
  exact G.all_mk KX Gl hmg T
