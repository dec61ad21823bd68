import PyProof.Rows.All
import Wide.All
import OpenK.AllK
import Wide.FinOn
import Lean
import PyProof.EqAt
import PyProof.EqKinds
import PyProof.TupleCall
import OpenK.KOwn
import PyProof.Rows.FStr
import PyProof.FString
import PyProof.NsDelKeeps
import KE.KIsAll
import PyProof.ExcArgs
import KE.KLam
import KE.KNestM
import PyProof.Rows.SetFrom
import PyProof.ListMulRoad
import PyProof.FactsAll.set_1
import PyProof.FactsAll.set_2
import PyProof.CollectIter
import PyProof.TupleIter
import PyProof.CollectWalk
import PyProof.Rows.SortShell
import PyProof.SumAny
import PyProof.ListOps
import KE.KDictList
import PyProof.NoPylong
import KE.KUnpack
import PySem.Challenge.RW_nearkinds_k53_whole_lots
noncomputable section
open PySem.W (Frag)
open List (all_cons all_map any_cons append_nil concat_eq_append count_append drop_length drop_zero eq_nil_or_concat filter_append find?_cons flatMap_cons forIn_cons forIn_nil getElem_inj length_nil length_replicate length_set lookup_cons map_id map_nil map_take mem_append_left mem_cons mem_map nil_append nodup_range not_mem_nil of_mem_zip take_zero)
open Nat (add_comm le_add_right le_succ lt_trans not_lt_zero sub_zero zero_le)
open Int (emod_nonneg natCast_succ one_mul zero_add)
open Option (getD_none isSome_some)
open PySem.W (cellsFrom_some codeIn findIn fnOf instObj keepIn kitOne kitx_dict kitx_list kitx_tuple lookIn methodObj mroIn nsIn plainGet)
open PySem.F (args_tuple_add_2 entry_tuple_add plain_list_iadd plain_sum_loop slot_set_iter slot_tuple_add)
abbrev aa:=@List.getElem?_eq_getElem
abbrev ab:=@List.getD_eq_getElem?_getD
abbrev ae:=@PySem.Heap.get?_push_of_some
abbrev af:=@List.length_map
abbrev ag:=@decide_eq_true_iff
abbrev ah:=@if_pos
abbrev ai:=@List.getElem?_append_left
abbrev aj:=@Nat.le_refl
abbrev ak:=@Bool.and_eq_true
abbrev ao:=@List.getElem?_map
abbrev aq:=@if_neg
abbrev ar:=@PySem.Heap.get?_push_size
abbrev au:=@List.mem_cons_of_mem
abbrev av:=@List.mem_cons_self
abbrev aw:=@List.length_append
abbrev ax:=@Bool.false_ne_true
abbrev ay:=@decide_eq_true
abbrev az:=@List.getElem?_append_right
abbrev aA:=@List.size_toArray
abbrev aB:=@List.getElem?_eq_none
abbrev aC:=@decide_eq_false
abbrev aD:=@Option.some.inj
abbrev aE:=@Int.toNat_natCast
abbrev aF:=@List.length_range
abbrev aG:=@List.map_append
abbrev aH:=@PySem.Heap.lt_size
abbrev aI:=@Nat.lt_of_lt_of_le
abbrev aJ:=@Nat.ne_of_lt
abbrev aK:=@List.getElem_mem
abbrev aL:=@List.map_map
abbrev aM:=@List.getElem?_set_self
abbrev aN:=@List.getElem?_set_ne
abbrev aO:=@List.append_assoc
abbrev aP:=@PySem.Heap.get?_update_other
abbrev aQ:=@List.map_cons
abbrev aR:=@Array.length_toList
abbrev aS:=@List.length_cons
abbrev aT:=@List.getElem?_range
abbrev aU:=@Int.eq_ofNat_of_zero_le
abbrev aV:=@PySem.W.mg_of
abbrev aW:=@Nat.lt_irrefl
abbrev aX:=@PySem.Heap.get?_update_self
abbrev aY:=@List.map_congr_left
abbrev aZ:=@List.flatten_cons
abbrev a0:=@List.pairwise_singleton
abbrev a3:=@List.mem_append_right
abbrev a5:=@PySem.W.mg_none_of
abbrev a6:=@beq_iff_eq
abbrev a7:=@Nat.lt_succ_of_lt
abbrev a8:=@List.length_take
abbrev a9:=@Bool.false_eq_true
abbrev ba:=@List.length_singleton
abbrev bb:=@List.range_succ
abbrev bc:=@PySem.Heap.size_push
abbrev bf:=@Nat.le_trans
abbrev bg:=@List.replicate_succ
abbrev bh:=@List.take_of_length_le
abbrev bj:=@Nat.ne_of_gt
abbrev bo:=@List.getElem_of_mem
abbrev bp:=@List.drop_eq_getElem_cons
abbrev bq:=@List.all_eq_true
abbrev br:=@Nat.lt_succ_self
abbrev bw:=@List.take_length
abbrev bx:=@List.length_drop
abbrev bz:=@List.pairwise_lt_range
abbrev bA:=@List.flatMap_append
abbrev bC:=@List.length_filter_le
abbrev bD:=@Nat.le_of_lt
abbrev bE:=@List.range_eq_range'
abbrev bF:=@PySem.W.kia_one
abbrev bG:=@Array.getElem?_toList
abbrev bH:=@Int.emod_lt_of_pos
abbrev bI:=@Bool.or_eq_true
abbrev bJ:=@beq_self_eq_true
abbrev bK:=@List.range'_succ
abbrev bL:=@List.ext_getElem
abbrev bN:=List (List Int)
abbrev bO:=List Int
abbrev bP:=List PySem.Value
abbrev bQ:=List PySem.Addr
abbrev bR:=List (PySem.Addr×PySem.Obj)
abbrev bS:=List Nat
abbrev bT:=List PySem.Str
abbrev bU:=PySem.Value->PySem.Shared->Prop
abbrev bV:=List PySem.Expr
abbrev bX:=Option Int
abbrev bY:=PySem.Str->Option PySem.Value
abbrev bZ:=List PySem.Env
abbrev b0:=List (PySem.Str×PySem.Addr)
abbrev b1:=List PySem.Keyword
abbrev b2:=Option PySem.Addr
abbrev b3:=List PySem.Stmt
abbrev b4:=@PySem.wpAny_bind
abbrev b5:=@PySem.wpAny_pure
abbrev b8:=@List.getElem?_eq_some_iff
abbrev b9:=@List.mem_cons
abbrev cc:=@List.all_eq_true
abbrev b6:=@List.mem_range
abbrev b7:=@List.mem_map
abbrev cb:=@List.mem_singleton
abbrev cf:=@List.mem_append
set_option Elab.async false
set_option linter.all false
set_option maxRecDepth 1000000
set_option maxHeartbeats 4000000
variable {XP:(PySem.Str->Option PySem.Value)->PySem.Heap->Prop}{D a b:PySem.Addr}{osl:Array (Option PySem.Value)}{items:Array PySem.Value}{led:Bool}{op:PySem.CmpOp}{env:PySem.Env}{e elt tg:PySem.Expr}{fd:PySem.FuncData}{base h:PySem.Heap}{pins:List (PySem.Addr×PySem.Obj)}{es:List (Int×PySem.Value)}{t:bN}{fp φ:List PySem.Addr}{gens gs:List PySem.Comprehension}{elts ifs rest:List PySem.Expr}{ns:bO}{cap vs:bS}{body:List PySem.Stmt}{N ps:List PySem.Str}{its us:List PySem.Value}{i kk n t':Nat}{p pos tpos:PySem.Pos}{P:PySem.Program}{sc scope:PySem.Scope}{s:PySem.Shared}{x:PySem.Str}{mg:PySem.Str->Option PySem.Value}{α:Type}{u:PySem.Value}{E Q:PySem.Value->PySem.Shared->Prop}{f:PySem.Value->PySem.Value->PySem.Sem PySem.Value}{w:PySem.World}{YP:PySem.World->PySem.Heap->Prop}
namespace L2
open PySem PySem.Spec PyProof.Rows
noncomputable abbrev Key:=Sum Int Str
noncomputable def QC:Key->Value->Bool
 |.inl k,v=>Value.isInt k v|.inr x,v=>Value.isStrOf x v
noncomputable def cg (w:World):Key->Int
 |.inl k=>hashInt k|.inr x=>hashStr w x
theorem gw:∀{k:Key}{v:Value},QC k v=true->(∃i t,k=Sum.inl i/\v=Value.int i t)∨(∃x t,k=Sum.inr x/\v=Value.str x t)
 |.inl i,v,h=>by
  obtain⟨t,e⟩:=Value.isInt_shape (k:=i) (v:=v) h;exact .inl ⟨i,t,rfl,e⟩
 |.inr x,v,h=>by
  obtain⟨t,e⟩:=Value.isStrOf_shape (x:=x) (v:=v) h;exact .inr ⟨x,t,rfl,e⟩
def IF (i:Int)(t:Tok):QC (.inl i) (.int i t)=true:=by simp[QC,Value.isInt]
def LV (x:Str)(t:Tok):QC (.inr x) (.str x t)=true:=by simp[QC,Value.isStrOf]
def Bf (a b:Int):decide ((Sum.inl a:Key)=Sum.inl b)=(a==b):=by
 by_cases e:a=b
 ·subst e;simp
 ·have h:¬(Sum.inl a:Key)=Sum.inl b:=λq=>e (Sum.inl.inj q)
  rw[aC h];exact(beq_eq_false_iff_ne.mpr e).symm
def DV (a b:Str):decide ((Sum.inr a:Key)=Sum.inr b)=decide (a=b):=by
 by_cases e:a=b
 ·subst e;simp
 ·have h:¬(Sum.inr a:Key)=Sum.inr b:=λq=>e (Sum.inr.inj q)
  rw[aC h,aC e]
def CL (a:Int)(b:Str):decide ((Sum.inl a:Key)=Sum.inr b)=false:=aC (λq=>nomatch q)
def DP (a:Str)(b:Int):decide ((Sum.inr a:Key)=Sum.inl b)=false:=aC (λq=>nomatch q)
def yu (prog:Program)(w:World):PySem.KeyKind prog w Key where
 is:=QC
 hash:=cg w
 inj:=λv a b f c=>by
  rcases gw f with ⟨i,t,rfl,rfl⟩|⟨x,t,rfl,rfl⟩
  ·rcases gw c with ⟨j,u,rfl,e⟩|⟨y,u,rfl,e⟩
   ·injection e with E _;rw[E]
   ·exact nomatch e
  ·rcases gw c with ⟨j,u,rfl,e⟩|⟨y,u,rfl,e⟩
   ·exact nomatch e
   ·injection e with E _;rw[E]
 byValue:=λk v h=>by
  rcases gw h with ⟨i,t,rfl,rfl⟩|⟨x,t,rfl,rfl⟩<;>rfl
 pyHash:=λH h=>by
  rcases gw H with ⟨i,t,rfl,rfl⟩|⟨x,t,rfl,rfl⟩
  ·exact wpAny_pyHash_int h
  ·exact wpAny_pyHash_str h
 eqBool:=λd H h=>by
  rcases gw d with ⟨i,t,rfl,rfl⟩|⟨x,t,rfl,rfl⟩
  ·rcases gw H with ⟨j,u,rfl,rfl⟩|⟨y,u,rfl,rfl⟩
   ·rw[Bf]at h;exact wpAny_eqBool_int h
   ·rw[CL]at h;exact SeqAt.EqAt.int_str i t y u _ _ _ _ h
  ·rcases gw H with ⟨j,u,rfl,rfl⟩|⟨y,u,rfl,rfl⟩
   ·rw[DP]at h;exact SeqAt.EqAt.str_int x t j u _ _ _ _ h
   ·rw[DV]at h;exact wpAny_eqBool_str h
 «strs»:=λk x t v h=>by
  rcases gw h with ⟨i,u,rfl,e⟩|⟨y,u,rfl,e⟩
  ·exact nomatch e
  ·injection e with E _
   subst E;cases v<;>rfl
def ML (prog:Program)(w:World)(k:Key)(v:Value):(yu prog w).is k v=QC k v:=rfl
def Ma (prog:Program)(w:World)(i:Int)(t:Tok):(yu prog w).is (.inl i) (.int i t)=true:=IF i t
def Mz (prog:Program)(w:World)(x:Str)(t:Tok):(yu prog w).is (.inr x) (.str x t)=true:=LV x t
inductive V where
 |non|bl (b:Bool)|int (i:Int)|str (x:Str)|byt (b:Array UInt8)|flt (b:UInt64)|ref (a:Addr)|ty (n:String)
 deriving DecidableEq
noncomputable def RelV:V->Value->Prop
 |.non,u=>u=Value.none|.bl b,u=>u=Value.bool b|.int i,u=>∃t,u=Value.int i t|.str x,u=>∃t,u=Value.str x t|.byt b,u=>∃t,u=Value.bytes b t|.flt b,u=>∃t,u=Value.float b t|.ref a,u=>u=Value.ref a|.ty n,u=>u=Value.type n
abbrev Vals:List V->List Value->Prop:=Paired RelV
theorem Vals.length {xs:List V}(r:Vals xs us):xs.length=us.length:=Paired.length r
theorem Vals.get:∀{xs:List V}{us:bP}{i:Nat}{x:V},Vals xs us->xs[i]? =some x->∃u,us[i]? =some u/\RelV x u
 |_,_,_,_,.nil,e=>by simp at e|_,_,0,_,.cons r _,e=>by simp at e;subst e;exact⟨_,rfl,r⟩|_,_,i+1,x,.cons _ t,e=>by
  obtain⟨u,H,h⟩:=Vals.get (i:=i) (x:=x) t (by simpa using e)
  exact⟨u,by simpa using H,h⟩
theorem Vals.set {x:V}(r:RelV x u):∀{xs:List V}{us:bP}(i:Nat),Vals xs us->Vals (xs.set i x) (us.set i u)
 |_,_,_,.nil=>.nil|_,_,0,.cons _ t=>.cons r t|_,_,i+1,.cons q t=>.cons q (Vals.set r i t)
theorem Vals.append:∀{xs y:List V}{us ws:bP},Vals xs us->Vals y ws->Vals (xs++y) (us++ws)
 |_,_,_,_,.nil,s=>s|_,_,_,_,.cons r t,s=>.cons r (Vals.append t s)
theorem Vals.take:∀{xs:List V}{us:bP}(n:Nat),Vals xs us->Vals (xs.take n) (us.take n)
 |_,_,0,_=>.nil|_,_,_+1,.nil=>.nil|_,_,n+1,.cons r t=>.cons r (Vals.take n t)
theorem Vals.drop:∀{xs:List V}{us:bP}(n:Nat),Vals xs us->Vals (xs.drop n) (us.drop n)
 |_,_,0,r=>r|_,_,_+1,.nil=>.nil|_,_,n+1,.cons _ t=>Vals.drop n t
def Vals.none_of:∀{xs:List V}{us:bP}{i:Nat},Vals xs us->xs[i]? =none->us[i]? =none:=λ {xs us i} r e=>by
 have H:=r.length;have h:xs.length<=i:=List.getElem?_eq_none_iff.mp e;exact List.getElem?_eq_none_iff.mpr (by omega)
def Zj:Option V->Option Value->Prop
 |some v,some u=>RelV v u|none,none=>True|_,_=>False
def KV {κ:Type}:List (κ×V)->List (κ×Value)->Prop:=Paired λ(p:κ×V) (q:κ×Value)=>p.1=q.1/\RelV p.2 q.2
noncomputable def kV:Key->V
 |.inl i=>.int i|.inr x=>.str x
inductive HO where
 |lst (xs:List V)
 |tup (xs:List V)
 |dK (kvs:List (Key×V))|dT (kvs:List (List Key×V))
 |set (S:Int->Bool) (n:Nat)
 |ins (C dx:Addr) (fs:List (Str×V))
 |own (x:Addr)
 |xd (fs:List (Str×V))
 |met (f x:Addr)
 |rng (lo hi:Int)
 |frz (o:Obj) (u:HO)
 |tbl (ps:Array Value)
 |ext (φ:Heap->Prop)
noncomputable abbrev Hp:=Addr->Option HO
noncomputable def upd (H:Hp)(a:Addr)(o:HO):Hp:=λb=>if b=a then some o else H b
def jY {H:Hp}{o:HO}:upd H a o a=some o:=by unfold upd;rw[ah rfl]
def qC {H:Hp}{o:HO}(h:b≠a):upd H a o b=H b:=by unfold upd;rw[aq h]
def BD {H:Hp}{o u:HO}(h:H a=some o)(h':H b=some u)(d:o≠u):a≠b:=by
 intro e;subst e;rw[h]at h';exact d (aD h')
def wj {H:Hp}{o:HO}(h:H a=some o)(h':H b=none):a≠b:=by
 intro e;subst e;rw[h]at h';cases h'
def Ze (h:Heap)(a:Addr)(items:Array Value):Prop:=∃o,h.get? a=some o/\(o.cls=.type "tuple" /\ o.dict=none)/\∃n,o.data=.seq items n
def Ze.tup {h:Heap}{a:Addr}{items:Array Value}(x:Ze h a items):IsTup h a items:=let ⟨o,e,c,d⟩:=x;⟨o,e,c.1,d⟩
def Ze.new (h:Heap)(items:Array Value):Ze (h.push { cls:=.type "tuple",data:=.seq items }) h.objs.size items:=⟨_,ar h rfl,⟨rfl,rfl⟩,0,rfl⟩
section
variable (P:Program)(w:World)
def jy (H:Hp)(h:Heap)(a:Addr):HO->Prop
 |.lst xs=>xs.length<=sizeLine/\∃(its:bP) (n:Nat),Vals xs its/\h.get? a=some { cls:=.type "list",data:=.seq its.toArray n }
 |.tup xs=>xs.length<=sizeLine/\∃its:bP,Vals xs its/\Ze h a its.toArray|.dK kvs=>kvs.length<=sizeLine/\(a==sysModules)=false/\∃vs,KV kvs vs/\h.DictOf (yu P w) a vs|.dT kvs=>kvs.length<=sizeLine/\(a==sysModules)=false/\∃xs:List (List Key×Addr×Value),
   Paired (λ(p:List Key×V) (q:List Key×Addr×Value)=>p.1=q.1/\H q.2.1=some (.tup (p.1.map kV))/\RelV p.2 q.2.2) kvs xs/\
   ∃o e E,h.get? a=some o/\o.ExactDict/\o.data=.dict e E/\e.toList=xs.map (entryOfKey (tupleKind (yu P w)))/\(xs.map (·.1)).Nodup
 |.set S n=>h.SetOf (intKind P w) a S n|.ins C d fs=>H d=some (.own a)/\fs.length<=1000/\d≠a/\h.get? a=some (instObj C d)/\
   ∃m,h.Ns1 d m/\(∀f,Zj (fs.lookup f) (m f))/\PySem.Within m (fs.map (·.1))
 |.own _=>∃o,h.get? a=some o|.xd fs=>∃m,h.Ns1 a m/\∀f,Zj (fs.lookup f) (m f)|.rng lo hi=>∃t u v,h.get? a=some { cls:=.type "range",data:=.fields #[.int lo t,.int hi u,.int 1 v] }
 |.frz o u=>h.get? a=some o/\jy H h a u|.tbl s=>h.get? a=some { cls:=.none,data:=.fields s }|.met f x=>h.get? a=some (methodObj (.ref f) (.ref x))|.ext φ=>φ h/\(∃o,h.get? a=some o)/\∀c b:Heap,φ c->(∀o,c.get? a=some o->b.get? a=some o)->φ b
def jB (H:Hp)(h:Heap):Prop:=∀a o,H a=some o->jy P w H h a o
end
section
variable {H H':Hp}{h':Heap}{o:HO}
theorem jy.lt (x:jy P w H h a o):a<h.objs.size:=by
 cases o with
 |lst xs=>obtain⟨_,_,_,_,e⟩:=x;exact aH e|tup xs=>obtain⟨_,_,_,p⟩:=x;exact p.tup.lt|dK kvs=>obtain⟨_,_,_,_,o,_,_,e,_⟩:=x;exact aH e|dT kvs=>obtain⟨_,_,_,_,o,_,_,e,_⟩:=x;exact aH e|set S n=>obtain⟨o,_,_,_,e,_⟩:=x;exact aH e|ins C d fs=>obtain⟨_,_,_,e,_⟩:=x;exact aH e|own y=>obtain⟨_,e⟩:=x;exact aH e|xd fs=>obtain⟨_,⟨_,_,_,e,_⟩,_⟩:=x;exact aH e|rng lo hi=>obtain⟨_,_,_,e⟩:=x;exact aH e|frz ob u=>obtain⟨e,_⟩:=x;exact aH e|tbl s=>exact aH (show h.get? a=some _ from x)|met f y=>exact aH (show h.get? a=some _ from x)|ext φ=>obtain⟨_,⟨_,e⟩,_⟩:=x;exact aH e
theorem Paired.mapP {β:Type}{F G:α->β->Prop}:∀{L:List α}{l:List β},Paired F L l->(∀a b,F a b->G a b)->Paired G L l
 |_,_,.nil,_=>.nil|_,_,.cons r t,f=>.cons (f _ _ r) (Paired.mapP t f)
def jy.stay (x:jy P w H h a o)(k:∀b u,(b=a∨H b=some (.own a))->h.get? b=some u->h'.get? b=some u)
  (A:∀b,H b=some (.own a)->H' b=some (.own a))(l:∀b xs,H b=some (.tup xs)->H' b=some (.tup xs)):jy P w H' h' a o:=by
 induction o with
 |lst xs=>obtain⟨z,i,n,r,e⟩:=x;exact⟨z,i,n,r,k _ _ (.inl rfl) e⟩|tup xs=>obtain⟨z,i,r,ob,e,c⟩:=x;exact⟨z,i,r,ob,k _ _ (.inl rfl) e,c⟩|dK kvs=>obtain⟨z,y,vs,r,ob,E,g,e,c⟩:=x;exact⟨z,y,vs,r,ob,E,g,k _ _ (.inl rfl) e,c⟩|dT kvs=>
  obtain⟨z,y,xs,r,ob,E,g,e,c⟩:=x;exact⟨z,y,xs,Paired.mapP r λp q z=>⟨z.1,l _ _ z.2.1,z.2.2⟩,ob,E,g,k _ _ (.inl rfl) e,c⟩
 |set S n=>obtain⟨ob,E,g,t,e,c⟩:=x;exact⟨ob,E,g,t,k _ _ (.inl rfl) e,c⟩|ins C D fs=>
  obtain⟨d,z,ne,e,m,⟨j,E,g,B,c⟩,r⟩:=x;exact⟨A _ d,z,ne,k _ _ (.inl rfl) e,m,⟨j,E,g,k _ _ (.inr d) B,c⟩,r⟩
 |own y=>obtain⟨ob,e⟩:=x;exact⟨ob,k _ _ (.inl rfl) e⟩|xd fs=>obtain⟨m,⟨j,E,g,e,c⟩,r⟩:=x;exact⟨m,⟨j,E,g,k _ _ (.inl rfl) e,c⟩,r⟩|rng lo hi=>obtain⟨t,u,v,e⟩:=x;exact⟨t,u,v,k _ _ (.inl rfl) e⟩|frz ob u I=>obtain⟨e,q⟩:=x;exact⟨k _ _ (.inl rfl) e,I q⟩|tbl s=>
  have e:h.get? a=some { cls:=.none,data:=.fields s }:=x;show h'.get? a=some { cls:=.none,data:=.fields s };exact k a _ (.inl rfl) e
 |met f y=>
  have e:h.get? a=some (methodObj (.ref f) (.ref y)):=x;show h'.get? a=some (methodObj (.ref f) (.ref y));exact k a _ (.inl rfl) e
 |ext φ=>obtain⟨p,⟨o,e⟩,st⟩:=x;exact⟨st _ _ p λo q=>k _ _ (.inl rfl) q,⟨o,k _ _ (.inl rfl) e⟩,st⟩
theorem jB.lt (x:jB P w H h)(e:H a=some o):a<h.objs.size:=(x a o e).lt
def jB.fresh (x:jB P w H h)(e:h.objs.size<=a):H a=none:=by
 cases q:H a with
 |none=>rfl|some u=>exact absurd (aI (x.lt q) e) (aW _)
def jB.kept (x:jB P w H h)(k:∀b u,h.get? b=some u->h'.get? b=some u):jB P w H h':=λa o e=>
 (x a o e).stay (λb u _ q=>k b u q) (λ_ q=>q) λ_ _ q=>q
def jB.laid (x:jB P w H h)(k:∀b u,h.get? b=some u->h'.get? b=some u)(p:h.objs.size<=a)(new:jy P w (upd H a o) h' a o):jB P w (upd H a o) h':=λb u e=>by
 have hn:=x.fresh p
 by_cases d:b=a
 ·subst d;rw[jY]at e;cases e;exact new
 ·rw[qC d]at e
  exact(x b u e).stay (λc v _ q=>k c v q) (λc q=>by rw[qC (wj q hn)];exact q) λc xs q=>by rw[qC (wj q hn)];exact q
end
def Rd (H:Hp)(a:Addr)(u:HO):Prop:=H a=some u∨∃o,H a=some (.frz o u)
def Rd.ok {H:Hp}{u:HO}(r:Rd H a u)(x:jB P w H h):jy P w H h a u:=by
 rcases r with r|⟨o,r⟩
 ·exact x a u r
 ·obtain⟨_,q⟩:=x a _ r
  exact q
noncomputable def Yr:Option HO->Prop
 |some (.lst _)=>True|some (.dK _)=>True|some (.dT _)=>True|some (.set _ _)=>True|some (.ins _ _ _)=>True|some (.ext _)=>True|_=>False
section
variable {H:Hp}{h':Heap}{x e:Addr}{o':HO}
def jB.write (ok:jB P w H h)(m:Yr (H x))(he:e=x∨H e=some (.own x))(k:∀b u,b≠e->h.get? b=some u->h'.get? b=some u)(o:∃u,h'.get? e=some u)
  (new:jy P w (upd H x o') h' x o'):jB P w (upd H x o') h':=λb u q=>by
 have n:∀c y,H c=some (.own y)->c≠x:=λc y r z=>by subst z;rw[r]at m;exact m
 have N:∀c xs,H c=some (.tup xs)->c≠x:=λc xs r z=>by subst z;rw[r]at m;exact m
 by_cases f:b=x
 ·subst f;rw[jY]at q;cases q;exact new
 ·rw[qC f]at q
  by_cases a:b=e
  ·have Q:H b=some (.own x):=by
    rcases he with z|z
    ·exact absurd (a.trans z) f
    ·rw[a];exact z
   rw[q]at Q;cases Q;obtain⟨v,g⟩:=o;exact⟨v,by rw[a];exact g⟩
  ·refine(ok b u q).stay (λc v d r=>k c v ?_ r) (λc r=>by rw[qC (n c b r)];exact r) λc xs r=>by rw[qC (N c xs r)];exact r
   rcases d with rfl|d
   ·exact a
   ·rintro rfl
    rcases he with z|z
    ·exact n c b d z
    ·rw[d]at z;cases z;exact f rfl
end
structure Un (fs ex:bQ)(H H':Hp)(h h':Heap):Prop where
 keep:∀b o,h.get? b=some o->H b=none->b∉fs->b∉ex->h'.get? b=some o
 slot:∀b o,h.get? b=some o->H b=none->b∈fs->b∉ex->∃sl,h'.get? b=some { o with slots:=sl }
 free:∀b o,h.get? b=some o->H b=none->b∉ex->H' b=none
 there:∀b o,h.get? b=some o->b∉ex->∃o',h'.get? b=some o'
 tups:∀b xs,H b=some (.tup xs)->H' b=some (.tup xs)
 frzs:∀b o u,H b=some (.frz o u)->H' b=some (.frz o u)
 tbls:∀b ps,H b=some (.tbl ps)->∃more,H' b=some (.tbl (ps++more))
section
variable {fs ex:bQ}{H H1:Hp}{h1 h':Heap}{x e:Addr}{o:HO}
def Un.any (u:Un fs ex H H1 h h1){ob:Obj}(q:h.get? b=some ob)(n:H b=none)(x:b∉ex):∃sl,h1.get? b=some { ob with slots:=sl }:=by
 by_cases a:b∈fs
 ·exact u.slot b ob q n a x
 ·exact⟨ob.slots,u.keep b ob q n a x⟩
def Un.kept (k:∀b u,h.get? b=some u->h'.get? b=some u):Un fs ex H H h h':=
 ⟨λb ob q _ _ _=>k b ob q,λb ob q _ _ _=>⟨ob.slots,k b ob q⟩,λ_ _ _ n _=>n,λb ob q _=>⟨ob,k b ob q⟩,λ_ _ q=>q,λ_ _ _ q=>q,λ_ p q=>⟨#[],by rw[q];simp⟩⟩
def Un.refl:Un fs ex H H h h:=Un.kept λ_ _ q=>q
def Un.laid (k:∀b u,h.get? b=some u->h'.get? b=some u)(p:h.objs.size<=a)(hn:H a=none):Un fs ex H (upd H a o) h h' where
 keep:=λb u q _ _ _=>k b u q
 slot:=λb u q _ _ _=>⟨u.slots,k b u q⟩
 free:=λb u q n _=>by rw[qC (aJ (aI (aH q) p))];exact n
 there:=λb u q _=>⟨u,k b u q⟩
 tups:=λb xs q=>by rw[qC (wj q hn)];exact q
 frzs:=λb u xs q=>by rw[qC (wj q hn)];exact q
 tbls:=λb P q=>⟨#[],by rw[qC (wj q hn),q];simp⟩
def Un.write (m:Yr (H x))(he:e=x∨H e=some (.own x))(k:∀b u,b≠e->h.get? b=some u->h'.get? b=some u)(c:∃u,h'.get? e=some u):Un fs ex H (upd H x o) h h':=by
 have d:∀b,H b=none->b≠x:=λb n z=>by subst z;rw[n]at m;exact m
 have f:∀b,H b=none->b≠e:=λb n z=>by
  subst z;rcases he with r|r
  ·exact d b n r
  ·rw[n]at r;cases r
 have hm:∀b u,H b=some u->¬Yr (some u)->b≠x:=λb u q nm z=>by subst z;rw[q]at m;exact nm m
 refine⟨λb u q n _ _=>k b u (f b n) q,λb u q n _ _=>⟨u.slots,k b u (f b n) q⟩,λb u q n _=>by rw[qC (d b n)];exact n,λb u q _=>?_,
  λb xs q=>by rw[qC (hm b _ q λz=>z)];exact q,λb u xs q=>by rw[qC (hm b _ q λz=>z)];exact q,λb p q=>⟨#[],by rw[qC (hm b _ q λz=>z),q];simp⟩⟩
 by_cases a:b=e
 ·subst a;exact c
 ·exact⟨u,k b u a q⟩
end
noncomputable def Wh (h:Heap)(H:Hp):bQ:=(List.range h.objs.size).filter λa=>(H a).isSome
def Zm (h:Heap)(H:Hp):Heap:=PySem.W.hideAll h (Wh h H)
def L7 (h:Heap)(H:Hp):(Zm h H).objs.size=h.objs.size:=PySem.W.hideAll_size _ _
def HE {H:Hp}{o:Obj}(e:h.get? b=some o)(n:H b=none):(Zm h H).get? b=some o:=
 PySem.W.hideAll_get _ e λhm=>by
  have q:(H b).isSome=true:=(List.mem_filter.mp hm).2;rw[n]at q;simp at q
def Dh {H:Hp}{o:Obj}(e:(Zm h H).get? b=some o):h.get? b=some o/\H b=none:=by
 have E:h.get? b=some o:=PySem.W.of_hideAll (Wh h H) e;refine⟨E,?_⟩;cases q:H b with
 |none=>rfl|some x=>
  have hm:b∈Wh h H:=List.mem_filter.mpr ⟨b6.mpr (aH E),by simp[q]⟩
  have z:(Zm h H).get? b=none:=PySem.W.hideAll_none (Wh h H) hm;rw[z]at e;cases e
structure Mod (K:Frag)(mg:bY)(base:Heap):Prop where
 kin:K.In base
 glob:base.Ns mainGlobals mg
 blt:∃mb,base.Ns builtinsNs mb/\∀x:Str,x ≠ "__name__" -> mb x=bootBuiltins x
 nolimit:base.NoLimit
structure Cx where
 prog:Program
 w:World
 K:Frag
 mg:Str->Option Value
 base:Heap
 A:Around
 N:bT
 s0:Shared
 H0:Hp
 env:Env
 outer:bZ
 stack:bZ
 ex:bQ
 fn:Str->Bool
 calm:Bool
 pn:bR
 xe:Value->Shared->Prop
noncomputable def gi (l:bZ):bQ:=l.filterMap (·.frame)
abbrev Cx.fs (X:Cx):bQ:=gi X.outer
def Wc (sc:Scope)(x:Str):Prop:=sc.names.lookup x=some .local∨sc.names.lookup x=some .cell∨sc.names.lookup x=some .free
def Loc (sc:Scope)(x:Str):Prop:=sc.names.lookup x=some .local∨sc.names.lookup x=some .cell
def Look (env:Env)(h:Heap)(m:bY)(x:Str)(u:Value):Prop:=
 (env.kindOf x=some .local/\m x=some u)∨((env.kindOf x=some .cell∨env.kindOf x=some .free)/\∃c,env.cells.lookup x=some c/\h.IsCell c (some u))
structure Cx.Ok (X:Cx):Prop where
 mod:Mod X.K X.mg X.base
 kind:X.env.scope.kind=.function
 glob:X.env.globals=mainGlobals
 blt:X.env.builtins=builtinsNs
 above:X.s0.heap.objs.size<=X.env.locals
 inj:∀x y c,X.env.cells.lookup x=some c->X.env.cells.lookup y=some c->x=y
 has:∀x,(X.env.kindOf x=some .cell∨X.env.kindOf x=some .free)->∃c,X.env.cells.lookup x=some c
 cab:∀x c,X.fn x=true->X.env.cells.lookup x=some c->X.s0.heap.objs.size<=c
 hd:X.calm=true->X.A.handled=none
 frames:X.A.frames=some X.stack
 stk:X.stack=X.outer∨(X.stack=X.env::X.outer/\X.env.frame=some X.env.locals)
 exf:∀b∈X.ex,b≠X.env.locals/\∀x c,X.env.cells.lookup x=some c->c≠b
 bs:∀b o,X.base.get? b=some o->X.s0.heap.get? b=some o/\X.H0 b=none
 bsz:X.base.objs.size<=X.s0.heap.objs.size
 noex:∀b o,X.base.get? b=some o->b∉X.ex
 exfs:∀b∈X.ex,b∉X.fs
 funs:X.s0.heap.FunFrames X.base X.outer
 frf:∀b∈X.fs,X.H0 b=none
structure Inv (X:Cx)(pins:bR)(σ:List (Option V))(H:Hp)(s:Shared):Prop where
 ok:X.Ok
 os:s.os=X.s0.os
 bare:AllBare s.gens
 base:Un X.fs X.ex X.H0 H X.s0.heap s.heap
 loc:∃m,s.heap.Ns X.env.locals m/\∀(i:Nat)(x:Str)(v:V),X.N[i]? =some x->σ[i]? =some (some v)->Wc X.env.scope x->∃u,RelV v u/\Look X.env s.heap m x u
 cell:∀x c,X.env.cells.lookup x=some c->∃v,s.heap.IsCell c v
 free:H X.env.locals=none
 freeC:∀x c,X.env.cells.lookup x=some c->H c=none
 pin:∀p∈X.pn++pins,s.heap.get? p.1=some p.2/\H p.1=none/\p.1≠X.env.locals/\p.1∉X.fs/\∀v,p.2.data≠.cell v
 hok:jB X.prog X.w H s.heap
 len:σ.length=X.N.length
section
variable {X:Cx}{σ:List (Option V)}{H H':Hp}{h':Heap}
def Cx.Ok.nofr (ok:X.Ok){o:Obj}(e:X.base.get? b=some o):b∉X.fs:=λh=>by
 have:=(ok.funs.mem h).1
 rw[e]at this;cases this
theorem Inv.bs (I:Inv X pins σ H s):∀b o,X.base.get? b=some o->s.heap.get? b=some o/\H b=none:=λb o e=>
 ⟨I.base.keep b o (I.ok.bs b o e).1 (I.ok.bs b o e).2 (I.ok.nofr e) (I.ok.noex b o e),I.base.free b o (I.ok.bs b o e).1 (I.ok.bs b o e).2 (I.ok.noex b o e)⟩
def Inv.bk (I:Inv X pins σ H s):∀b o,X.base.get? b=some o->s.heap.get? b=some o:=λb o e=>(I.bs b o e).1
theorem Inv.mod (I:Inv X pins σ H s):Mod X.K X.mg X.base:=I.ok.mod
def Inv.kIn (I:Inv X pins σ H s):X.K.In s.heap:=I.ok.mod.kin.keeps I.bk
theorem Inv.lt (I:Inv X pins σ H s):X.env.locals<s.heap.objs.size:=let ⟨_,hn,_⟩:=I.loc;hn.lt
def Inv.sz (I:Inv X pins σ H s):X.s0.heap.objs.size<=s.heap.objs.size:=bf I.ok.above (bD I.lt)
def Inv.nofs (I:Inv X pins σ H s)(h:s.heap.objs.size<=a):a∉X.fs:=λc=>by
 obtain⟨_,o,b,_⟩:=I.ok.funs.mem c;exact absurd (aI (aH b) (bf I.sz h)) (aW _)
def Inv.cne (I:Inv X pins σ H s):∀x c,X.env.cells.lookup x=some c->c≠X.env.locals:=λx c e z=>by
 obtain⟨v,o,b,hd⟩:=I.cell x c e;obtain⟨m,⟨o',E,p,h,a,_⟩,_⟩:=I.loc;rw[z,h]at b;cases b;rw[a]at hd;cases hd
theorem Inv.funs (I:Inv X pins σ H s):s.heap.FunFrames X.base X.outer:=by
 have all:∀(l:bZ),(∀b∈gi l,b∈X.fs)->X.s0.heap.FunFrames X.base l->s.heap.FunFrames X.base l:=by
  intro l
  induction l with
  |nil=>intro _ _;trivial|cons env r i=>
   intro c g;obtain⟨j,⟨L,o,hf,hn,f,hd⟩,d⟩:=g;have a:L∈X.fs:=c L (by unfold gi;rw[List.filterMap_cons,hf];exact av)
   obtain⟨sl,e⟩:=I.base.slot L o f (I.ok.frf L a) a λz=>I.ok.exfs L z a;exact⟨j,⟨L,_,hf,hn,e,hd⟩,i (λb h=>c b (by unfold gi;rw[List.filterMap_cons,hf];exact au _ h)) d⟩
 exact all X.outer (λ_ h=>h) I.ok.funs
theorem Inv.stack (I:Inv X pins σ H s):s.heap.FunFrames X.base X.stack:=by
 rcases I.ok.stk with e|⟨e,hf⟩
 ·rw[e];exact I.funs
 ·rw[e]
  obtain⟨m,hn,_⟩:=I.loc;refine .cons (by rw[I.ok.kind];decide) hf hn ?_ I.funs
  exact Heap.get?_none_of_le (bf I.ok.bsz I.ok.above)
def Inv.stkSub (I:Inv X pins σ H s):∀b∈gi X.stack,b∈X.env.locals::X.fs:=λb h=>by
 rcases I.ok.stk with e|⟨e,hf⟩
 ·rw[e]at h;exact au _ h
 ·rw[e]at h
  unfold gi at h;rw[List.filterMap_cons,hf]at h;exact h
def Inv.stkFree (I:Inv X pins σ H s):∀b∈gi X.stack,H b=none:=λb h=>by
 rcases b9.mp (I.stkSub b h) with e|h
 ·rw[e];exact I.free
 ·obtain⟨_,o,a,_⟩:=I.ok.funs.mem h
  exact I.base.free b o a (I.ok.frf b h) λz=>I.ok.exfs b z h
def Inv.step {g':Array GenState}{d':Drawn}{ch:bQ}(I:Inv X pins σ H s)
  (a:∀b∈ch,(b∈X.ex∨X.s0.heap.objs.size<=b)/\b≠X.env.locals/\(∀x c,X.env.cells.lookup x=some c->c≠b)/\∀p∈X.pn++pins,p.1≠b)
  (keep:∀b o,b≠X.env.locals->b∉X.fs->b∉ch->s.heap.get? b=some o->H b=none->h'.get? b=some o)
  (slot:∀b o,b≠X.env.locals->b∈X.fs->b∉ch->s.heap.get? b=some o->H b=none->∃sl,h'.get? b=some { o with slots:=sl })(free:∀b o,b∉ch->s.heap.get? b=some o->H b=none->H' b=none)
  (there:∀b o,b∉ch->s.heap.get? b=some o->∃o',h'.get? b=some o')
  (tups:∀b xs,H b=some (.tup xs)->H' b=some (.tup xs))(frzs:∀b o u,H b=some (.frz o u)->H' b=some (.frz o u))(tbls:∀b P,H b=some (.tbl P)->∃more,H' b=some (.tbl (P++more)))
  (ns:∀m,s.heap.Ns X.env.locals m->h'.Ns X.env.locals m)(hok:jB X.prog X.w H' h')(D:AllBare g'):
  Inv X pins σ H' { s with heap:=h',gens:=g',drawn:=d',toks:=t' }:=by
 have Yu:∀b o,X.s0.heap.get? b=some o->b≠X.env.locals:=λb o e=>aJ (aI (aH e) I.ok.above);have C:∀b o,X.s0.heap.get? b=some o->b∉X.ex->b∉ch:=λb o e h f=>by
  rcases(a b f).1 with z|z
  ·exact h z
  ·exact absurd (aI (aH e) z) (aW _)
 have cellK:∀x c,X.env.cells.lookup x=some c->∀v,s.heap.IsCell c v->h'.IsCell c v:=λx c e v ⟨o,g,hd⟩=>by
  have N:c∉ch:=λz=>(a c z).2.2.1 x c e rfl
  by_cases A:c∈X.fs
  ·obtain⟨sl,q⟩:=slot c o (I.cne x c e) A N g (I.freeC x c e)
   exact⟨_,q,hd⟩
  ·exact⟨o,keep c o (I.cne x c e) A N g (I.freeC x c e),hd⟩
 refine⟨I.ok,I.os,D,⟨λb o e n f h=>?_,λb o e n f h=>?_,λb o e n h=>?_,λb o e h=>?_,λb xs e=>tups b xs (I.base.tups b xs e),λb o xs e=>frzs b o xs (I.base.frzs b o xs e),λb P e=>?_⟩,?_,λx c e=>?_,?_,λx c e=>?_,λp y=>?_,hok,I.len⟩
 ·exact keep b o (Yu b o e) f (C b o e h) (I.base.keep b o e n f h) (I.base.free b o e n h)
 ·obtain⟨sl,E⟩:=I.base.slot b o e n f h
  obtain⟨S,j⟩:=slot b _ (Yu b o e) f (C b o e h) E (I.base.free b o e n h);exact⟨S,j⟩
 ·obtain⟨o',E⟩:=I.base.there b o e h
  exact free b o' (C b o e h) E (I.base.free b o e n h)
 ·obtain⟨o',E⟩:=I.base.there b o e h
  exact there b o' (C b o e h) E
 ·obtain⟨m1,E⟩:=I.base.tbls b P e
  obtain⟨m2,j⟩:=tbls b _ E;exact⟨m1++m2,by rw[j,Array.append_assoc]⟩
 ·obtain⟨m,hn,B⟩:=I.loc
  refine⟨m,ns m hn,λi x v E j J=>?_⟩;obtain⟨u,r,l⟩:=B i x v E j J;refine⟨u,r,?_⟩;rcases l with l|⟨k,c,e,z⟩
  ·exact .inl l
  ·exact .inr ⟨k,c,e,cellK x c e _ z⟩
 ·obtain⟨v,z⟩:=I.cell x c e
  exact⟨v,cellK x c e v z⟩
 ·obtain⟨m,⟨o,_,_,g,_⟩,_⟩:=I.loc
  exact free _ o (λz=>(a _ z).2.1 rfl) g I.free
 ·obtain⟨v,o,g,hd⟩:=I.cell x c e
  exact free c o (λz=>(a c z).2.2.1 x c e rfl) g (I.freeC x c e)
 ·obtain⟨e,n,ne,t,d⟩:=I.pin p y
  have N:p.1∉ch:=λz=>(a p.1 z).2.2.2 p y rfl;exact⟨keep p.1 p.2 ne t N e n,free p.1 p.2 N e n,ne,t,d⟩
def Inv.un (I:Inv X pins σ H s)(u:Un X.fs [] H H' s.heap h')(hok:jB X.prog X.w H' h'):Inv X pins σ H' { s with heap:=h',toks:=t' }:=by
 obtain⟨m,⟨o,f,p,c,r⟩,_⟩:=id I.loc;obtain⟨sl,L⟩:=u.any c I.free (by simp)
 exact I.step (g':=s.gens) (d':=s.drawn) (ch:=[]) (λ_ z=>nomatch z) (λb o _ a _ e n=>u.keep b o e n a (by simp)) (λb o _ a _ e n=>u.slot b o e n a (by simp)) (λb o _ e n=>u.free b o e n (by simp)) (λb o _ e=>u.there b o e (by simp)) u.tups u.frzs u.tbls (λm' hm=>by
  obtain⟨o',es',E,h,d⟩:=hm;rw[c]at h;cases h;exact⟨_,es',E,L,d⟩) hok I.bare
def Inv.call {g':Array GenState}{d':Drawn}{ch:bQ}(I:Inv X pins σ H s)(u:Un (gi X.stack) ch H H' s.heap h')(hok:jB X.prog X.w H' h')(i:AllBare g')
  (d:∀b∈ch,(b∈X.ex∨X.s0.heap.objs.size<=b)/\b≠X.env.locals/\(∀x c,X.env.cells.lookup x=some c->c≠b)/\∀p∈X.pn++pins,p.1≠b):
  Inv X pins σ H' { s with heap:=h',gens:=g',drawn:=d',toks:=t' }:=by
 obtain⟨m,⟨o,l,q,f,r⟩,_⟩:=id I.loc;obtain⟨sl,L⟩:=u.any f I.free λz=>(d _ z).2.1 rfl;exact I.step (ch:=ch) d (λb o L j h e n=>u.keep b o e n (λz=>(b9.mp (I.stkSub b z)).elim L j) h) (λb o _ _ h e n=>u.any e n h) (λb o h e n=>u.free b o e n h) (λb o h e=>u.there b o e h) u.tups u.frzs u.tbls (λm' hm=>by
  obtain⟨o',es',E,a,g⟩:=hm;rw[f]at a;cases a;exact⟨_,es',E,L,g⟩) hok i
def Inv.turned {it:Addr}(I:Inv X pins σ H s)(k:∀b o,b≠it->s.heap.get? b=some o->h'.get? b=some o)(hn:H it=none)(L:it≠X.env.locals)
  (i:it∈X.ex∨X.s0.heap.objs.size<=it)(g:∀x c,X.env.cells.lookup x=some c->c≠it)(f:∀p∈X.pn++pins,p.1≠it):Inv X pins σ H { s with heap:=h',toks:=t' }:=by
 have N:∀b u,H b=some u->b≠it:=λb u e z=>by rw[z,hn]at e;cases e
 refine I.step (g':=s.gens) (d':=s.drawn) (ch:=[it]) (λb d=>?_) (λb o _ _ h e _=>k b o (λz=>h (by simp[z])) e) (λb o _ _ h e _=>⟨o.slots,k b o (λz=>h (by simp[z])) e⟩) (λ_ _ _ _ n=>n)
  (λb o h e=>⟨o,k b o (λz=>h (by simp[z])) e⟩) (λ_ _ e=>e) (λ_ _ _ e=>e) (λb P e=>⟨#[],by rw[e];simp⟩) (λm hm=>?_) (λb u e=>?_) I.bare
 ·have e:b=it:=by simpa using d
  subst e;exact⟨i,L,g,f⟩
 ·obtain⟨o,E,j,a,r⟩:=hm
  exact⟨o,E,j,k _ o (Ne.symm L) a,r⟩
 ·refine(I.hok b u e).stay (λc v h q=>k c v ?_ q) (λ_ q=>q) λ_ _ q=>q
  rcases h with z|z
  ·rw[z];exact N b u e
  ·exact N c _ z
def Inv.tok (I:Inv X pins σ H s)(t:Nat):Inv X pins σ H { s with toks:=t }:=I.un (h':=s.heap) (t':=t) Un.refl I.hok
theorem Inv.kept (I:Inv X pins σ H s)(k:∀b u,s.heap.get? b=some u->h'.get? b=some u):Inv X pins σ H { s with heap:=h',toks:=t' }:=I.un (Un.kept k) (I.hok.kept k)
theorem Inv.laid {o:HO}(I:Inv X pins σ H s)(k:∀b u,s.heap.get? b=some u->h'.get? b=some u)(h:s.heap.objs.size<=a)(new:jy X.prog X.w (upd H a o) h' a o):
  Inv X pins σ (upd H a o) { s with heap:=h',toks:=t' }:=I.un (Un.laid k h (I.hok.fresh h)) (I.hok.laid k h new)
theorem Inv.write {x e:Addr}{o:HO}(I:Inv X pins σ H s)(m:Yr (H x))(he:e=x∨H e=some (.own x))(k:∀b u,b≠e->s.heap.get? b=some u->h'.get? b=some u)(h:∃u,h'.get? e=some u)
  (new:jy X.prog X.w (upd H x o) h' x o):Inv X pins σ (upd H x o) { s with heap:=h',toks:=t' }:=I.un (Un.write m he k h) (I.hok.write m he k h new)
def Inv.pins_of {P:bR}(I:Inv X pins σ H s)(h:∀p∈P,s.heap.get? p.1=some p.2/\H p.1=none/\p.1≠X.env.locals/\p.1∉X.fs/\∀v,p.2.data≠.cell v):Inv X P σ H s:=
 ⟨I.ok,I.os,I.bare,I.base,I.loc,I.cell,I.free,I.freeC,λp a=>(cf.mp a).elim (λz=>I.pin p (mem_append_left _ z)) (h p),I.hok,I.len⟩
def Sh (h:N.Nodup){j:Nat}(a:N[i]? =some x)(b:N[j]? =some x):i=j:=by
 obtain⟨c,E⟩:=b8.mp a;obtain⟨H,e⟩:=b8.mp b;exact(getElem_inj h).mp (E.trans e.symm)
def Tb {M:Model}{A:Around}{v:V}{Q:Unit->Shared->Prop}(I:Inv X pins σ H s)(hN:X.N.Nodup)(hi:X.N[i]? =some x)(t:Loc X.env.scope x)(r:RelV v u)
  (h:∀s',Inv X pins (σ.set i (some v)) H s'->(∃a,Heap.SameBut a s.heap s'.heap/\(a=X.env.locals∨X.env.cells.lookup x=some a))->Q () s')(hf:X.fn x=true∨X.env.scope.names.lookup x=some .local:=by first|exact .inl rfl|exact .inr rfl|assumption):wpAny M A (storeName X.env x u) Q E s:=by
 obtain⟨m,hn,hl⟩:=id I.loc;have U:(X.env.scope.kind==.class || (X.env.scope.kind==.module&&X.env.locals != X.env.globals))=false:=by rw[I.ok.kind];rfl
 have J:i < σ.length:=by rw[I.len];exact(b8.mp hi).1
 have cne:=I.cne;have tracked:∀{a:Addr}{h':Heap},(∃o,s.heap.get? a=some o/\H a=none)->Heap.SameBut a s.heap h'->jB X.prog X.w H h':=λ {a h'} ha f b ob e=>by
  obtain⟨_,_,B⟩:=ha;refine(I.hok b ob e).stay (λc w' l q=>(f.2 c ?_).trans q) (λ_ q=>q) λ_ _ q=>q
  rintro rfl
  rcases l with rfl|l
  ·rw[B]at e;cases e
  ·rw[B]at l;cases l
 rcases t with D|D
 ·refine wpAny_storeName_local D hn (λh' hn' f=>?_) U
  obtain⟨oL,_,_,hoL,_⟩:=id hn;refine h _ ⟨I.ok,I.os,I.bare,⟨λb o e n P t=>?_,λb o e n P t=>?_,I.base.free,λb o e t=>?_,I.base.tups,I.base.frzs,I.base.tbls⟩,⟨_,hn',λj y v' g C e3=>?_⟩,λy c e=>?_,I.free,I.freeC,λp hp=>?_,tracked ⟨oL,hoL,I.free⟩ f,by simpa using I.len⟩ ⟨_,f,.inl rfl⟩
  ·exact(f.2 b (aJ (aI (aH e) I.ok.above))).trans (I.base.keep b o e n P t)
  ·obtain⟨sl,g⟩:=I.base.slot b o e n P t
   exact⟨sl,(f.2 b (aJ (aI (aH e) I.ok.above))).trans g⟩
  ·obtain⟨o',g⟩:=I.base.there b o e t
   exact⟨o',(f.2 b (aJ (aI (aH e) I.ok.above))).trans g⟩
  ·by_cases K:j=i
   ·subst K
    rw[hi]at g;cases g;rw[aM J]at C;cases C;exact⟨u,r,.inl ⟨D,by simp⟩⟩
   ·rw[aN (Ne.symm K)]at C
    obtain⟨u',r',q⟩:=hl j y v' g C e3;refine⟨u',r',?_⟩;rcases q with ⟨k,e⟩|⟨k,c,e,z⟩
    ·refine .inl ⟨k,?_⟩
     have:y≠x:=λe=>K (Sh hN g (e ▸ hi))
     simp[this,e]
    ·exact .inr ⟨k,c,e,z.sameBut f (cne y c e)⟩
  ·obtain⟨w',z⟩:=I.cell y c e
   exact⟨w',z.sameBut f (cne y c e)⟩
  ·obtain⟨e,n,ne,nf,d⟩:=I.pin p hp
   exact⟨(f.2 p.1 ne).trans e,n,ne,nf,d⟩
 ·have L:X.fn x=true:=by
   rcases hf with z|z
   ·exact z
   ·rw[z]at D;cases D
  obtain⟨c,l⟩:=I.ok.has x (.inl D);obtain⟨w',z⟩:=I.cell x c l;refine wpAny_storeName_cell I.ok.kind D l z (λh' Z f=>?_);obtain⟨oc,T,S⟩:=id z;refine h { s with heap:=h' } ⟨I.ok,I.os,I.bare,⟨λb o e n P t=>?_,λb o e n P t=>?_,I.base.free,λb o e t=>?_,I.base.tups,I.base.frzs,I.base.tbls⟩,⟨m,hn.sameBut f (Ne.symm (cne x c l)),λj y v' g C e3=>?_⟩,λy c' e=>?_,I.free,I.freeC,λp hp=>?_,tracked ⟨oc,T,I.freeC x c l⟩ f,by simpa using I.len⟩ ⟨c,f,.inr l⟩
  ·exact(f.2 b (aJ (aI (aH e) (I.ok.cab x c L l)))).trans (I.base.keep b o e n P t)
  ·obtain⟨sl,g⟩:=I.base.slot b o e n P t
   exact⟨sl,(f.2 b (aJ (aI (aH e) (I.ok.cab x c L l)))).trans g⟩
  ·obtain⟨o',g⟩:=I.base.there b o e t
   exact⟨o',(f.2 b (aJ (aI (aH e) (I.ok.cab x c L l)))).trans g⟩
  ·by_cases K:j=i
   ·subst K
    rw[hi]at g;cases g;rw[aM J]at C;cases C;exact⟨u,r,.inr ⟨.inl D,c,l,Z⟩⟩
   ·rw[aN (Ne.symm K)]at C
    obtain⟨u',r',q⟩:=hl j y v' g C e3;refine⟨u',r',?_⟩;rcases q with q|⟨k,c',e,z'⟩
    ·exact .inl q
    ·refine .inr ⟨k,c',e,z'.sameBut f ?_⟩
     rintro rfl
     exact K (Sh hN g (I.ok.inj _ _ _ e l ▸ hi))
  ·by_cases Y:c'=c
   ·subst Y;exact⟨_,Z⟩
   ·obtain⟨w2,z2⟩:=I.cell y c' e
    exact⟨w2,z2.sameBut f Y⟩
  ·obtain⟨e,n,ne,nf,d⟩:=I.pin p hp
   refine⟨(f.2 p.1 ?_).trans e,n,ne,nf,d⟩;intro q;rw[q,T]at e;have q':oc=p.2:=aD e;exact d w' (by rw[<- q'];exact S)
def So {M:Model}{A:Around}{v:V}{Q:Unit->Shared->Prop}(I:Inv X pins σ H s)(b:X.N.Nodup)(hi:X.N[i]? =some x)(a:Loc X.env.scope x)(r:RelV v u)
  (h:∀S,Inv X pins (σ.set i (some v)) H S->Q () S)(hf:X.fn x=true∨X.env.scope.names.lookup x=some .local:=by first|exact .inl rfl|exact .inr rfl|assumption):wpAny M A (storeName X.env x u) Q E s:=
 Tb I b hi a r (λS c _=>h S c) hf
def Inv.call' {S:Shared}{ch:bQ}(I:Inv X pins σ H s)(o:S.os=s.os)(u:Un (gi X.stack) ch H H' s.heap S.heap)(hok:jB X.prog X.w H' S.heap)(g:AllBare S.gens)
  (h:∀b∈ch,(b∈X.ex∨X.s0.heap.objs.size<=b)/\b≠X.env.locals/\(∀x c,X.env.cells.lookup x=some c->c≠b)/\∀p∈X.pn++pins,p.1≠b):Inv X pins σ H' S:=by
 obtain⟨h',g',d',t',o'⟩:=S;have e:o'=s.os:=o;subst e;exact I.call (g':=g') (t':=t') (d':=d') u hok g h
end
abbrev XK:=Value->Option Addr->Hp->Prop
noncomputable abbrev St:=List (Option V)
abbrev VK:=V->Hp->Prop
abbrev TE:=St->Hp->VK->Prop
abbrev TT:=St->Hp->(Bool->Hp->Prop)->Prop
abbrev TA:=St->Hp->(List V->Hp->Prop)->Prop
structure Ends where
 nx:St->Hp->Prop
 rt:VK
 bk:St->Hp->Prop:=λ_ _=>False
 ct:St->Hp->Prop:=λ_ _=>False
abbrev TS:=Ends->St->Hp->Prop
inductive EP (X:Cx)(pins:bR)(σ:St)(Q:VK)(u:Value)(s':Shared):Prop
 |mk (v:V) (H':Hp) (I:Inv X pins σ H' s') (r:RelV v u) (q:Q v H')
def TP (X:Cx)(pins:bR)(σ:St)(Q:Bool->Hp->Prop)(b:Bool)(s:Shared):Prop:=∃H,Inv X pins σ H s/\Q b H
inductive AP (X:Cx)(pins:bR)(σ:St)(Q:List V->Hp->Prop)(us:bP)(s':Shared):Prop
 |mk (vs:List V) (H':Hp) (I:Inv X pins σ H' s') (r:Vals vs us) (q:Q vs H')
def SP (X:Cx)(pins:bR)(D:Ends)(f:Flow)(s:Shared):Prop:=
 match f with
 |.next=>∃a H,Inv X pins a H s/\D.nx a H|.brk=>∃a H,Inv X pins a H s/\D.bk a H|.cont=>∃a H,Inv X pins a H s/\D.ct a H|.ret u=>∃v a H,Inv X pins a H s/\RelV v u/\D.rt v H
def PE (X:Cx)(e:Expr)(t:TE):Prop:=
 ∀(pins:bR)(s:Shared)(σ:St)(H:Hp)(Q:VK),Inv X pins σ H s->t σ H Q->wpAny (model X.prog X.w) X.A (eval e X.env) (EP X pins σ Q) X.xe s
def PT (X:Cx)(e:Expr)(t:TT):Prop:=
 ∀(pins:bR)(s:Shared)(σ:St)(H:Hp)(Q:Bool->Hp->Prop),Inv X pins σ H s->t σ H Q->wpAny (model X.prog X.w) X.A (isTrue e X.env (eval e X.env)) (TP X pins σ Q) X.xe s
def PW (X:Cx)(e:Expr)(t:TT):Prop:=
 ∀(whole:Sem Value)(pins:bR)(s:Shared)(σ:St)(H:Hp)(Q:Bool->Hp->Prop),Inv X pins σ H s->t σ H Q->wpAny (model X.prog X.w) X.A (isTrue e X.env whole) (TP X pins σ Q) X.xe s
def PW.pt {X:Cx}{t:TT}(h:PW X e t):PT X e t:=h _
def PA (X:Cx)(e:bV)(t:TA):Prop:=
 ∀(pos:Pos)(pins:bR)(s:Shared)(σ:St)(H:Hp)(Q:List V->Hp->Prop),Inv X pins σ H s->t σ H Q->wpAny (model X.prog X.w) X.A (spliced (backTo pos (starEach e X.env))) (AP X pins σ Q) X.xe s
def PS (X:Cx)(st:Stmt)(t:TS):Prop:=
 ∀(pins:bR)(s:Shared)(σ:St)(H:Hp)(D:Ends),Inv X pins σ H s->t D σ H->wpAny (model X.prog X.w) X.A (exec st X.env) (SP X pins D) X.xe s
def yF (X:Cx)(st:b3)(t:TS):Prop:=
 ∀(pins:bR)(s:Shared)(σ:St)(H:Hp)(D:Ends),Inv X pins σ H s->t D σ H->wpAny (model X.prog X.w) X.A (execs st X.env) (SP X pins D) X.xe s
def zV {t:Sem α}{Q Q':α->Shared->Prop}{M:Model}{A:Around}(h:wpAny M A t Q E s)(H:∀a s,Q a s->Q' a s):wpAny M A t Q' E s:=wpAny_mono h H λ_ _ x=>x
section
variable {X:Cx}
noncomputable def A8 (i:Nat):TE:=λσ H Q=>∃v,σ[i]? =some (some v)/\Q v H
noncomputable def tC (v:V):TE:=λ_ H Q=>Q v H
def C7 (n:X.N[i]? =some x)(g:Wc X.env.scope x)(hd:(x==("__debug__":Str))=false:=by decide)(d:(x==("__classdict__":Str))=false:=by decide):PE X (.Name x pos) (A8 i):=by
 intro pins s σ H Q I h;obtain⟨v,e,h⟩:=h;obtain⟨m,hn,j⟩:=I.loc;obtain⟨u,r,l⟩:=j i x v n e g;have fin:EP X pins σ Q u s:=⟨v,H,I,r,h⟩;rcases l with ⟨b,hm⟩|⟨b,c,f,a⟩
 ·exact wpAny_Name (wpAny_loadName_local I.ok.kind b hn hm fin) hd
 ·rcases b with b|b
  ·exact wpAny_Name (wpAny_loadName_cell I.ok.kind b f a fin) hd
  ·exact wpAny_Name (wpAny_loadName_free I.ok.kind b f a fin d) hd
def CO {i j pos}:PE X (.Constant (.int i) j pos) (tC (.int i)):=λ_ _ _ H _ I h=>wpAny_Constant_int ⟨.int i,H,I.tok _,⟨_,rfl⟩,h⟩
def BB {b j pos}:PE X (.Constant (.bool b) j pos) (tC (.bl b)):=λ_ _ _ H _ I h=>Constant_bool ⟨.bl b,H,I,rfl,h⟩
def DC {j pos}:PE X (.Constant .none j pos) (tC .non):=λ_ _ _ H _ I h=>Constant_none ⟨.non,H,I,rfl,h⟩
def Gl (X:Cx)(x:Str):Prop:=X.env.kindOf x=some .globalImplicit
def Rl {σ:St}{H:Hp}(I:Inv X pins σ H s)(g:Gl X x)(hm:X.mg x=some u)(h:Q u s)
  (hd:(x==("__debug__":Str))=false:=by decide):wpAny (model X.prog X.w) X.A (eval (.Name x pos) X.env) Q E s:=
 Calls.Name_function_global I.ok.kind g (Calls.loadGlobal_global (by rw[I.ok.glob];exact I.mod.glob.keeps I.bk) hm h) hd
def gD {σ:St}{H:Hp}(I:Inv X pins σ H s)(g:Gl X x)(hm:X.mg x=none)(v:bootBuiltins x=some u)(h:Q u s)
  (hn:x ≠ "__name__":=by decide)(hd:(x==("__debug__":Str))=false:=by decide):wpAny (model X.prog X.w) X.A (eval (.Name x pos) X.env) Q E s:=by
 obtain⟨mb,b,a⟩:=I.mod.blt;exact Calls.Name_function_global I.ok.kind g (Calls.loadGlobal_builtin (by rw[I.ok.glob];exact I.mod.glob.keeps I.bk) hm (by rw[I.ok.blt];exact b.keeps I.bk) ((a x hn).trans v) h) hd
def ED {v:V}(g:Gl X x)(hm:X.mg x=some u)(r:RelV v u)(hd:(x==("__debug__":Str))=false:=by decide):PE X (.Name x pos) (tC v):=
 λ_ _ _ H _ I h=>Rl I g hm ⟨v,H,I,r,h⟩ hd
def E4 {v:V}(g:Gl X x)(hm:X.mg x=none)(a:bootBuiltins x=some u)(r:RelV v u)(hn:x ≠ "__name__":=by decide)(hd:(x==("__debug__":Str))=false:=by decide):PE X (.Name x pos) (tC v):=
 λ_ _ _ H _ I h=>gD I g hm a ⟨v,H,I,r,h⟩ hn hd
variable {a b:Expr}{ta tb:TE}
def IM (b:Expr)(h:op≠.In)(H:op≠.NotIn):behindInMarks op b=false:=by
 have E:(op==CmpOp.In)=false:=by cases op<;>first|rfl|exact absurd rfl h
 have e:(op==CmpOp.NotIn)=false:=by cases op<;>first|rfl|exact absurd rfl H
 cases b<;>simp[behindInMarks,E,e]
noncomputable def tB (t:TE):TT:=λσ H Q=>t σ H λx H1=>∃c,x=.bl c/\Q c H1
def Cu {t:TE}(h:PE X e t)(he:∀whole,isTrue e X.env whole=(do let v <- whole;standAt e.pos;holding [v] (truthy v)):=by intro _;rfl):PT X e (tB t):=by
 intro pins s σ H Q I hw;refine isTrue_plain (zV (h pins s σ H _ I hw) λv s1 ⟨x,H1,i,r,a⟩=>?_) (he _);obtain⟨d,rfl,q⟩:=a;cases r;exact wpAny_truthy_bool ⟨H1,i,q⟩
variable {tA tB':TT}
noncomputable def ck (t u:TT):TT:=λσ H Q=>t σ H λc H1=>if c=true then u σ H1 Q else Q false H1
noncomputable def cm (t u:TT):TT:=λσ H Q=>t σ H λc H1=>if c=true then Q true H1 else u σ H1 Q
noncomputable def AM (t:TT):TT:=λσ H Q=>t σ H λc H1=>Q (!c) H1
def pw_and1 (b:PT X a tA):PW X (.BoolOp .And [a] pos) tA:=by
 intro w pins s σ H Q I h;refine isTrue_and (zV (b pins s σ H Q I h) λc s1 e=>?_);cases c with
 |true=>exact isTrue_and_nil e|false=>exact e
def pw_or1 (b:PT X a tA):PW X (.BoolOp .Or [a] pos) tA:=by
 intro w pins s σ H Q I h;refine isTrue_or (zV (b pins s σ H Q I h) λc s1 e=>?_);cases c with
 |false=>exact isTrue_or_nil e|true=>exact e
def pw_and (e:PT X a tA)(d:PW X (.BoolOp .And (b::rest) pos) tB'):PW X (.BoolOp .And (a::b::rest) pos) (ck tA tB'):=by
 intro w pins s σ H Q I h;refine isTrue_and (zV (e pins s σ H _ I h) λc s1 ⟨H1,i,q⟩=>?_);cases c with
 |true=>exact d w pins s1 σ H1 Q i q|false=>exact⟨H1,i,q⟩
def pw_or (e:PT X a tA)(d:PW X (.BoolOp .Or (b::rest) pos) tB'):PW X (.BoolOp .Or (a::b::rest) pos) (cm tA tB'):=by
 intro w pins s σ H Q I h;refine isTrue_or (zV (e pins s σ H _ I h) λc s1 ⟨H1,i,q⟩=>?_);cases c with
 |true=>exact⟨H1,i,q⟩|false=>exact d w pins s1 σ H1 Q i q
def DD (b:PT X a tA):PT X (.UnaryOp .Not a pos) (AM tA):=by
 intro pins s σ H Q I h;exact isTrue_not (b pins s σ H (λc H1=>Q (!c) H1) I h)
noncomputable def Ap (T t:TE):TE:=λσ H Q=>T σ H λx H1=>∃c,x=.bl c/\if c=true then t σ H1 Q else Q (.bl false) H1
noncomputable def cn (T t:TE):TE:=λσ H Q=>T σ H λx H1=>∃c,x=.bl c/\if c=true then Q (.bl true) H1 else t σ H1 Q
noncomputable def BM (t:TE):TE:=λσ H Q=>t σ H λx H1=>∃c,x=.bl c/\Q (.bl (!c)) H1
def D9 {op}{t:TE}(h:PE X a t):PE X (.BoolOp op [a] pos) t:=λpins s σ H Q I hw=>BoolOp_one (h pins s σ H Q I hw)
def C0 (e:PE X a ta)(d:PE X (.BoolOp .And (b::rest) pos) tb):PE X (.BoolOp .And (a::b::rest) pos) (Ap ta tb):=by
 intro pins s σ H Q I h;refine BoolOp_and (zV (e pins s σ H _ I h) λv s1 ⟨x,H1,i,r,q⟩=>?_);obtain⟨c,rfl,q⟩:=q;cases r;refine wpAny_truthy_bool ?_;cases c with
 |true=>exact d pins s1 σ H1 Q i q|false=>exact⟨.bl false,H1,i,rfl,q⟩
def BQ (e:PE X a ta)(d:PE X (.BoolOp .Or (b::rest) pos) tb):PE X (.BoolOp .Or (a::b::rest) pos) (cn ta tb):=by
 intro pins s σ H Q I h;refine BoolOp_or (zV (e pins s σ H _ I h) λv s1 ⟨x,H1,i,r,q⟩=>?_);obtain⟨c,rfl,q⟩:=q;cases r;refine wpAny_truthy_bool ?_;cases c with
 |false=>exact d pins s1 σ H1 Q i q|true=>exact⟨.bl true,H1,i,rfl,q⟩
def CY (b:PE X a ta):PE X (.UnaryOp .Not a pos) (BM ta):=by
 intro pins s σ H Q I h;refine UnaryOp_ (zV (b pins s σ H _ I h) λv s1 ⟨x,H1,i,r,q⟩=>?_);obtain⟨c,rfl,q⟩:=q;cases r;exact not_of (wpAny_truthy_bool ⟨.bl (!c),H1,i,rfl,q⟩)
noncomputable def cp (t:TT)(a T:TE):TE:=λσ H Q=>t σ H λc H1=>if c=true then a σ H1 Q else T σ H1 Q
def FH {c:Expr}(e:PT X c tA)(g:PE X a ta)(f:PE X b tb):PE X (.IfExp c a b pos) (cp tA ta tb):=by
 intro pins s σ H Q I h;refine wpAny_IfExp (zV (e pins s σ H _ I h) λd s1 ⟨H1,i,q⟩=>?_);cases d with
 |true=>exact g pins s1 σ H1 Q i q|false=>exact f pins s1 σ H1 Q i q
end
def qM (K:Frag)(H:Hp)(a:Addr)(xs:List V):Prop:=
 Rd H a (.lst xs)∨
  ∃(o:Obj) (its:Array Value) (n:Nat),K.lookup a=some o/\o.cls=.type "list" /\ o.dict=none/\o.data=.seq its n/\its.size<=sizeLine/\Vals xs its.toList
def qE (K:Frag)(H:Hp)(a:Addr)(xs:List V):Prop:=
 Rd H a (.tup xs)∨
  ∃(o:Obj) (its:Array Value) (n:Nat),K.lookup a=some o/\(o.cls=.type "tuple" /\ o.dict=none)/\o.data=.seq its n/\its.size<=sizeLine/\Vals xs its.toList
noncomputable def AX:Value->Option V
 |.none=>some .non|.bool b=>some (.bl b)|.int i _=>some (.int i)|.str x _=>some (.str x)|.bytes b _=>some (.byt b)|.float b _=>some (.flt b)|.ref a=>some (.ref a)|.type n=>some (.ty n)|_=>none
def RelV.abs {x:V}(r:RelV x u):AX u=some x:=by
 cases x with
 |non=>cases r;rfl|bl _=>cases r;rfl|int _=>obtain⟨t,rfl⟩:=r;rfl|str _=>obtain⟨t,rfl⟩:=r;rfl|byt _=>obtain⟨t,rfl⟩:=r;rfl|flt _=>obtain⟨t,rfl⟩:=r;rfl|ref _=>cases r;rfl|ty _=>cases r;rfl
def RelV.inj {x y:V}(r:RelV x u)(q:RelV y u):x=y:=aD (r.abs.symm.trans q.abs)
theorem Vals.inj:∀{xs y:List V}{us:bP},Vals xs us->Vals y us->xs=y
 |_,_,_,.nil,.nil=>rfl|_,_,_,.cons r t,.cons a t'=>by rw[r.inj a,Vals.inj t t']
section
variable {X:Cx}{σ:St}{H:Hp}{xs ys:List V}
def qM.of {K:Frag}(h:H a=some (.lst xs)):qM K H a xs:=.inl (.inl h)
def qE.of {K:Frag}(h:H a=some (.tup xs)):qE K H a xs:=.inl (.inl h)
def Inv.list (I:Inv X pins σ H s)(h:qM X.K H a xs):∃i:bP,Vals xs i/\PlainL s.heap a i.toArray/\xs.length<=sizeLine:=by
 rcases h with h|⟨o,i,n,c,d,hd,b,f,r⟩
 ·obtain⟨z,i,n,r,e⟩:=h.ok I.hok
  exact⟨i,r,⟨_,n,e,rfl,rfl,rfl⟩,z⟩
 ·refine⟨i.toList,r,⟨o,n,I.kIn a o c,d,hd,by simpa using b⟩,?_⟩
  have e:=r.length;simp only[aR]at e;omega
def Inv.tuple (I:Inv X pins σ H s)(h:qE X.K H a xs):∃i:bP,Vals xs i/\IsTup s.heap a i.toArray/\xs.length<=sizeLine:=by
 rcases h with h|⟨o,i,n,c,d,b,f,r⟩
 ·obtain⟨z,i,r,p⟩:=h.ok I.hok
  exact⟨i,r,p.tup,z⟩
 ·refine⟨i.toList,r,⟨o,I.kIn a o c,d.1,n,by simpa using b⟩,?_⟩
  have e:=r.length;simp only[aR]at e;omega
def Inv.list_inj (I:Inv X pins σ H s)(h:qM X.K H a xs)(h':qM X.K H a ys):xs=ys:=by
 obtain⟨i,r,⟨o,n,e,_,_,d⟩,_⟩:=I.list h;obtain⟨its',b,⟨o',N,E,_,_,d'⟩,_⟩:=I.list h';rw[e]at E;cases E;rw[d]at d';injection d' with D _
 have:i=its':=by simpa using congrArg Array.toList D
 subst this;exact r.inj b
def Inv.tuple_inj (I:Inv X pins σ H s)(h:qE X.K H a xs)(h':qE X.K H a ys):xs=ys:=by
 obtain⟨i,r,⟨o,e,_,n,d⟩,_⟩:=I.tuple h;obtain⟨its',b,⟨o',E,_,N,d'⟩,_⟩:=I.tuple h';rw[e]at E;cases E;rw[d]at d';injection d' with D _
 have:i=its':=by simpa using congrArg Array.toList D
 subst this;exact r.inj b
end
noncomputable abbrev Cx.wish (X:Cx)(E:bU):Cx:={ X with xe:=E }
noncomputable abbrev Cx.nox (X:Cx):Cx:=X.wish λ_ _=>False
theorem Cx.Ok.wish {X:Cx}(ok:X.Ok)(E:bU):(X.wish E).Ok:=
 ⟨ok.mod,ok.kind,ok.glob,ok.blt,ok.above,ok.inj,ok.has,ok.cab,ok.hd,ok.frames,ok.stk,ok.exf,ok.bs,ok.bsz,ok.noex,ok.exfs,ok.funs,ok.frf⟩
def Cx.Ok.unwish {X:Cx}(ok:(X.wish E).Ok):X.Ok:=
 ⟨ok.mod,ok.kind,ok.glob,ok.blt,ok.above,ok.inj,ok.has,ok.cab,ok.hd,ok.frames,ok.stk,ok.exf,ok.bs,ok.bsz,ok.noex,ok.exfs,ok.funs,ok.frf⟩
section
variable {X:Cx}{σ:St}{H:Hp}
theorem Inv.wish (I:Inv X pins σ H s)(E:bU):Inv (X.wish E) pins σ H s:=⟨I.ok.wish E,I.os,I.bare,I.base,I.loc,I.cell,I.free,I.freeC,I.pin,I.hok,I.len⟩
theorem Inv.unwish (I:Inv (X.wish E) pins σ H s):Inv X pins σ H s:=⟨I.ok.unwish,I.os,I.bare,I.base,I.loc,I.cell,I.free,I.freeC,I.pin,I.hok,I.len⟩
theorem SP.unwish {D:Ends}{f:Flow}{s:Shared}(h:SP (X.wish E) pins D f s):SP X pins D f s:=by
 cases f with
 |next=>obtain⟨a,H,I,q⟩:=h;exact⟨a,H,I.unwish,q⟩|brk=>obtain⟨a,H,I,q⟩:=h;exact⟨a,H,I.unwish,q⟩|cont=>obtain⟨a,H,I,q⟩:=h;exact⟨a,H,I.unwish,q⟩|ret u=>obtain⟨v,a,H,I,r,q⟩:=h;exact⟨v,a,H,I.unwish,r,q⟩
theorem yF.nox {st:b3}{t:TS}(h:yF X.nox st t):yF X st t:=λpins s σ H D I hw=>
 wpAny_mono (h pins s σ H D (I.wish _) hw) (λ_ _ q=>q.unwish) λ_ _ z=>False.elim z
end
section
variable {X:Cx}{st:Stmt}{rest:b3}{t u:TS}{te:TE}
noncomputable def Bj:TS:=λD σ H=>D.nx σ H
noncomputable def cq (t u:TS):TS:=λD σ H=>t { D with nx:=u D } σ H
def Dn:yF X [] Bj:=λ_ _ σ H _ I h=>wpAny_execs_nil ⟨σ,H,I,h⟩
def Hi (c:PS X st t)(b:yF X rest u):yF X (st::rest) (cq t u):=by
 intro pins s σ H D I h;refine wpAny_execs_cons (zV (c pins s σ H { D with nx:=u D } I h) λf s1 q=>?_)
 cases f with
 |next=>
  obtain⟨a,d,i,q⟩:=q;exact b pins s1 a d D i q
 |ret v=>exact q|brk=>exact q|cont=>exact q
def Inv.quiet {σ:St}{H:Hp}(I:Inv X pins σ H s):interactive X.env=false:=by simp[interactive,I.ok.kind]
noncomputable def Al (t:TE):TS:=λD σ H=>t σ H λ_ H1=>D.nx σ H1
def ER (he:PE X e te)(a:swapsWith e none pos.line X.env=pure false:=by rfl):PS X (.Expr e pos) (Al te):=by
 intro pins s σ H D I h;exact wpAny_Expr_any (zV (he pins s σ H _ I h) λv s1 ⟨x,H1,i,r,q⟩=>⟨σ,H1,i,q⟩) I.quiet a
noncomputable def AY (t:TE):TS:=λD σ H=>t σ H D.rt
def Bc (he:PE X e te):PS X (.Return (some e) pos) (AY te):=by
 intro pins s σ H D I h;exact wpAny_Return_some (zV (he pins s σ H _ I h) λv s1 ⟨x,H1,i,r,q⟩=>⟨x,σ,H1,i,r,q⟩)
noncomputable def AV (c:TT)(t u:TS):TS:=λD σ H=>c σ H λb H1=>if b=true then t D σ H1 else u D σ H1
def Bk {c:Expr}{a b:b3}{T:TT}(e:PT X c T)(g:yF X a t)(f:yF X b u):PS X (.If c a b pos) (AV T t u):=by
 intro pins s σ H D I h;refine wpAny_If (zV (e pins s σ H _ I h) λd s1 ⟨H1,i,q⟩=>?_);cases d with
 |true=>exact g pins s1 σ H1 D i q|false=>exact f pins s1 σ H1 D i q
end
abbrev TG:=V->St->Hp->(St->Hp->Prop)->Prop
abbrev QJ:=List V->St->Hp->(St->Hp->Prop)->Prop
def PG (X:Cx)(target:Expr)(t:TG):Prop:=
 ∀(pins:bR)(s:Shared)(σ:St)(H:Hp)(v:V)(u:Value)(Q:St->Hp->Prop),Inv X pins σ H s->RelV v u->t v σ H Q->
  wpAny (model X.prog X.w) X.A (assign target X.env u) (λ_ S=>∃a h,Inv X pins a h S/\Q a h) X.xe s
def Wf (X:Cx)(T:bV)(t:QJ):Prop:=
 ∀(pins:bR)(s:Shared)(σ:St)(H:Hp)(vs:List V)(us:bP)(Q:St->Hp->Prop),Inv X pins σ H s->Vals vs us->t vs σ H Q->
  wpAny (model X.prog X.w) X.A (assignInOrder ((assignEach T X.env).map (·.2)) us) (λ_ S=>∃a h,Inv X pins a h S/\Q a h) X.xe s
abbrev QD:=V->V->V->Hp->(Hp->Prop)->Prop
def KU (X:Cx)(t:QD):Prop:=
 ∀(pins:bR)(s:Shared)(σ:St)(H:Hp)(o i v:V)(a I u:Value)(Q:Hp->Prop),Inv X pins σ H s->RelV o a->RelV i I->RelV v u->t o i v H Q->
  wpAny (model X.prog X.w) X.A (setItem a I u) (λ_ S=>∃h,Inv X pins σ h S/\Q h) X.xe s
abbrev Wl:=V->V->Hp->VK->Prop
def Ow (X:Cx)(op:Operator)(t:Wl):Prop:=
 ∀(pins:bR)(s:Shared)(σ:St)(H:Hp)(x y:V)(v u:Value)(Q:VK),Inv X pins σ H s->RelV x v->RelV y u->t x y H Q->
  wpAny (model X.prog X.w) X.A (inplaceOp op v u) (EP X pins σ Q) X.xe s
section
variable {X:Cx}
noncomputable def KA (i:Nat):TG:=λv σ H Q=>Q (σ.set i (some v)) H
def Q5 (b:X.N.Nodup)(hi:X.N[i]? =some x)(a:Loc X.env.scope x)(hf:X.fn x=true∨X.env.scope.names.lookup x=some .local:=by first|exact .inl rfl|exact .inr rfl|assumption):PG X (.Name x pos) (KA i):=by
 intro pins s σ H v u Q I r h;exact wpAny_assign_Name (So I b hi a r (λS c=>⟨_,H,c,h⟩) hf)
noncomputable def cu:QJ:=λvs σ H Q=>vs=[]/\Q σ H
noncomputable def AB (t:TG)(u:QJ):QJ:=λvs σ H Q=>∃v r,vs=v::r/\t v σ H λa h=>u r a h Q
def GG:Wf X [] cu:=by
 intro pins s σ H vs us Q I r h;obtain⟨e,h⟩:=h;subst e;cases r;exact assignInOrder_nil ⟨σ,H,I,h⟩
def Q4 {E:bV}{t:TG}{u:QJ}(f:PG X e t)(d:Wf X E u)
  (c:(assignEach (e::E) X.env).map (·.2)=assign e X.env::(assignEach E X.env).map (·.2):=by rfl):Wf X (e::E) (AB t u):=by
 intro pins s σ H vs us Q I r h;obtain⟨v,j,g,h⟩:=h;subst g;cases r with
 |cons r b=>
  rw[c];refine assignInOrder_cons (zV (f pins s σ H _ _ _ I r h) λ_ s1 ⟨a,H1,i,q⟩=>?_);exact d pins s1 a H1 _ _ Q i b q
noncomputable def j4 (K:Frag)(n:Nat)(t:QJ):TG:=λv σ H Q=>∃a xs,v=.ref a/\qE K H a xs/\xs.length=n/\t xs σ H Q
def GV {E:bV}{k:Nat}{t:QJ}(g:X.calm=true)(h:Wf X E t)
  (hn:(assignEach E X.env).length=n:=by rfl)(c:(assignEach E X.env).findIdx? (·.1)=none:=by rfl):PG X (.Tuple E k pos) (j4 X.K n t):=by
 intro pins s σ H v u Q I r hw;obtain⟨a,xs,j,q,l,hw⟩:=hw;subst j;cases r;obtain⟨i,d,f,z⟩:=I.tuple q;refine assign_Tuple_tuple (I.ok.hd g) f (by simp[hn,<- l,d.length]) c λh' x=>?_
 have m:Inv X pins σ H { s with heap:=h' }:=I.kept (t':=s.toks) λb o e=>x b o (aJ (aH e)) e
 exact h pins _ σ H xs _ Q m (by simpa using d) hw
noncomputable def kq (to ti:TE)(t:QD):TG:=λv σ H Q=>to σ H λo H1=>ti σ H1 λi a=>t o i v a λh=>Q σ h
def C6 {o i:Expr}{to ti:TE}{t:QD}(f:PE X o to)(hi:PE X i ti)(e:KU X t)
  (g:∀v,assign (.Subscript o i pos) X.env v=(do
   let ov <- holding [v] (eval o X.env)
   let iv <- holding [v,ov] (eval i X.env)
   standAt pos
   holding [v,ov,iv] (setItem ov iv v)
   release [v,ov,iv] []):=by intro _;rfl):PG X (.Subscript o i pos) (kq to ti t):=by
 intro pins s σ H v u Q I r h;rw[g];refine b4 (wpAny_holding (zV (f pins s σ H _ I h) λov s1 ⟨x,H1,m,b,d⟩=>?_));refine b4 (wpAny_holding (zV (hi pins s1 σ H1 _ m d) λiv s2 ⟨y,p,l,a,c⟩=>?_));refine b4 (wpAny_standAt (b4 (wpAny_holding (zV (e pins s2 σ p x y v ov iv u _ l b a r c) λ_ s3 ⟨n,j,q⟩=>?_))));exact wpAny_release ⟨σ,n,j,q⟩
noncomputable def KW (t:TE)(g:TG):TS:=λD σ H=>t σ H λx H1=>g x σ H1 D.nx
def RL {t:TE}{g:TG}(he:PE X e t)(b:PG X tg g)(a:swapsWithSole [tg] e pos.line X.env=pure false:=by rfl)(hw:swappedStores [tg] e X.env=pure none:=by rfl)
  (c:(assignEach [tg] X.env).map (·.2)=[assign tg X.env]:=by rfl):PS X (.Assign [tg] e pos) (KW t g):=by
 intro pins s σ H D I h;refine wpAny_Assign_stores (zV (he pins s σ H _ I h) λv s1 ⟨x,H1,i,r,Q⟩=>?_) a hw;rw[c];exact zV (b pins s1 σ H1 x v _ i r Q) λ_ s2 q=>q
def C4 {t:TE}{pos':Pos}(c:X.N.Nodup)(hi:X.N[i]? =some x)(a:Loc X.env.scope x)(he:PE X e t)(b:swapsWith e (some (.Name x pos')) pos.line X.env=pure false:=by rfl)(hf:X.fn x=true∨X.env.scope.names.lookup x=some .local:=by first|exact .inl rfl|exact .inr rfl|assumption):
  PS X (.Assign [.Name x pos'] e pos) (KW t (KA i)):=by
 intro pins s σ H D I h;refine wpAny_Assign_Name (zV (he pins s σ H _ I h) λv s1 ⟨y,H1,f,r,q⟩=>?_) b;exact So f c hi a r (λs2 d=>⟨_,H1,d,q⟩) hf
noncomputable def AF (to ti e:TE)(T:V->V->Hp->VK->Prop)(p:Wl)(t:QD):TS:=λD σ H=>to σ H λo H1=>ti σ H1 λi d=>T o i d λx c=>e σ c λy b=>p x y b λz a=>t o i z a λh=>D.nx σ h
def PZ (X:Cx)(t:V->V->Hp->VK->Prop):Prop:=
 ∀(pins:bR)(s:Shared)(σ:St)(H:Hp)(o i:V)(v I:Value)(Q:VK),Inv X pins σ H s->RelV o v->RelV i I->t o i H Q->
  wpAny (model X.prog X.w) X.A (getItem v I) (EP X pins σ Q) X.xe s
def FQ {o i:Expr}{to ti c:TE}{T:V->V->Hp->VK->Prop}{p:Wl}{t:QD}{op:Operator}(y:PE X o to)(hi:PE X i ti)(z:PZ X T)(he:PE X e c)(x:Ow X op p)(w:KU X t)
  (A:∀a b new,augStore i a b new=(do holding [new,a,b] (setItem a b new);release [new,a,b] [];pure .next):=by intros;rfl):PS X (.AugAssign (.Subscript o i tpos) op e pos) (AF to ti c T p t):=by
 intro pins s σ H D I h;refine wpAny_AugAssign_SubscriptAny (zV (y pins s σ H _ I h) λa s1 ⟨x1,H1,L,d,u⟩=>?_) A;refine zV (hi pins s1 σ H1 _ L u) λb s2 ⟨x2,U,K,r,n⟩=>?_;refine zV (z pins s2 σ U x1 x2 a b _ K d r n) λold s3 ⟨x3,S,J,j,m⟩=>?_;refine zV (he pins s3 σ S _ J m) λv s4 ⟨x4,P,E,g,l⟩=>?_;refine zV (x pins s4 σ P x3 x4 old v _ E j g l) λnew s5 ⟨x5,N,C,f,Q⟩=>?_;exact zV (w pins s5 σ N x1 x2 x5 a b new _ C d r f Q) λ_ Y ⟨M,B,q⟩=>⟨σ,M,B,q⟩
noncomputable def cw (f:Int->Int->Int):Wl:=λx y H Q=>∃i j,x=.int i/\y=.int j/\Q (.int (f i j)) H
def DA:Ow X .Add (cw λi j=>i+j):=by
 intro pins s σ H x y v u Q I a r h;obtain⟨i,j,E,e,q⟩:=h;subst E;subst e;obtain⟨t,rfl⟩:=a;obtain⟨t',rfl⟩:=r;exact iadd_int ⟨.int _,H,I.tok _,⟨_,rfl⟩,q⟩
def DU (c:TT)(t:TS):TS:=λD σ H=>∃W:Nat->St->Hp->Prop,(∃m,W m σ H)/\∀m σ H,W m σ H->
 c σ H λb H1=>if b=true then ∃N:St->Hp->Prop,(∀a h,N a h->∃m',m'<m/\W m' a h)/\t { D with nx:=N,ct:=N,bk:=D.nx } σ H1 else D.nx σ H1
def Ff {c:Expr}{t:TT}{T:TS}(p:PassesOwn (model X.prog X.w) X.A X.env X.xe)(z:PT X c t)(B:yF X body T):PS X (.While c body [] pos) (DU t T):=by
 intro pins s σ H D I h;obtain⟨W,⟨m0,y⟩,turn⟩:=h;refine wpAny_While (codeAny_whileLoop (λn S=>∃e u,Inv X pins e u S/\W n e u) ?_ m0 ⟨σ,H,I,y⟩)
 rintro n s1 ⟨d,H1,C,x⟩
 refine wpAny_passesOwn p (zV (z pins s1 d H1 _ C (turn n d H1 x)) λb s2 ⟨r,o,Q⟩=>?_);cases b with
 |true=>
  obtain⟨N,m,Q⟩:=Q;rw[ah rfl];refine wpAny_passesOwn p (zV (B pins s2 d r _ o Q) λf s3 q=>?_);cases f with
  |next=>
   obtain⟨a,g,l,j⟩:=q;obtain⟨m',hm,i⟩:=m a g j;exact⟨m',hm,a,g,l,i⟩
  |cont=>
   obtain⟨a,g,l,j⟩:=q;obtain⟨m',hm,i⟩:=m a g j;exact⟨m',hm,a,g,l,i⟩
  |brk=>exact q|ret v=>exact q
 |false=>
  rw[aq ax];exact wpAny_execs_nil ⟨d,r,o,Q⟩
end
structure It where
 go:Nat->Hp->Prop
 yld:Nat->Hp->V->Hp->Prop
 stop:Nat->Hp->Prop
def ku (X:Cx)(pins:bR)(H:Hp)(b:Addr):Prop:=
 H b=none/\b≠X.env.locals/\b∉X.fs/\(b∈X.ex∨X.s0.heap.objs.size<=b)/\(∀x c,X.env.cells.lookup x=some c->c≠b)/\∀p∈X.pn++pins,p.1≠b
def Inv.fpOk {X:Cx}{σ:St}{H a:Hp}(I:Inv X pins σ H s)(h:s.heap.objs.size<=b)(hn:a b=none):ku X pins a b:=by
 refine⟨hn,bj (aI I.lt h),I.nofs h,.inr (bf I.sz h),λx c e z=>?_,λp d z=>?_⟩
 ·obtain⟨v,q⟩:=I.cell x c e
  exact absurd (aI q.lt (by rw[z];exact h)) (aW _)
 ·exact absurd (aI (aH (I.pin p d).1) (by rw[z];exact h)) (aW _)
structure Turn (P:Program)(w:World)(K:Frag)(tg:Expr)(J:It)(fp:bQ)(it:Addr)(tn:Nat->Heap->Prop):Prop where
 mem:it∈fp
 obj:∀i h,tn i h->∀b∈fp,∃o,h.get? b=some o/\∀v,o.data≠.cell v
 keep:∀i h h',tn i h->(∀b∈fp,∀o,h.get? b=some o->h'.get? b=some o)->tn i h'
 item:∀(X:Cx),X.prog=P->X.w=w->X.K=K->X.calm=true->∀(i:Nat)(pins:bR)(s:Shared)(σ:St)(H:Hp)(E:bU),Inv X pins σ H s->(∀b∈fp,ku X pins H b)->tn i s.heap->J.go i H->
  wpAny (model P w) X.A (pyNext (.ref it)) (λr s1=>∃u,r=some u/\
   wpAny (model P w) X.A (letOwnedTupleGo tg (.ref it) u) (λ_ s2=>∃x H',Inv X pins σ H' s2/\RelV x u/\J.yld i H x H'/\tn (i+1) s2.heap/\∀b∈fp,H' b=none) E s1) E s
 done:∀(X:Cx),X.prog=P->X.w=w->X.K=K->X.calm=true->∀(i:Nat)(pins:bR)(s:Shared)(σ:St)(H:Hp)(E:bU),Inv X pins σ H s->(∀b∈fp,ku X pins H b)->tn i s.heap->J.stop i H->
  wpAny (model P w) X.A (pyNext (.ref it)) (λr s1=>r=none/\Inv X pins σ H s1) E s
 self:∀(A:Around)(i:Nat)(s:Shared)(Q:bU)(E:bU),tn i s.heap->Q (.ref it) s->wpAny (model P w) A (pyIter (.ref it)) Q E s
abbrev TI:=St->Hp->(It->Hp->Prop)->Prop
inductive Oj (X:Cx)(pins:bR)(σ:St)(tg:Expr)(R:It->Hp->Prop)(itv:Value)(s2:Shared):Prop
 |mk (it:Addr) (fp:bQ) (tn:Nat->Heap->Prop) (J:It) (H':Hp) (e:itv=.ref it) (I:Inv X pins σ H' s2) (T:Turn X.prog X.w X.K tg J fp it tn) (t0:tn 0 s2.heap) (f:(∀b∈fp,ku X pins H' b)) (q:R J H')
def PI (X:Cx)(t iter:Expr)(i:TI):Prop:=
 ∀(pins:bR)(s:Shared)(σ:St)(H:Hp)(R:It->Hp->Prop),Inv X pins σ H s->i σ H R->
  wpAny (model X.prog X.w) X.A (eval iter X.env) (λv s1=>wpAny (model X.prog X.w) X.A (pyIter v) (Oj X pins σ t R) X.xe s1) X.xe s
def Xv {M:Model}{A:Around}{it:Addr}{o:Obj}{n:String}{vs:Array Value}{Q:Unit->Shared->Prop}(a:s.heap.get? it=some o)(c:o.cls=.type n)(hd:o.data=.fields vs)
  (hn:["enumerate","zip","dict_itemiterator","dict_reverseitemiterator","odict_iterator","itertools.zip_longest","itertools.pairwise"].contains n=false)(H:Q () s):wpAny M A (letOwnedTupleGo tg (.ref it) u) Q E s:=by
 unfold letOwnedTupleGo;cases tg<;>first
  |exact b5 H
  |(cases u<;>first
    |exact b5 H
    |(
      refine b4 (wpAny_load a ?_);rw[c,hd];show wpAny M A (if (["enumerate","zip","dict_itemiterator","dict_reverseitemiterator","odict_iterator","itertools.zip_longest","itertools.pairwise"].contains n&&vs[0]?==some (rawInt _))=true then _ else _) Q E s;rw[aq (by intro h;rw[hn,Bool.false_and]at h;cases h)]
      exact b5 H))
noncomputable def Oh (K:Frag)(a:Addr):It:=
 ⟨λi H=>∃xs x,qM K H a xs/\xs[i]? =some x,λi H x h=>h=H/\∀xs,qM K H a xs->xs[i]? =some x,λi H=>∃xs,qM K H a xs/\xs.length<=i⟩
noncomputable def Od (K:Frag)(a:Addr):It:=
 ⟨λi H=>∃xs x,qE K H a xs/\xs[i]? =some x,λi H x h=>h=H/\∀xs,qE K H a xs->xs[i]? =some x,λi H=>∃xs,qE K H a xs/\xs.length<=i⟩
noncomputable def Yt (lo:Int)(n:Nat):It:=⟨λi _=>i<n,λi H x h=>h=H/\x=.int (lo+i),λi _=>n<=i⟩
def Im {K:Frag}(a it:Addr):Turn P w K tg (Oh K a) [it] it (λi h=>h.IsListIter it a i) where
 mem:=by simp
 obj:=λi h st b f=>by
  have e:b=it:=by simpa using f
  subst e;obtain⟨o,e,c,d⟩:=st;exact⟨o,e,λv z=>by rw[d]at z;cases z⟩
 keep:=λi h h' st k=>st.at λo e=>k it (by simp) o e
 item:=by
  intro X m hw n A i pins s σ H E I hf st l;subst m hw n;obtain⟨xs,x,q,j⟩:=l;obtain⟨g,r,p,D⟩:=I.list q;obtain⟨u,L,C⟩:=r.get j;obtain⟨f0,f1,f2,y,f4,t⟩:=hf it (by simp)
  refine wpAny_pyNext_list_item st p.isList (x:=u) (by simpa using L) λh' S B=>?_
  have N:Inv X pins σ H { s with heap:=h' }:=I.turned (t':=s.toks) (λb o f e=>(B.2 b f).trans e) f0 f1 y f4 t
  obtain⟨o,e,c,d⟩:=id S;exact⟨u,rfl,Xv (s:={ s with heap:=h' }) e c d (by decide) ⟨x,H,N,C,⟨rfl,λY J=>by rw[I.list_inj J q];exact j⟩,S,λb f=>(hf b f).1⟩⟩
 done:=by
  intro X m hw n A i pins s σ H E I hf st l;subst m hw n;obtain⟨xs,q,j⟩:=l;obtain⟨g,r,p,D⟩:=I.list q;obtain⟨f0,f1,f2,y,f4,t⟩:=hf it (by simp)
  have Q:=r.length;exact wpAny_pyNext_list_end (I.ok.hd A) st p.isList (by simp;omega) λh' M=>⟨rfl,I.turned (t':=s.toks) (λb o f e=>M b o f e) f0 f1 y f4 t⟩
 self:=λ_ _ _ _ _ st h=>wpAny_pyIter_listiter st h
def MB {K:Frag}(a it:Addr):Turn P w K tg (Od K a) [it] it (λi h=>h.IsTupleIter it a i) where
 mem:=by simp
 obj:=λi h st b g=>by
  have e:b=it:=by simpa using g
  subst e;obtain⟨o,e,c,d⟩:=st;exact⟨o,e,λv z=>by rw[d]at z;cases z⟩
 keep:=λi h h' st k=>st.at λo e=>k it (by simp) o e
 item:=by
  intro X m hw n A i pins s σ H E I hf st l;subst m hw n;obtain⟨xs,x,q,j⟩:=l;obtain⟨f,r,p,D⟩:=I.tuple q;obtain⟨u,L,C⟩:=r.get j;obtain⟨f0,f1,f2,y,f4,t⟩:=hf it (by simp)
  refine wpAny_pyNext_tuple_item st (show s.heap.IsTuple a f.toArray from p) (x:=u) (by simpa using L) λh' S B=>?_
  have N:Inv X pins σ H { s with heap:=h' }:=I.turned (t':=s.toks) (λb o g e=>(B.2 b g).trans e) f0 f1 y f4 t
  obtain⟨o,e,c,d⟩:=id S;exact⟨u,rfl,Xv (s:={ s with heap:=h' }) e c d (by decide) ⟨x,H,N,C,⟨rfl,λY J=>by rw[I.tuple_inj J q];exact j⟩,S,λb g=>(hf b g).1⟩⟩
 done:=by
  intro X m hw n A i pins s σ H E I hf st l;subst m hw n;obtain⟨xs,q,j⟩:=l;obtain⟨f,r,p,D⟩:=I.tuple q;obtain⟨f0,f1,f2,y,f4,t⟩:=hf it (by simp)
  have Q:=r.length;exact wpAny_pyNext_tuple_end (I.ok.hd A) st (show s.heap.IsTuple a f.toArray from p) (by simp;omega) λh' M=>⟨rfl,I.turned (t':=s.toks) (λb o g e=>M b o g e) f0 f1 y f4 t⟩
 self:=λ_ _ _ _ _ st h=>wpAny_pyIter_tupleiter st h
def Lg {K:Frag}(it:Addr)(lo:Int)(n:Nat):Turn P w K tg (Yt lo n) [it] it (λi h=>IsRangeIter h it (lo+(i:Nat) * 1) ((n:Int)-(i:Nat)) 1) where
 mem:=by simp
 obj:=λi h st b a=>by
  have e:b=it:=by simpa using a
  subst e;exact⟨_,st,λv z=>by
   have Z:Data.fields _=Data.cell v:=z;cases Z⟩
 keep:=λi h h' st k=>k it (by simp) _ st
 item:=by
  intro X d hw f c i pins s σ H E I hf st g;subst d hw f;obtain⟨f0,f1,f2,l,f4,j⟩:=hf it (by simp)
  have W:=Walks.range (prog:=X.prog) (w:=X.w) (I.ok.hd c) it lo 1 n;refine W.item i s _ _ g st λv h' tk p S m=>?_;obtain⟨t,rfl⟩:=p;have r:Inv X pins σ H { s with heap:=h',toks:=tk }:=I.turned (λb o a e=>m b o (by simpa using a) e) f0 f1 l f4 j
  refine⟨_,rfl,Xv (s:={ s with heap:=h',toks:=tk }) (n := "range_iterator") S rfl rfl (by decide) ⟨.int (lo+i),H,r,⟨t,?_⟩,⟨rfl,rfl⟩,S,λb a=>(hf b a).1⟩⟩
  rw[Int.mul_one]
 done:=by
  intro X d hw f c i pins s σ H E I hf st g;subst d hw f;obtain⟨f0,f1,f2,l,f4,j⟩:=hf it (by simp)
  exact wpAny_pyNext_range_end (I.ok.hd c) st (by have:n<=i:=g;omega) λh' q=>⟨rfl,I.turned (t':=s.toks) (λb o a e=>q b o a e) f0 f1 l f4 j⟩
 self:=λ_ _ _ _ _ st h=>wpAny_pyIter_rangeiter st h
section
variable {X:Cx}
def TU {σ:St}{H:Hp}{R:It->Hp->Prop}{lo hi:Int}{t u v:Tok}{tk:Nat}(I:Inv X pins σ H s)(f:-(2 ^ 62)<=lo)(d:lo<2 ^ 62)(c:-(2 ^ 62)<=hi)(a:hi<2 ^ 62)
  (q:R (Yt lo (hi-lo).toNat) H):wpAny (model X.prog X.w) X.A (pyIter (.ref s.heap.objs.size)) (Oj X pins σ tg R) E { s with heap:=s.heap.push { cls:=.type "range",data:=.fields #[.int lo t,.int hi u,.int 1 v] },toks:=tk }:=by
 refine wpAny_pyIter_range (IsRange.new ..) (small_one f d c a) ?_;have i:Inv X pins σ H { s with heap:=s.heap.push { cls:=.type "range",data:=.fields #[.int lo t,.int hi u,.int 1 v] },toks:=tk }:=I.kept λb o e=>ae _ e
 refine⟨(s.heap.push { cls:=.type "range",data:=.fields #[.int lo t,.int hi u,.int 1 v] }).objs.size,[(s.heap.push { cls:=.type "range",data:=.fields #[.int lo t,.int hi u,.int 1 v] }).objs.size],_,_,H,rfl,
  i.kept (t':=tk) λb o e=>ae _ e,Lg _ lo (hi-lo).toNat,?_,λb h=>?_,q⟩
 ·have j:lo+((0:Nat):Int) * 1=lo:=by simp
  have g:(((hi-lo).toNat:Nat):Int)-((0:Nat):Int)=Builtin.Range.rangeSize lo hi 1:=by rw[rangeSize_one];split<;>omega
  show IsRangeIter _ _ (lo+((0:Nat):Int) * 1) ((((hi-lo).toNat:Nat):Int)-((0:Nat):Int)) 1;rw[j,g];exact ar _ rfl
 ·have e:b=(s.heap.push { cls:=.type "range",data:=.fields #[.int lo t,.int hi u,.int 1 v] }).objs.size:=by simpa using h
  subst e;exact i.fpOk (aj _) (i.hok.fresh (aj _))
def Bq (t:TA):TI:=λσ H R=>t σ H λvs H1=>∃j:Int,vs=[.int j]/\-(2 ^ 62)<=j/\j<2 ^ 62/\R (Yt 0 j.toNat) H1
def Bs (t:TA):TI:=λσ H R=>t σ H λvs H1=>∃i j:Int,vs=[.int i,.int j]/\(-(2 ^ 62)<=i/\i<2 ^ 62/\-(2 ^ 62)<=j/\j<2 ^ 62)/\R (Yt i (j-i).toNat) H1
def IL {a:Expr}{T:TA}(g:Gl X "range")(hm:X.mg "range"=none)(i:PA X [a] T)(f:starEach [a] X.env=[(false,eval a X.env)]:=by rfl):PI X tg (.Call (.Name "range" p) [a] [] pos) (Bq T):=by
 intro pins s σ H R I h;refine Call_ (gD I g hm boot_range (PyProof.Rows.callWith_type1 (zV (i pos pins s σ H _ I h) λus s1 ⟨vs,H1,l,c,Q⟩=>?_) f rfl));obtain⟨j,e,Q,d,q⟩:=Q;subst e;cases c with
 |cons r b=>
  cases b;obtain⟨t,rfl⟩:=r;exact call_range_1 (TU l (by omega) (by omega) Q d (by simpa using q))
def L8 {a b:Expr}{T:TA}(u:Gl X "range")(hm:X.mg "range"=none)(v:PA X [a,b] T)(o:starEach [a,b] X.env=[(false,eval a X.env),(false,eval b X.env)]:=by rfl)(c:starEach [b] X.env=[(false,eval b X.env)]:=by rfl):
  PI X tg (.Call (.Name "range" p) [a,b] [] pos) (Bs T):=by
 intro pins s σ H R I h;refine Call_ (gD I u hm boot_range (PyProof.Rows.callWith_type1 (zV (v pos pins s σ H _ I h) λus s1 ⟨vs,H1,w,f,Q⟩=>?_) (by rw[o,c]) (by rw[c];rfl)))
 obtain⟨i,j,e,⟨Q,n,m,l⟩,q⟩:=Q;subst e;cases f with
 |cons r d=>
  cases d with
  |cons g d=>
   cases d;obtain⟨t,rfl⟩:=r;obtain⟨t',rfl⟩:=g;exact call_range_2 (TU w Q n m l q)
def A6 (w:TI)(g:TG)(t:TS):TS:=λD σ H=>w σ H λJ H1=>∃W:Nat->Nat->St->Hp->Prop,(∃m,W 0 m σ H1)/\∀i m σ H,W i m σ H->
 (J.stop i H/\D.nx σ H)∨(J.go i H/\∃N:St->Hp->Prop,(∀a h,N a h->∃m',m'<m/\W (i+1) m' a h)/\∀x h,J.yld i H x h->g x σ h λb c=>t { D with nx:=N,ct:=N,bk:=D.nx } b c)
noncomputable def Yc (fp:bQ)(h:Heap):bR:=fp.filterMap λb=>(h.get? b).map λo=>(b,o)
def YT {o:Obj}(H:b∈fp)(e:h.get? b=some o):(b,o)∈Yc fp h:=List.mem_filterMap.mpr ⟨b,H,by rw[e];rfl⟩
def Lw {p:Addr×Obj}(H:p∈Yc fp h):p.1∈fp/\h.get? p.1=some p.2:=by
 obtain⟨b,a,e⟩:=List.mem_filterMap.mp H;cases q:h.get? b with
 |none=>rw[q]at e;cases e|some o=>
  rw[q]at e;have E:(b,o)=p:=aD e;subst E;exact⟨a,q⟩
def Inv.pinned {σ:St}{H:Hp}(I:Inv X pins σ H s)(hf:∀b∈fp,ku X pins H b)(c:∀b∈fp,∃o,s.heap.get? b=some o/\∀v,o.data≠.cell v):Inv X (pins++Yc fp s.heap) σ H s:=
 I.pins_of λp a=>(cf.mp a).elim (λz=>I.pin p (a3 _ z)) λz=>by
  obtain⟨h,e⟩:=Lw z;obtain⟨f0,f1,f2,_⟩:=hf p.1 h;obtain⟨o,E,d⟩:=c p.1 h;rw[e]at E;cases E;exact⟨e,f0,f1,f2,d⟩
def Inv.unpinned {P:bR}{σ:St}{H:Hp}(I:Inv X (pins++P) σ H s):Inv X pins σ H s:=I.pins_of λp h=>I.pin p (a3 _ (mem_append_left _ h))
def D4 {iter:Expr}{U:TI}{g:TG}{Z:TS}(z:PassesOwn (model X.prog X.w) X.A X.env X.xe)(hc:X.calm=true)(hi:PI X tg iter U)(hg:PG X tg g)(l:yF X body Z)
  (hs:∀x,foldedSetIterable iter X.env x=pure x:=by intro _;rfl):PS X (.For tg iter body [] pos) (A6 U g Z):=by
 intro pins s σ H D I h;refine wpAny_For (zV (hi pins s σ H _ I h) λv s1 h1=>zV h1 λitv s2 h2=>?_) hs;obtain⟨it,fp,Y,J,H2,e,I2,T,wK,f2,W,⟨m0,w0⟩,turn⟩:=h2;subst e;have S:∀{H':Hp},(∀b∈fp,H' b=none)->∀b∈fp,ku X pins H' b:=λhn b l=>⟨hn b l,(f2 b l).2⟩;refine codeAny_forLoop_any (λn s'=>∃i j H',Inv X pins j H' s'/\Y i s'.heap/\(∀b∈fp,H' b=none)/\W i n j H') ?_ m0 ⟨0,σ,H2,I2,wK,λb l=>(f2 b l).1,w0⟩
 rintro n s3 ⟨i,c,C,I3,gm,B,w3⟩
 rcases turn i n c C w3 with ⟨stop,qn⟩|⟨go,N,hN,step⟩
 ·refine wpAny_passesOwn z (zV (T.done X rfl rfl rfl hc i pins s3 c C X.xe I3 (S B) gm stop) λr s4 ⟨L,I4⟩=>?_)
  subst L;exact wpAny_execs_nil ⟨c,C,I4,qn⟩
 ·refine wpAny_passesOwn z (zV (T.item X rfl rfl rfl hc i pins s3 c C X.xe I3 (S B) gm go) λr s4 ⟨u,L,h4⟩=>?_)
  subst L;refine wpAny_passesOwn z (zV h4 λ_ s5 ⟨x,H5,I5,r5,y5,t,M⟩=>?_);have P:=I5.pinned (S M) (T.obj _ _ t);refine wpAny_passesOwn z (zV (hg _ s5 c H5 x u _ P r5 (step x H5 y5)) λ_ s6 ⟨E,H6,I6,q6⟩=>?_);refine wpAny_passesOwn z (zV (l _ s6 E H6 _ I6 q6) λf K Q=>?_);have again:∀{a:St}{q:Hp},Inv X (pins++Yc fp s5.heap) a q K->N a q->∃m,m<n/\∃i j H',Inv X pins j H' K/\Y i K.heap/\(∀b∈fp,H' b=none)/\W i m j H':=λ {a q} p y=>by
   obtain⟨m',hm,w7⟩:=hN a q y;refine⟨m',hm,i+1,a,q,p.unpinned,T.keep _ _ _ t λb l o e=>(p.pin (b,o) (a3 _ (a3 _ (YT l e)))).1,λb l=>?_,w7⟩;obtain⟨o,e,d⟩:=T.obj _ _ t b l;exact(p.pin (b,o) (a3 _ (a3 _ (YT l e)))).2.1
  cases f with
  |next=>obtain⟨a,q,p,y⟩:=Q;exact again p y|cont=>obtain⟨a,q,p,y⟩:=Q;exact again p y|brk=>obtain⟨a,q,p,Q⟩:=Q;exact⟨a,q,p.unpinned,Q⟩|ret v=>obtain⟨x7,a,q,p,r7,Q⟩:=Q;exact⟨x7,a,q,p.unpinned,r7,Q⟩
end
abbrev R2:=V->V->Hp->VK->Prop
def qN (X:Cx)(f:Value->Value->Sem Value)(r:R2):Prop:=
 ∀(pins:bR)(s:Shared)(σ:St)(H:Hp)(x y:V)(v u:Value)(Q:VK),Inv X pins σ H s->RelV x v->RelV y u->r x y H Q->
  wpAny (model X.prog X.w) X.A (f v u) (EP X pins σ Q) X.xe s
def Wb (X:Cx)(f:Value->Sem Value)(r:V->Hp->VK->Prop):Prop:=
 ∀(pins:bR)(s:Shared)(σ:St)(H:Hp)(x:V)(v:Value)(Q:VK),Inv X pins σ H s->RelV x v->r x H Q->
  wpAny (model X.prog X.w) X.A (f v) (EP X pins σ Q) X.xe s
def jU (X:Cx)(f:Value)(r:List V->Hp->VK->Prop):Prop:=
 ∀(pins:bR)(s:Shared)(σ:St)(H:Hp)(xs:List V)(us:bP)(Q:VK),Inv X pins σ H s->Vals xs us->r xs H Q->
  wpAny (model X.prog X.w) X.A (call f us) (EP X pins σ Q) X.xe s
def AN (X:Cx)(r:V->Hp->(Bool->Hp->Prop)->Prop):Prop:=
 ∀(pins:bR)(s:Shared)(σ:St)(H:Hp)(x:V)(v:Value)(Q:Bool->Hp->Prop),Inv X pins σ H s->RelV x v->r x H Q->
  wpAny (model X.prog X.w) X.A (truthy v) (TP X pins σ Q) X.xe s
noncomputable def Yp (r:R2)(T t:TE):TE:=λσ H Q=>T σ H λx H1=>t σ H1 λy h=>r x y h Q
noncomputable def Ot (r:V->Hp->VK->Prop)(t:TE):TE:=λσ H Q=>t σ H λx H1=>r x H1 Q
noncomputable def rI (C:Int->Int->Prop)(g:Int->Int->V):R2:=λx y H Q=>∃i j,x=.int i/\y=.int j/\C i j/\Q (g i j) H
noncomputable def gq (g:Int->Int->V):R2:=λx y H Q=>∃i j,x=.int i/\y=.int j/\Q (g i j) H
noncomputable def rU (g:Int->V):V->Hp->VK->Prop:=λx H Q=>∃i,x=.int i/\Q (g i) H
section
variable {X:Cx}{a b:Expr}{ta tb:TE}
def XN (j:PE X a ta)(i:PE X b tb){σ:St}{H:Hp}{R:V->V->Hp->Prop}(I:Inv X pins σ H s)
  (h:ta σ H λx H1=>tb σ H1 λy c=>R x y c)
  (hf:∀v u s2 x y c,Inv X pins σ c s2->RelV x v->RelV y u->R x y c->wpAny (model X.prog X.w) X.A (f v u) Q X.xe s2):
  wpAny (model X.prog X.w) X.A (eval a X.env) (λv d=>wpAny (model X.prog X.w) X.A (eval b X.env) (λu S=>wpAny (model X.prog X.w) X.A (f v u) Q X.xe S) X.xe d) X.xe s:=by
 refine zV (j pins s σ H _ I h) λv s1 ⟨x,H1,m,e,g⟩=>?_;refine zV (i pins s1 σ H1 _ m g) λu s2 ⟨y,c,l,r,q⟩=>?_;exact hf v u s2 x y c l e r q
def Av {op:Operator}{r:R2}(o:qN X (binaryOp op) r)(f:PE X a ta)(e:PE X b tb):PE X (.BinOp a op b pos) (Yp r ta tb):=by
 intro pins s σ H Q I h;exact wpAny_BinOp (XN f e I h λv u s2 x y g i d c q=>o pins s2 σ g x y v u Q i d c q)
def BU {op:UnaryOp}{r:V->Hp->VK->Prop}(o:Wb X (unaryOp op) r)(c:PE X a ta):PE X (.UnaryOp op a pos) (Ot r ta):=by
 intro pins s σ H Q I h;exact UnaryOp_ (zV (c pins s σ H _ I h) λv s1 ⟨x,H1,i,b,q⟩=>o pins s1 σ H1 x v Q i b q)
def Wk {C:Int->Int->Prop}{g:Int->Int->Int}
  (rule:∀(i j:Int)(t u:Tok)(s:Shared)(Q:bU)(E:bU),C i j->Q (.int (g i j) s.toks) { s with toks:=s.toks+1 }->wpAny (model X.prog X.w) X.A (f (.int i t) (.int j u)) Q E s):
  qN X f (rI C λi j=>.int (g i j)):=by
 intro pins s σ H x y v u Q I a r h;obtain⟨i,j,rfl,rfl,c,q⟩:=h;obtain⟨t,rfl⟩:=a;obtain⟨t',rfl⟩:=r;exact rule i j t t' s _ _ c ⟨.int (g i j),H,I.tok _,⟨_,rfl⟩,q⟩
def XX {g:Int->Int->Int}
  (rule:∀(i j:Int)(t u:Tok)(s:Shared)(Q:bU)(E:bU),Q (.int (g i j) s.toks) { s with toks:=s.toks+1 }->wpAny (model X.prog X.w) X.A (f (.int i t) (.int j u)) Q E s):
  qN X f (gq λi j=>.int (g i j)):=by
 intro pins s σ H x y v u Q I a r h;obtain⟨i,j,rfl,rfl,q⟩:=h;obtain⟨t,rfl⟩:=a;obtain⟨t',rfl⟩:=r;exact rule i j t t' s _ _ ⟨.int (g i j),H,I.tok _,⟨_,rfl⟩,q⟩
def KQ {g:Int->Int->Bool}
  (rule:∀(i j:Int)(t u:Tok)(s:Shared)(Q:bU)(E:bU),Q (.bool (g i j)) s->wpAny (model X.prog X.w) X.A (f (.int i t) (.int j u)) Q E s):
  qN X f (gq λi j=>.bl (g i j)):=by
 intro pins s σ H x y v u Q I a r h;obtain⟨i,j,rfl,rfl,q⟩:=h;obtain⟨t,rfl⟩:=a;obtain⟨t',rfl⟩:=r;exact rule i j t t' s _ _ ⟨.bl (g i j),H,I,rfl,q⟩
def P4 (i j:Int):Prop:=0<=j/\j<=1000000/\i.natAbs<2 ^ 64
def Yj (i j:Int):Prop:=(-(2 ^ 64)<i/\i<2 ^ 64)∨(-(2 ^ 64)<j/\j<2 ^ 64)
def Yj.ok {i j:Int}(h:Yj i j):IntMulOk i j:=by
 rcases h with ⟨a,H⟩|⟨a,H⟩
 ·exact .of_left (intBits_le_64 a H)
 ·exact .of_right (intBits_le_64 a H)
def Cd:qN X (binaryOp .Add) (gq λi j=>.int (i+j)):=XX λ_ _ _ _ _ _ _ q=>add_int q
def CV:qN X (binaryOp .Sub) (gq λi j=>.int (i-j)):=XX λ_ _ _ _ _ _ _ q=>sub_int q
def DG:qN X (binaryOp .Mult) (rI Yj λi j=>.int (i * j)):=Wk λ_ _ _ _ _ _ _ h q=>mul_int q h.ok
def DJ:qN X (binaryOp .Mod) (rI (λ_ j=>0<j) λi j=>.int (i%j)):=Wk λi j _ _ _ _ _ h q=>by
 have H:(0:Int)<j:=h;exact mod_int' (by omega) (by rw[Int.fmod_eq_emod_of_nonneg i (by omega)];exact q)
def CW:qN X (binaryOp .Pow) (rI P4 λi j=>.int (i ^ j.toNat)):=Wk λ_ _ _ _ _ _ _ h q=>pow_int_small h.1 h.2.1 h.2.2 q
def CS:qN X (binaryOp .BitXor) (gq λi j=>.int (Builtin.bitXor i j)):=XX λ_ _ _ _ _ _ _ q=>xor_int q
def cx {f:Value->Sem Value}{g:Int->Int}
  (rule:∀(i:Int)(t:Tok)(s:Shared)(Q:bU)(E:bU),Q (.int (g i) s.toks) { s with toks:=s.toks+1 }->wpAny (model X.prog X.w) X.A (f (.int i t)) Q E s):
  Wb X f (rU λi=>.int (g i)):=by
 intro pins s σ H x v Q I r h;obtain⟨i,rfl,q⟩:=h;obtain⟨t,rfl⟩:=r;exact rule i t s _ _ ⟨.int (g i),H,I.tok _,⟨_,rfl⟩,q⟩
def DB:Wb X (unaryOp .USub) (rU λi=>.int (-i)):=cx λ_ _ _ _ _ q=>neg_int q
variable {c:Expr}{tc:TE}
def R5 {σ:St}{H:Hp}{Q:VK}{k K:Bool}(I:Inv X pins σ H s)(q:Q (.bl k) H)(e:k=K):EP X pins σ Q (.bool K) s:=by
 subst e;exact⟨.bl k,H,I,rfl,q⟩
def AA:qN X (compareOp .Lt) (gq λi j=>.bl (decide (i<j))):=KQ λ_ _ _ _ _ _ _ q=>lt_int q
def BR:qN X (compareOp .LtE) (gq λi j=>.bl (decide (i<=j))):=KQ λ_ _ _ _ _ _ _ q=>le_int q
def Bn:qN X (compareOp .Gt) (gq λi j=>.bl (decide (j<i))):=KQ λ_ _ _ _ _ _ _ q=>gt_int q
def Bl:qN X (compareOp .GtE) (gq λi j=>.bl (decide (j<=i))):=KQ λ_ _ _ _ _ _ _ q=>ge_int q
def D1:qN X (compareOp .Is) (λx y H Q=>y=.non/\Q (.bl (decide (x=.non))) H):=by
 intro pins s σ H x y v u Q I r a h;obtain⟨rfl,q⟩:=h;cases a;refine is_none_gen (R5 I q ?_);cases x<;>first
  |(cases r;rfl)
  |(obtain⟨t,rfl⟩:=r;rfl)
def FO:qN X (compareOp .IsNot) (λx y H Q=>y=.non/\Q (.bl (!decide (x=.non))) H):=by
 intro pins s σ H x y v u Q I r a h;obtain⟨rfl,q⟩:=h;cases a;refine isnot_none_gen (R5 I q ?_);cases x<;>first
  |(cases r;rfl)
  |(obtain⟨t,rfl⟩:=r;rfl)
def qN.or {r c:R2}(h:qN X f r)(h':qN X f c):qN X f (λx y H Q=>r x y H Q∨c x y H Q):=by
 intro pins s σ H x y v u Q I b a q;rcases q with q|q
 ·exact h pins s σ H x y v u Q I b a q
 ·exact h' pins s σ H x y v u Q I b a q
def EI {r:R2}(o:qN X (compareOp op) r)(f:PE X a ta)(e:PE X b tb)(hm:behindInMarks op b=false):PE X (.Compare a [op] [b] pos) (Yp r ta tb):=by
 intro pins s σ H Q I h;exact wpAny_Compare1 (XN f e I h λv u s2 x y g i d c q=>o pins s2 σ g x y v u Q i d c q) hm
noncomputable def Pz (t:TE):TT:=λσ H Q=>t σ H λx h=>∃k,x=.bl k/\Q k h
def Eg {r:R2}(o:qN X (compareOp op) r)(m:PE X a ta)(l:PE X b tb)(hm:behindInMarks op b=false):PT X (.Compare a [op] [b] pos) (Pz (Yp r ta tb)):=by
 intro pins s σ H Q I h;refine wpAny_isTrue_Compare1 (zV (m pins s σ H _ I h) λv s1 ⟨x,H1,t,g,j⟩=>zV (l pins s1 σ H1 _ t j) λu s2 ⟨y,A,p,f,i⟩=>
  zV (o pins s2 σ A x y v u _ p g f i) λc s3 ⟨z,w,n,d,k,e,q⟩=>?_) hm
 subst e;cases d;exact wpAny_truthy_bool ⟨w,n,q⟩
noncomputable def G5 (r b:R2)(a T t:TE):TE:=λσ H Q=>a σ H λx H1=>T σ H1 λy d=>r x y d λz h=>∃k,z=.bl k/\
 (if k=true then t σ h λw c=>b y w c Q else Q (.bl false) h)
def HM {o:CmpOp}{r i:R2}(C:qN X (compareOp op) r)(f:qN X (compareOp o) i)(J:PE X a ta)(E:PE X b tb)(D:PE X c tc)
  (hm:lastMarks [op,o] [b,c]=false:=by with_unfolding_all rfl):PE X (.Compare a [op,o] [b,c] pos) (G5 r i ta tb tc):=by
 intro pins s σ H Q I h;refine Compare_chain (zV (J pins s σ H _ I h) λv s1 ⟨x,H1,M,p,B⟩=>chain_link (zV (E pins s1 σ H1 _ M B) λu s2 ⟨y,P,L,g,A⟩=>
  zV (C pins s2 σ P x y v u _ L p g A) λd s3 ⟨z,l,j,n,k,e,q⟩=>?_)) hm
 subst e;cases n;refine wpAny_truthy_bool ?_;cases k with
 |false=>exact ite_ff ⟨.bl false,l,j,rfl,q⟩|true=>exact ite_tt (chain_last (zV (D pins s3 σ l _ j q) λw s4 ⟨Z,N,K,m,t⟩=>f pins s4 σ N y Z u w Q K g m t))
def Hd {o:CmpOp}{r i:R2}(J:qN X (compareOp op) r)(f:qN X (compareOp o) i)(M:PE X a ta)(L:PE X b tb)(K:PE X c tc)
  (hm:lastMarks [op,o] [b,c]=false:=by with_unfolding_all rfl):PT X (.Compare a [op,o] [b,c] pos) (Pz (G5 r i ta tb tc)):=by
 intro pins s σ H Q I h;refine isTrue_chain (zV (M pins s σ H _ I h) λv s1 ⟨x,H1,Y,t,D⟩=>test_link (zV (L pins s1 σ H1 _ Y D) λu s2 ⟨y,H2,U,g,C⟩=>
  zV (J pins s2 σ H2 x y v u _ U t g C) λd s3 ⟨z,l,j,p,k,e,q⟩=>?_)) hm
 subst e;cases p;refine wpAny_truthy_bool ?_;cases k with
 |false=>
  obtain⟨k',P,E⟩:=q;cases P;exact ite_ff ⟨l,j,E⟩
 |true=>
  refine ite_tt (test_last (zV (K pins s3 σ l _ j q) λw s4 ⟨Z,H4,T,n,B⟩=>zV (f pins s4 σ H4 y Z u w _ T g n B) λd' s5 ⟨z2,H5,S,m,k2,N,A⟩=>?_));subst N;cases m;exact wpAny_truthy_bool ⟨H5,S,A⟩
def P2 (K:Frag)(x:V)(H:Hp)(k:Bool):Prop:=
 match x with
 |.non=>k=false|.bl b=>k=b|.int i=>k=(i != 0)|.str y=>y.length<=sizeLine/\k=((y.length:Int) != 0)|.byt y=>y.size<=sizeLine/\k=((y.size:Int) != 0)|.ref p=>(∃xs,qM K H p xs/\k = !xs.isEmpty)∨(∃xs,qE K H p xs/\k = !xs.isEmpty)∨∃kvs,H p=some (.dK kvs)/\k = !kvs.isEmpty|_=>False
def MV {κ:Type}{kvs:List (κ×V)}{vs:List (κ×Value)}(r:KV kvs vs):(!vs.isEmpty) = !kvs.isEmpty:=by
 cases r<;>rfl
def UI {xs:List V}(r:Vals xs its):(!its.toArray.isEmpty) = !xs.isEmpty:=by
 cases r<;>simp
def Qv:(sizeLine:Nat)<2 ^ 63:=by rw[sizeLine_eq];decide
def CU:AN X (λx H Q=>∃k,P2 X.K x H k/\Q k H):=by
 intro pins s σ H x v Q I a h;obtain⟨k,e,q⟩:=h;have j:=Qv;have g:sizeLine=16777216:=sizeLine_eq;cases x with
 |non=>
  cases a;have E:k=false:=e;subst E;exact truthy_none ⟨H,I,q⟩
 |bl b=>
  cases a;have E:k=b:=e;subst E;exact wpAny_truthy_bool ⟨H,I,q⟩
 |int i=>
  obtain⟨t,rfl⟩:=a;have E:k=(i != 0):=e;subst E;exact PySem.P.truthy_int ⟨H,I,q⟩
 |str y=>
  obtain⟨t,rfl⟩:=a;obtain⟨f,E⟩:y.length<=sizeLine/\k=((y.length:Int) != 0):=e;subst E;exact PySem.P.truthy_str (by omega) ⟨H,I.tok _,q⟩
 |byt y=>
  obtain⟨t,rfl⟩:=a;obtain⟨f,E⟩:y.size<=sizeLine/\k=((y.size:Int) != 0):=e;subst E;exact PySem.W.truthy_bytes (by omega) ⟨H,I.tok _,q⟩
 |ref p=>
  cases a;have E:(∃xs,qM X.K H p xs/\k = !xs.isEmpty)∨(∃xs,qE X.K H p xs/\k = !xs.isEmpty)∨∃kvs,H p=some (.dK kvs)/\k = !kvs.isEmpty:=e;rcases E with ⟨xs,c,E⟩|⟨xs,c,E⟩|⟨kvs,c,E⟩
  ·subst E
   obtain⟨d,r,l,z⟩:=I.list c;have hlen:=r.length;exact wpAny_truthy_list l.isList (by simp only[aA];omega) ⟨H,I.tok _,by rw[UI r];exact q⟩
  ·subst E
   obtain⟨d,r,l,z⟩:=I.tuple c;have hlen:=r.length;exact truthy_tuple l (by simp only[aA];omega) ⟨H,I.tok _,by rw[UI r];exact q⟩
  ·subst E
   obtain⟨z,S,vs,r,m⟩:kvs.length<=sizeLine/\(p==sysModules)=false/\∃vs,KV kvs vs/\s.heap.DictOf (yu X.prog X.w) p vs:=I.hok p _ c;have hlen:kvs.length=vs.length:=Paired.length r;exact wpAny_truthy_dict S m (by omega) ⟨H,I.tok _,by rw[MV r];exact q⟩
 |_=>exact(show False from e).elim
def Hh (c:PE X a ta)(he:∀whole,isTrue a X.env whole=(do let v <- whole;standAt a.pos;holding [v] (truthy v))):
  PT X a (λσ H Q=>ta σ H λx b=>∃k,P2 X.K x b k/\Q k b):=by
 intro pins s σ H Q I h;exact isTrue_plain (zV (c pins s σ H _ I h) λv s1 ⟨x,H1,i,r,q⟩=>CU pins s1 σ H1 x v Q i r q) (he _)
def vals1 {x:V}(r:Vals [x] us):∃u,us=[u]/\RelV x u:=by
 cases r with
 |cons b a=>cases a;exact⟨_,rfl,b⟩
def vals2 {x y:V}(r:Vals [x,y] us):∃u w,us=[u,w]/\RelV x u/\RelV y w:=by
 cases r with
 |cons d c=>
  cases c with
  |cons b a=>cases a;exact⟨_,_,rfl,d,b⟩
def Fj:jU X (.builtin "abs") (λxs H Q=>∃i,xs=[.int i]/\Q (.int (if i<0 then -i else i)) H):=by
 intro pins s σ H xs us Q I r h;obtain⟨i,rfl,q⟩:=h;obtain⟨u,rfl,t,rfl⟩:=vals1 r;exact call_abs_int λu tk=>⟨.int (if i<0 then -i else i),H,I.tok _,⟨_,rfl⟩,q⟩
def LS (c:X.calm=true):jU X (.builtin "max") (λxs H Q=>∃i j,xs=[.int i,.int j]/\Q (.int (if j > i then j else i)) H):=by
 intro pins s σ H xs us Q I r h;obtain⟨i,j,rfl,q⟩:=h;obtain⟨u,w,rfl,⟨t,rfl⟩,⟨t',rfl⟩⟩:=vals2 r;refine max_two_ints (I.ok.hd c) λh' tk k=>⟨_,H,I.kept k,?_,q⟩
 by_cases a:j > i
 ·rw[ah a,ah a];exact⟨_,rfl⟩
 ·rw[aq a,aq a];exact⟨_,rfl⟩
def IB (c:X.calm=true):jU X (.builtin "min") (λxs H Q=>∃i j,xs=[.int i,.int j]/\Q (.int (if j<i then j else i)) H):=by
 intro pins s σ H xs us Q I r h;obtain⟨i,j,rfl,q⟩:=h;obtain⟨u,w,rfl,⟨t,rfl⟩,⟨t',rfl⟩⟩:=vals2 r;refine min_two_ints (I.ok.hd c) λh' tk k=>⟨_,H,I.kept k,?_,q⟩
 by_cases a:j<i
 ·rw[ah a,ah a];exact⟨_,rfl⟩
 ·rw[aq a,aq a];exact⟨_,rfl⟩
def L4:jU X (.type "int") (λxs H Q=>(∃i,xs=[.int i]/\Q (.int i) H)∨∃k,xs=[.bl k]/\Q (.int (if k then 1 else 0)) H):=by
 intro pins s σ H xs us Q I r h;rcases h with ⟨i,rfl,q⟩|⟨k,rfl,q⟩
 ·obtain⟨u,rfl,t,rfl⟩:=vals1 r
  exact call_int_int ⟨.int i,H,I,⟨_,rfl⟩,q⟩
 ·obtain⟨u,rfl,a⟩:=vals1 r
  cases a;exact call_int_bool ⟨.int (if k then 1 else 0),H,I.tok _,⟨_,rfl⟩,q⟩
end
structure XU (h:Heap)(x dx C:Addr)(mA:bY):Prop where
 obj:h.get? x=some (instObj C dx)
 ns:h.Ns1 dx mA
 ne:dx≠x
def Ir {D:Addr}{m:bY}(n:h.Ns1 D m):∃d,h.get? D=some d/\∀name,lookIn name d=some (m name):=by
 obtain⟨o,E,p,c,hd,f,_,hm⟩:=n;refine⟨o,c,λname=>?_⟩;have e:=hm name;unfold nsFind findBy at e;rw[<- Array.find?_toList]at e;unfold lookIn;rw[hd];dsimp only
 split
 ·rename_i y q
  rw[q]at e;exact congrArg some e
 ·rename_i q
  rw[q]at e;have a:E.toList.any (·.refKey)=false:=by
   rw[List.any_eq_false];intro y b;obtain⟨z,t,H⟩:=f y (Array.mem_toList_iff.mp b);simp[DictEntry.refKey,H]
  have A:¬E.toList.any (·.refKey)=true:=by rw[a];exact ax
  rw[aq A];exact congrArg some e
def XU.look {x d C:Addr}{m:bY}(I:XU h x d C m):∃o,PySem.W.InstAt h x (instObj C d) C (some o)/\∀name,lookIn name o=some (m name):=
 let ⟨o,H,l⟩:=Ir I.ns
 ⟨o,⟨I.obj,rfl,rfl,H⟩,l⟩
def Zj.some_of {v:V}{o:Option Value}(r:Zj (some v) o):∃u,o=some u/\RelV v u:=by
 cases o with
 |none=>exact(show False from r).elim|some u=>exact⟨u,rfl,r⟩
section
variable {H:Hp}{C dx:Addr}{fs:List (Str×V)}
def EZ (hok:jB P w H h)(e:H a=some (.ins C dx fs)):∃m,XU h a dx C m/\(∀f,Zj (fs.lookup f) (m f))/\PySem.Within m (fs.map (·.1))/\fs.length<=1000/\H dx=some (.own a):=by
 obtain⟨d,z,ne,ob,m,n,r,q⟩:=(show jy P w H h a (.ins C dx fs) from hok a _ e)
 exact⟨m,⟨ob,n,ne⟩,r,q,z,d⟩
end
structure X3 (K:Frag)(C:Addr):Prop where
 pg:plainGet K C Str.empty=true
 hd:PySem.W.hasDictIn K C=true
 po:PySem.W.plainOver K C=true
 sa:findIn K (.ref C) "__setattr__"=some (some (.builtin "object.__setattr__"))
def X3.get {K:Frag}{C:Addr}(c:X3 K C)(f:Str):plainGet K C f=true:=c.pg
section
variable {X:Cx}{σ:St}{H:Hp}{A:Around}{c:Value}{b:Bool}
inductive wa (K:Frag)(H:Hp):V->Value->Prop where
 |non:wa K H .non (.type "NoneType")
 |bl (x:Bool):wa K H (.bl x) (.type "bool")
 |int (i:Int):wa K H (.int i) (.type "int")
 |str (x:Str):wa K H (.str x) (.type "str")
 |flt (x:UInt64):wa K H (.flt x) (.type "float")
 |lst {a:Addr} {xs:List V} (e:H a=some (.lst xs)):wa K H (.ref a) (.type "list")
 |frz {a:Addr} {o:Obj} {xs:List V} (e:H a=some (.frz o (.lst xs))):wa K H (.ref a) (.type "list")
 |tup {a:Addr} {xs:List V} (e:H a=some (.tup xs)):wa K H (.ref a) (.type "tuple")
 |dK {a:Addr} {kvs:List (Key×V)} (e:H a=some (.dK kvs)):wa K H (.ref a) (.type "dict")
 |dT {a:Addr} {kvs:List (List Key×V)} (e:H a=some (.dT kvs)):wa K H (.ref a) (.type "dict")
 |ins {a C dx:Addr} {fs:List (Str×V)} (e:H a=some (.ins C dx fs)) (cl:X3 K C) (ha:findIn K (.ref C) "__class__"=some (some (.builtin "object.__class__")))
   (hn:PySem.W.specialIn K (.builtin "object.__class__") "__get__"=some (some (.builtin "getset_descriptor.__get__"))) (htk:PySem.W.takesIn K (.builtin "object.__class__")=some true)
   (hm:mroIn K C (.type "object")=some true):wa K H (.ref a) (.ref C)
def LU {x:V}{t:Value}(I:Inv X pins σ H s)(r:RelV x u)(ty:wa X.K H x t)(e:kitOne X.K t c=some b)(h:∀tk,Q (.bool b) { s with toks:=tk }):
  wpAny (model X.prog X.w) A (call (.builtin "isinstance") [u,c]) Q E s:=by
 cases ty with
 |non=>cases (show u=Value.none from r);exact bF PySem.W.kitx_none I.kIn True.intro e (λz=>nomatch z) h
 |bl y=>cases (show u=Value.bool y from r);exact bF PySem.W.kitx_bool I.kIn True.intro e (λz=>nomatch z) h
 |int i=>obtain⟨t,q⟩:=(show ∃t,u=Value.int i t from r);cases q;exact bF PySem.W.kitx_int I.kIn True.intro e (λz=>nomatch z) h
 |str y=>obtain⟨t,q⟩:=(show ∃t,u=Value.str y t from r);cases q;exact bF PySem.W.kitx_str I.kIn True.intro e (λz=>nomatch z) h
 |flt y=>obtain⟨t,q⟩:=(show ∃t,u=Value.float y t from r);cases q;exact bF PySem.W.kitx_float I.kIn True.intro e (λz=>nomatch z) h
 |@lst a xs d=>
  cases (show u=Value.ref a from r)
  obtain⟨_,_,n,_,f⟩:=(show jy X.prog X.w H s.heap a (.lst xs) from I.hok a _ d)
  exact bF kitx_list I.kIn ⟨_,f,rfl⟩ e (λz=>nomatch z) h
 |@frz a ob xs d=>
  cases (show u=Value.ref a from r)
  obtain⟨_,_,_,n,_,f⟩:=(show jy X.prog X.w H s.heap a (.frz ob (.lst xs)) from I.hok a _ d)
  exact bF kitx_list I.kIn ⟨_,f,rfl⟩ e (λz=>nomatch z) h
 |@tup a xs d=>
  cases (show u=Value.ref a from r)
  obtain⟨_,_,_,p⟩:=(show jy X.prog X.w H s.heap a (.tup xs) from I.hok a _ d)
  obtain⟨o,f,g,_⟩:=p;exact bF kitx_tuple I.kIn ⟨o,f,g.1⟩ e (λz=>nomatch z) h
 |@dK a kvs d=>
  cases (show u=Value.ref a from r)
  obtain⟨_,_,vs,_,p⟩:=(show jy X.prog X.w H s.heap a (.dK kvs) from I.hok a _ d)
  obtain⟨o,m,v,f,g,_⟩:=p;exact bF kitx_dict I.kIn ⟨o,f,g.1⟩ e (λz=>nomatch z) h
 |@dT a kvs d=>
  cases (show u=Value.ref a from r)
  obtain⟨_,_,xs,_,o,m,v,f,g,_⟩:=(show jy X.prog X.w H s.heap a (.dT kvs) from I.hok a _ d)
  exact bF kitx_dict I.kIn ⟨o,f,g.1⟩ e (λz=>nomatch z) h
 |@ins a C dx fs d cl l hn j hm=>
  cases (show u=Value.ref a from r)
  obtain⟨M,O,_⟩:=EZ I.hok d;obtain⟨B,J,_⟩:=O.look;exact bF (PySem.W.kitx_own (cl.get _) cl.hd l hn j hm) I.kIn J e (λz=>nomatch z) h
end
structure jK (k:Nat)(A:Around):Prop where
 hd:A.handled=none
 dp:A.depth+3 * k+5<recursionLimit
 un:A.units+16 * k+200<cLine
def jK.mono {j k:Nat}{A:Around}(r:jK k A)(h:j<=k):jK j A:=⟨r.hd,by have:=r.dp;omega,by have:=r.un;omega⟩
theorem jK.deeper {k:Nat}{A:Around}(r:jK (k+1) A)(env:Env):jK k (A.deeper env):=
 ⟨r.hd,by have:=r.dp;show A.depth+1+3 * k+5<_;omega,by have:=r.un;show A.units+3+16 * k+200<_;omega⟩
theorem jK.depth {k:Nat}{A:Around}(r:jK k A):A.depth<recursionLimit:=by have:=r.dp;omega
theorem jK.units {k:Nat}{A:Around}(r:jK k A):A.units+64<cLine:=by have:=r.un;omega
noncomputable def PY:TA:=λ_ H Q=>Q [] H
noncomputable def Py (T:TE)(t:TA):TA:=λσ H Q=>T σ H λx H1=>t σ H1 λxs h=>Q (x::xs) h
section
variable {X:Cx}{es:bV}{te:TE}{t:TA}
def j0:PA X [] PY:=λ_ _ _ _ H Q I h=>Calls.spliced_nil ⟨[],H,I,.nil,h⟩
def jv (f:PE X e te)(d:PA X es t)(c:starEach (e::es) X.env=(false,eval e X.env)::starEach es X.env:=by rfl):PA X (e::es) (Py te t):=by
 intro pos pins s σ H Q I h;rw[c];show wpAny _ _ (spliced ((false,eval e X.env)::backTo pos (starEach es X.env))) _ _ s;refine Calls.spliced_cons (zV (f pins s σ H _ I h) λu s1 ⟨x,H1,g,a,b⟩=>?_);exact zV (d pos pins s1 σ H1 _ g b) λus s2 ⟨xs,j,i,r,q⟩=>⟨x::xs,j,i,.cons a r,q⟩
def AG (t:TA):TE:=λσ H Q=>t σ H λxs H1=>xs.length<=sizeLine/\∀p,H1 p=none->Q (.ref p) (upd H1 p (.tup xs))
def A7 (t:TA):TE:=λσ H Q=>t σ H λxs H1=>xs.length<=sizeLine/\∀p,H1 p=none->Q (.ref p) (upd H1 p (.lst xs))
def Cr {x1}(h:PA X es t):PE X (.Tuple es x1 pos) (AG t):=by
 intro pins s σ H Q I a;refine wpAny_Tuple_spliced (zV (h pos pins s σ H _ I a) λus s1 ⟨xs,H1,i,r,z,q⟩=>⟨by rw[<- r.length];exact z,?_⟩)
 have hf:H1 s1.heap.objs.size=none:=i.hok.fresh (aj _);refine⟨.ref s1.heap.objs.size,upd H1 s1.heap.objs.size (.tup xs),i.laid (t':=s1.toks) (λb u e=>ae _ e) (aj _) ?_,rfl,q _ hf⟩;exact⟨z,us,r,⟨_,ar _ rfl,⟨rfl,rfl⟩,_,rfl⟩⟩
def Cq (h:PA X es t):PE X (.List es pos) (A7 t):=by
 intro pins s σ H Q I a;refine wpAny_List_spliced (zV (h pos pins s σ H _ I a) λus s1 ⟨xs,H1,i,r,z,q⟩=>⟨by rw[<- r.length];exact z,?_⟩)
 have hf:H1 s1.heap.objs.size=none:=i.hok.fresh (aj _);refine⟨.ref s1.heap.objs.size,upd H1 s1.heap.objs.size (.lst xs),i.laid (t':=s1.toks) (λb u e=>ae _ e) (aj _) ?_,rfl,q _ hf⟩;exact⟨z,us,0,r,ar _ rfl⟩
end
abbrev Sp:=List V->Hp->VK->XK->Prop
abbrev wc:=List Env->Hp->Shared->XK->Value->Shared->Prop
structure KP (P:Program)(w:World)(K:Frag)(mg:bY)(base:Heap)(A:Around)(outer:bZ)(s:Shared)(H:Hp):Prop where
 frames:A.frames=some outer
 mod:Mod K mg base
 bs:∀b o,base.get? b=some o->s.heap.get? b=some o/\H b=none
 bsz:base.objs.size<=s.heap.objs.size
 funs:s.heap.FunFrames base outer
 frf:∀b∈gi outer,H b=none
 hok:jB P w H s.heap
 bare:AllBare s.gens
inductive CE (outer:bZ)(P:Program)(w:World)(H:Hp)(s:Shared)(Q:VK)(u:Value)(s':Shared):Prop
 |mk (v:V) (H':Hp) (os:s'.os=s.os) (b:AllBare s'.gens) (un:Un (gi outer) [] H H' s.heap s'.heap) (hk:jB P w H' s'.heap) (r:RelV v u) (q:Q v H')
def CR (CX:wc)(outer:bZ)(P:Program)(w:World)(H:Hp)(s:Shared)(Q:VK)(E:XK)(r:Result)(S:Shared):Prop:=
 match r with
 |.ok (.ret u)=>CE outer P w H s Q u S|.ok _=>False|.error e=>CX outer H s E e S
structure yC (P:Program)(w:World)(K:Frag)(mg:bY)(base:Heap)(CX:wc)(k:Nat)(f:Addr)(fd:FuncData)(ps:bT)(sp:Sp):Prop where
 len:∀vs H Q E,sp vs H Q E->vs.length=ps.length
 run:∀(A:Around)(outer:bZ)(s:Shared)(H:Hp)(args:Args)(us:bP)(vs:List V)(Q:VK)(E:XK),jK k A->KP P w K mg base A outer s H->BindsTo s fd args (ps.zip us)->Vals vs us->sp vs H Q E->
  codeAny (model P w) A (.call (.ref f) args) (CR CX outer P w H s Q E) s
theorem yC.mono {K:Frag}{CX:wc}{j k:Nat}{f:Addr}{sp:Sp}(F:yC P w K mg base CX j f fd ps sp)(h:j<=k):
  yC P w K mg base CX k f fd ps sp:=⟨F.len,λA outer s H args us vs Q E r=>F.run A outer s H args us vs Q E (r.mono h)⟩
def yC.imp {K:Frag}{CX:wc}{k:Nat}{f:Addr}{sp S:Sp}(F:yC P w K mg base CX k f fd ps sp)
  (h:∀vs H Q E,S vs H Q E->sp vs H Q E):yC P w K mg base CX k f fd ps S:=
 ⟨λvs H Q E q=>F.len vs H Q E (h _ _ _ _ q),λA outer s H args us vs Q E r he b v a=>F.run A outer s H args us vs Q E r he b v (h _ _ _ _ a)⟩
section
variable {X:Cx}{σ:St}{H:Hp}{s':Shared}
def Inv.env0 (I:Inv X pins σ H s):KP X.prog X.w X.K X.mg X.base X.A X.stack s H:=
 ⟨I.ok.frames,I.ok.mod,I.bs,bf I.ok.bsz I.sz,I.stack,I.stkFree,I.hok,I.bare⟩
def Inv.after {Q:VK}(I:Inv X pins σ H s)(h:CE X.stack X.prog X.w H s Q u s'):EP X pins σ Q u s':=by
 obtain⟨v,c,os,bare,un,hok,r,q⟩:=h;obtain⟨a,g,d,t,o⟩:=s';obtain rfl:o=s.os:=os;exact⟨v,c,I.call (h':=a) (g':=g) (d':=d) (t':=t) (ch:=[]) un hok bare (λb z=>absurd z (by simp)),r,q⟩
end
noncomputable def B7 (sp:Sp)(d:List V)(E:XK)(t:TA):TE:=λσ H Q=>t σ H λvs H1=>sp (vs++d) H1 Q E
def Binds (K:Frag)(fd:FuncData)(p:bT)(ds:bP):Prop:=
 ∀(s:Shared)(us:bP),K.In s.heap->(us++ds).length=p.length->BindsTo s fd ⟨us,[]⟩ (p.zip (us++ds))
def Binds.all {K:Frag}(h:∀us:bP,us.length=ps.length->bindArgs fd ⟨us,[]⟩=pure (ps.zip us)):Binds K fd ps []:=λs us _ H=>by
 rw[append_nil]at H ⊢;exact .of_eq (h us H)
def Passes (CX:wc)(X:Cx)(E:XK):Prop:=∀(pins:bR)(σ:St)(H:Hp)(s:Shared)(e:Value)(s':Shared),Inv X pins σ H s->CX X.stack H s E e s'->X.xe e s'
section
variable {X:Cx}{CX:wc}{k:Nat}{f:Addr}{sp:Sp}{dvs:List V}{ds:bP}{E:XK}{es:bV}{t:TA}
def Dz {σ:St}{H:Hp}{Q:VK}{vs:List V}(F:yC X.prog X.w X.K X.mg X.base CX k f fd ps sp)(b:jK k X.A)(c:Binds X.K fd ps ds)(hd:Vals dvs ds)(x:Passes CX X E)
  (I:Inv X pins σ H s)(r:Vals vs us)(h:sp (vs++dvs) H Q E):wpAny (model X.prog X.w) X.A (call (.ref f) us) (EP X pins σ Q) X.xe s:=by
 have a:Vals (vs++dvs) (us++ds):=r.append hd;have l:(us++ds).length=ps.length:=by rw[<- a.length];exact F.len _ _ _ _ h
 refine wpAny_call (codeAny_mono (F.run X.A X.stack s H ⟨us,[]⟩ (us++ds) (vs++dvs) Q E b I.env0 (c s us I.kIn l) a h) λr S q=>?_);cases r with
 |error e=>exact x pins σ H s e S I q|ok d=>
  cases d with
  |ret u=>exact I.after q|next=>exact False.elim q|brk=>exact False.elim q|cont=>exact False.elim q
def EE (F:yC X.prog X.w X.K X.mg X.base CX k f fd ps sp)(c:jK k X.A)(g:Gl X x)(hm:X.mg x=some (.ref f))(d:keepIn X.K (.ref f)=true)(j:Binds X.K fd ps ds)(hd:Vals dvs ds)(a:Passes CX X E)
  (m:PA X (e::es) t)(b:(x==("__debug__":Str))=false:=by decide)(he:starEach (e::es) X.env=(false,eval e X.env)::starEach es X.env:=by rfl)(l:(backTo pos (starEach es X.env)).any (·.1)=false:=by rfl):
  PE X (.Call (.Name x p) (e::es) [] pos) (B7 sp dvs E t):=by
 intro pins s σ H Q I h;refine wpAny_Call_Name_kw (Rl I g hm ?_ b);refine PySem.W.callWith_K (h₀:=X.base) I.ok.mod.kin d (zV (m pos pins s σ H _ I h) λus s1 ⟨vs,H1,i,r,q⟩=>⟨i.kIn,?_⟩) he l;exact Dz F c j hd a i r q
end
structure qI (N P:bT)(sc:Scope):Prop where
 kind:sc.kind=.function
 co:sc.isCoroutine=false
 gen:sc.isGenerator=false
 nd:N.Nodup
 pre:N.take P.length=P
 par:∀x∈P,sc.names.lookup x=some .local∨sc.names.lookup x=some .cell
 nofree:∀y∈sc.names,y.2≠.free
theorem TJ {kindOf:Str->Option NameKind}:∀{binds:List (Str×Value)}{m:bY},(∀v,(x,v)∉binds)->bindL kindOf binds m x=m x
 |[],_,_=>rfl|(n,v)::r,m,h=>by
  unfold bindL;rw[TJ λw hw=>h w (au _ hw)]
  split
  ·have:x≠n:=by rintro rfl;exact h v av
   simp[this]
  ·rfl
theorem TC {kindOf:Str->Option NameKind}:∀{binds:List (Str×Value)}{m:bY},(∀v,(x,v)∉binds)->bindC kindOf binds m x=m x
 |[],_,_=>rfl|(n,v)::r,m,h=>by
  unfold bindC;rw[TC λw hw=>h w (au _ hw)]
  split
  ·rfl
  ·have:x≠n:=by rintro rfl;exact h v av
   simp[this]
theorem Ti {kindOf:Str->Option NameKind}{v:Value}:∀{P:bT}{vs:bP}{i:Nat}{m:bY},P.Nodup->P[i]? =some x->vs[i]? =some v->kindOf x=some .local->
  bindL kindOf (P.zip vs) m x=some v
 |[],_,_,_,_,h,_,_=>by simp at h|_::_,[],_,_,_,_,h,_=>by simp at h|p::P,w::vs,0,m,nd,h1,H,a=>by
  simp at h1 H;subst h1;subst H;show bindL kindOf ((p,w)::P.zip vs) m p=_;unfold bindL;rw[TJ λv b=>(List.nodup_cons.mp nd).1 (of_mem_zip b).1,ah a];simp
 |p::P,w::vs,i+1,m,nd,h1,H,a=>by
  show bindL kindOf ((p,w)::P.zip vs) m x=_;unfold bindL;exact Ti (i:=i) (List.nodup_cons.mp nd).2 (by simpa using h1) (by simpa using H) a
theorem Tf {kindOf:Str->Option NameKind}{v:Value}:∀{P:bT}{vs:bP}{i:Nat}{m:bY},P.Nodup->P[i]? =some x->vs[i]? =some v->kindOf x≠some .local->
  bindC kindOf (P.zip vs) m x=some v
 |[],_,_,_,_,h,_,_=>by simp at h|_::_,[],_,_,_,_,h,_=>by simp at h|p::P,w::vs,0,m,nd,h1,H,a=>by
  simp at h1 H;subst h1;subst H;show bindC kindOf ((p,w)::P.zip vs) m p=_;unfold bindC;rw[TC λv b=>(List.nodup_cons.mp nd).1 (of_mem_zip b).1,aq a];simp
 |p::P,w::vs,i+1,m,nd,h1,H,a=>by
  show bindC kindOf ((p,w)::P.zip vs) m x=_;unfold bindC;exact Tf (i:=i) (List.nodup_cons.mp nd).2 (by simpa using h1) (by simpa using H) a
noncomputable def start (N:bT)(vs:List V):St:=vs.map some++List.replicate (N.length-vs.length) none
noncomputable def Z1 (CX:wc)(P:Program)(w:World)(K:Frag)(mg:bY)(base:Heap)(N:bT)(qual:Str)(scope:Scope)(f:Addr)(cd:Value)(A:Around)(outer:bZ)(s:Shared)(H:Hp)(E:XK):Cx where
 prog:=P
 w:=w
 K:=K
 mg:=mg
 base:=base
 A:=A.deeper (envOfC qual scope s.heap.objs.size f cd)
 N:=N
 s0:=s
 H0:=H
 env:=envOfC qual scope s.heap.objs.size f cd
 outer:=outer
 stack:=envOfC qual scope s.heap.objs.size f cd::outer
 ex:=[]
 calm:=true
 fn:=λ_=>true
 pn:=[]
 xe:=λe a=>wpAny (model P w) (A.deeper (envOfC qual scope s.heap.objs.size f cd)) (leaving (envOfC qual scope s.heap.objs.size f cd) e) (λ_ S=>CX outer H s E e S) (λb S=>CX outer H s E b S) a
def Sb (h:sc.names.lookup x=some .cell):∃c,(cellsFrom n sc.names []).lookup x=some c:=by
 have q:=cellsFrom_some sc.names n [] (.inl h);exact Option.isSome_iff_exists.mp q
def LF {CX:wc}{K:Frag}{qual:Str}{f:Addr}{cd:Value}{A:Around}{outer:bZ}{s1:Shared}{H:Hp}{E:XK}{vs:List V}
  (S:qI N ps scope)(hd:A.handled=none)(g:KP P w K mg base A outer s H)(L:vs.length=ps.length)(r:Vals vs us)
  (x:InCallC s s.heap.objs.size (bindL (envOfC qual scope s.heap.objs.size f cd).kindOf (ps.zip us) λ_=>none) (cellsFrom (s.heap.objs.size+1) scope.names []) (bindC (envOfC qual scope s.heap.objs.size f cd).kindOf (ps.zip us) λ_=>none) s1):
  Inv (Z1 CX P w K mg base N qual scope f cd A outer s H E) [] (start N vs) H s1:=by
 have I:ps.length<=N.length:=by have:=congrArg List.length S.pre;rw[a8]at this;omega
 obtain⟨t,tk,rfl,C⟩:=x.done;have j:∀b:Addr,b∉(Z1 CX P w K mg base N qual scope f cd A outer s H E).ex:=λb z=>absurd (show b∈([]:bQ) from z) (by simp)
 refine⟨⟨g.mod,S.kind,rfl,rfl,aj _,λy z c t d=>?_,λy l=>?_,λy c _ h=>?_,λ_=>hd,Around.frames_deeper g.frames,.inr ⟨rfl,rfl⟩,λb z=>absurd z (j b),g.bs,g.bsz,λb _ _=>j b,λb z=>absurd z (j b),g.funs,g.frf⟩,
  rfl,g.bare,Un.kept C,⟨_,x.toInCall.ns,λi y v t d M=>?_⟩,λy c h=>⟨_,x.cell y c h⟩,g.hok.fresh (aj _),λy c h=>?_,λp o=>absurd (show p∈([]:bR) from o) (by simp),g.hok.kept C,?_⟩
 ·exact name_of_addr x.apart (PySem.mem_of_lookup t) (PySem.mem_of_lookup d)
 ·have l:scope.names.lookup y=some .cell∨scope.names.lookup y=some .free:=l
  rcases l with l|l
  ·exact Sb l
  ·exact absurd rfl (S.nofree _ (PySem.mem_of_lookup l))
 ·exact bD (x.above y c (PySem.mem_of_lookup h))
 ·have hi:i<vs.length:=by
   unfold start at d
   by_cases hi:i<vs.length
   ·exact hi
   ·rw[az (by simpa using hi)]at d
    rw[List.getElem?_replicate]at d
    split at d<;>cases d
  have J:vs[i]? =some v:=by
   unfold start at d;rw[ai (by simpa using hi),ao]at d
   cases e:vs[i]? with
   |none=>rw[e]at d;cases d|some a=>rw[e]at d;cases d;rfl
  obtain⟨u,B,D⟩:=r.get J;have o:ps[i]? =some y:=by
   rw[<- S.pre,List.getElem?_take_of_lt (by omega)];exact t
  have m:ps.Nodup:=by rw[<- S.pre];exact S.nd.sublist (List.take_sublist _ _)
  refine⟨u,D,?_⟩;rcases S.par y (List.mem_of_getElem? o) with k|k
  ·exact .inl ⟨k,Ti m o B k⟩
  ·obtain⟨c,e⟩:=Sb (n:=s.heap.objs.size+1) k
   refine .inr ⟨.inl k,c,e,?_⟩;have q:=x.cell y c e;rw[Tf m o B (by show scope.names.lookup y≠_;rw[k];decide)]at q
   exact q
 ·exact g.hok.fresh (bD (x.above y c (PySem.mem_of_lookup h)))
 ·unfold start
  show _=N.length;rw[aw,af,length_replicate];omega
def BZ {CX:wc}{K:Frag}{k:Nat}{f:Addr}{name qual:Str}{params:Arguments}{D kV doc pm c ct L:Value}{an C:b2}
  {sp:Sp}(M:K.lookup f=some ⟨L,C,.func (fnOf name qual params body scope D kV doc pm an c ct),osl⟩)(B:codeIn K c qual=true)(S:qI N ps scope)
  (len:∀vs H Q E,sp vs H Q E->vs.length=ps.length)
  (g:∀(A:Around)(outer:bZ)(s:Shared)(H:Hp)(vs:List V)(Q:VK)(E:XK),jK k (A.deeper (envOfC qual scope s.heap.objs.size f c))->sp vs H Q E->
   ∃t,yF (Z1 CX P w K mg base N qual scope f c A outer s H E) body t/\t { nx:=λ_ h=>Q .non h,rt:=Q } (start N vs) H):
  yC P w K mg base CX (k+1) f (fnOf name qual params body scope D kV doc pm an c ct) ps sp:=by
 refine⟨len,λA outer s H args us vs Q E z j hb r p=>?_⟩;have Z:=len _ _ _ _ p;have X:K.In s.heap:=j.mod.kin.keeps λb o e=>(j.bs b o e).1;have lim:s.heap.NoLimit:=j.mod.nolimit.keeps λb o e=>(j.bs b o e).1;have d:∀y∈ps.zip us,scope.names.lookup y.1=some .local∨(scope.names.lookup y.1=some .cell/\((cellsFrom (s.heap.objs.size+1) scope.names []).lookup y.1).isSome=true):=λ⟨n,v⟩ T=>by
  rcases S.par n (of_mem_zip T).1 with q|q
  ·exact .inl q
  ·exact .inr ⟨q,cellsFrom_some _ _ _ (.inl q)⟩
 refine codeAny_call_function z.depth (X _ _ M) rfl S.co S.gen rfl (PySem.W.codeRec_of X B) (hb _ _ _ _ ?_);refine wpAny_newFunctionEnv_cells S.kind d λenv he s1 x=>?_;subst he;refine⟨lim.keeps x.toInCall.keep,codeAny_func ?_⟩;obtain⟨t,U,Y⟩:=g A outer s H vs Q E (z.deeper _) p;have I:Inv (Z1 CX P w K mg base N qual scope f c A outer s H E) [] (start N vs) H s1:=LF S z.hd j Z r x;refine wpAny_mono (U [] s1 (start N vs) H _ I Y) (λfl l i=>?_) λe l i=>i;have fin:∀{a:St}{h:Hp}{v:V}{u:Value},Inv (Z1 CX P w K mg base N qual scope f c A outer s H E) [] a h l->RelV v u->Q v h->CE outer P w H s Q u l:=
  λ {a h v u} J m q=>⟨v,h,J.os,J.bare,J.base,J.hok,m,q⟩
 cases fl with
 |ret u=>
  obtain⟨v,a,h,J,m,q⟩:=i;exact fin J m q
 |next=>
  obtain⟨a,h,J,q⟩:=i;exact fin (v:=V.non) (u:=Value.none) J rfl q
 |brk=>
  obtain⟨_,_,_,q⟩:=i;exact False.elim q
 |cont=>
  obtain⟨_,_,_,q⟩:=i;exact False.elim q
section
variable {X:Cx}{es:bV}{t:TA}{id T:String}{r:List V->Hp->VK->Prop}
noncomputable def Wi (r:List V->Hp->VK->Prop)(t:TA):TE:=λσ H Q=>t σ H λvs H1=>r vs H1 Q
def JS (c:jU X (.builtin id) r)(g:Gl X x)(hm:X.mg x=none)(v:bootBuiltins x=some (.builtin id))(d:PA X (e::es) t)(hn:x ≠ "__name__":=by decide)(b:(x==("__debug__":Str))=false:=by decide)
  (he:starEach (e::es) X.env=(false,eval e X.env)::starEach es X.env:=by rfl)(l:(backTo pos (starEach es X.env)).any (·.1)=false:=by rfl):PE X (.Call (.Name x p) (e::es) [] pos) (Wi r t):=by
 intro pins s σ H Q I h;refine wpAny_Call_Name_kw (gD I g hm v ?_ hn b);exact PyProof.Rows.callWith_builtin1 (zV (d pos pins s σ H _ I h) λus s1 ⟨vs,H1,i,a,q⟩=>c pins s1 σ H1 vs us Q i a q) he l
def Qe (c:jU X (.type T) r)(g:Gl X x)(hm:X.mg x=none)(v:bootBuiltins x=some (.type T))(d:PA X (e::es) t)(hn:x ≠ "__name__":=by decide)(b:(x==("__debug__":Str))=false:=by decide)
  (he:starEach (e::es) X.env=(false,eval e X.env)::starEach es X.env:=by rfl)(l:(backTo pos (starEach es X.env)).any (·.1)=false:=by rfl):PE X (.Call (.Name x p) (e::es) [] pos) (Wi r t):=by
 intro pins s σ H Q I h;refine wpAny_Call_Name_kw (gD I g hm v ?_ hn b);exact PyProof.Rows.callWith_type1 (zV (d pos pins s σ H _ I h) λus s1 ⟨vs,H1,i,a,q⟩=>c pins s1 σ H1 vs us Q i a q) he l
end
end L2
variable {X:L2.Cx}{H:L2.Hp}{kvs:List (L2.Key×L2.V)}{xs ys:List L2.V}{r:List L2.V->L2.Hp->L2.VK->Prop}{σ:L2.St}{v:L2.V}
namespace HT
open PySem PyProof.Rows
section
open PySem.SeqAt
open PySem.AutoSeq1 (wpAny_loadPart')
open PySem.MeetsSeq PySem.MeetsSeq2 PySem.MeetsSeq3
end
section
variable {prog:Program}{A:Around}
def Eh {t:Addr}{vs ws:bP}(a:IsTup s.heap t vs.toArray)(f:IsTup s.heap b ws.toArray)(v:vs≠[])
  (i:ws=[]->Q (.ref t) s)(g:ws≠[]->Q (.ref s.heap.objs.size) { s with heap:=s.heap.push { cls:=.type "tuple",data:=.seq (vs++ws).toArray } })
  (z:vs.length+ws.length<=sizeLine):wpAny (model prog w) A (binaryOp .Add (.ref t) (.ref b)) Q E s:=by
 obtain⟨⟨cls,D,data,sl⟩,o,c,n,hd⟩:=id a;obtain⟨⟨C,d,data2,S⟩,h,H,N,hd2⟩:=id f;simp only at c hd H hd2;subst c hd H hd2;have e:vs.toArray++ws.toArray=(vs++ws).toArray:=by simp
 by_cases hw:ws=[]
 ·exact concat_meets ⟨_,o,rfl⟩ ⟨_,h,rfl⟩ noFill_tuple_add seq_tuple_add slot_tuple_add entry_tuple_add (args_tuple_add_2 _ _)
   (tuple_addW1 t b vs.toArray ws.toArray n N D d sl S (by simpa using v) (by simp[hw])) ⟨o,h,i hw⟩
 ·refine concat_meets ⟨_,o,rfl⟩ ⟨_,h,rfl⟩ noFill_tuple_add seq_tuple_add slot_tuple_add entry_tuple_add (args_tuple_add_2 _ _)
   (tuple_addW2 t b vs.toArray ws.toArray n N D d sl S (by simpa using v) (by simpa using hw) (by rw[aA,aA];exact z)) ⟨o,h,?_⟩
  rw[e];exact g hw
noncomputable def qb (n d:Nat):Option Int->Nat
 |none=>d|some v=>if v<0 then(v+(n:Int)).toNat else min v.toNat n
def Rw (n d k:Nat):qb n d (some (k:Int))=min k n:=by
 show(if (k:Int)<0 then((k:Int)+(n:Int)).toNat else min (k:Int).toNat n)=min k n;rw[aq (by omega),aE]
def D8 (n d:Nat)(hd:d<=n)(o:bX):qb n d o<=n:=by
 cases o with
 |none=>exact hd|some v=>
  show(if v<0 then(v+(n:Int)).toNat else min v.toNat n)<=n
  by_cases h:v<0
  ·rw[ah h];omega
  ·rw[aq h];exact Nat.min_le_right _ _
def Rf (v:Int)(n d:Nat):(if v<0 then max (v+(n:Int)) 0 else min v (n:Int))=((qb n d (some v):Nat):Int):=by
 show(if v<0 then max (v+(n:Int)) 0 else min v (n:Int))=(((if v<0 then(v+(n:Int)).toNat else min v.toNat n):Nat):Int)
 by_cases h:v<0
 ·simp only[ah h];omega
 ·simp only[aq h];omega
def MJ (lo hi:bX)(n:Nat):Builtin.Slice.sliceAdjust lo hi 1 (n:Int)=(((qb n 0 lo:Nat):Int),((qb n n hi:Nat):Int)):=by
 have h:¬((1:Int)<0):=by omega
 unfold Builtin.Slice.sliceAdjust;simp only[h,if_false];refine Prod.ext ?_ ?_
 ·cases lo with
  |none=>rfl|some v=>exact Rf v n 0
 ·cases hi with
  |none=>rfl|some v=>exact Rf v n n
def MH (i j:Nat):Builtin.Slice.slicePlaces (i:Int) (j:Int) 1=j-i:=by
 unfold Builtin.Slice.slicePlaces;have h:(1:Int) > 0:=by omega
 simp only[h,if_true,Int.ediv_one]
 split<;>omega
def UN {v:Value}{o:bX}{Q:Option Int->Shared->Prop}(p:IsPart v o)(h:Q o s):wpAny (model prog w) A (Builtin.Slice.slicePartIndex v) Q E s:=by
 cases p with
 |none=>exact slicePart_none h|int i t=>exact slicePart_int h
def Vz {sl:Addr}{l v:Value}{lo hi:bX}{Q:Int×Int×Nat->Shared->Prop}(b:s.heap.IsSliceOf sl l v .none)(p:IsPart l lo)(pu:IsPart v hi)
  (h:Q (((qb n 0 lo:Nat):Int),1,qb n n hi-qb n 0 lo) s):wpAny (model prog w) A (Builtin.Slice.sliceApplied (.ref sl) (pure (n:Int))) Q E s:=by
 obtain⟨os,H,c,a⟩:=id b;unfold Builtin.Slice.sliceApplied Builtin.Slice.sliceFields;refine b4 (b4 (wpAny_field H a (x:=l) rfl (b4 (wpAny_field H a (x:=v) rfl (b4 (wpAny_field H a (x:=.none) rfl (b5 ?_)))))));refine b4 (slicePart_none ?_);show wpAny _ _ (if ((1:Int)==0)=true then _ else _) _ _ s;rw[aq (by decide)]
 refine b4 (UN p (b4 (UN pu (b4 (b5 ?_)))));show wpAny _ _ (match Builtin.Slice.sliceAdjust lo hi 1 (n:Int) with|(lo,hi)=>pure (lo,(1:Int),Builtin.Slice.slicePlaces lo hi 1)) _ _ s
 rw[MJ lo hi n];show wpAny _ _ (pure (((qb n 0 lo:Nat):Int),(1:Int),Builtin.Slice.slicePlaces ((qb n 0 lo:Nat):Int) ((qb n n hi:Nat):Int) 1)) _ _ s;rw[MH];exact b5 h
def Fu (xs:Array Value)(i k:Nat):((List.range k).filterMap λ(m:Nat)=>xs[((i:Int)+(m:Int) * 1).toNat]?).toArray=((xs.toList.drop i).take k).toArray:=by
 have e:(λ(m:Nat)=>xs[((i:Int)+(m:Int) * 1).toNat]?)=λm=>xs[i+m]?:=by
  funext m
  have:((i:Int)+(m:Int) * 1).toNat=i+m:=by omega
  rw[this]
 rw[e]
 have:=pick_run xs i k
 rw[List.filterMap_map]at this;have E:((λx=>xs[x]?) ∘ λx=>i+x)=λm=>xs[i+m]?:=rfl;rw[E]at this;rw[this]
def OY {t sl:Addr}{l v:Value}{lo hi:bX}(a:IsTup s.heap t items)(e:s.heap.IsSliceOf sl l v .none)(p:IsPart l lo)(pu:IsPart v hi)
  (hw:¬(qb items.size 0 lo=0/\qb items.size items.size hi=items.size))
  (h:Q (.ref s.heap.objs.size) { s with heap:=s.heap.push { cls:=.type "tuple",data:=.seq ((items.toList.drop (qb items.size 0 lo)).take (qb items.size items.size hi-qb items.size 0 lo)).toArray } })
  (z:items.size<=sizeLine):wpAny (model prog w) A (getItem (.ref t) (.ref sl)) Q E s:=by
 have H:sizeOk (.seq ((items.toList.drop (qb items.size 0 lo)).take (qb items.size items.size hi-qb items.size 0 lo)).toArray):=by
  show((items.toList.drop (qb items.size 0 lo)).take (qb items.size items.size hi-qb items.size 0 lo)).toArray.size<=sizeLine;rw[aA,a8,bx,aR];omega
 have j:qb items.size items.size hi<=items.size:=D8 _ _ (aj _) hi;obtain⟨os,b,c,f⟩:=id e;have d:s.TypeIs (.ref sl) "slice":=⟨os,b,c⟩;unfold getItem
 try with_reducible refine wpAny_holding ?_
 first|refine b4 (b5 ?_)|skip
 refine b4 (wpAny_sequenceKey a.typeIs (by decide) ?_)
 refine b4 (wpAny_callSpecial?_slot (name:=Str.ofString "__getitem__") a.typeIs PyProof.Rows.slot_tuple_getitem
  (wpAny_call_entry PyProof.Rows.slot_tuple_getitem a.typeIs entry_tuple_getitem ?_ (args_tuple_getitem _ _)))
 show wpAny _ _ (Builtin.Tuple.tupleItemsOf (.ref t) >>= _) _ _ s;refine b4 (tupleItemsOf_ a ?_);refine b4 (wpAny_typeOf d ?_);rw[ah (by decide)]
 refine b4 (Vz e p pu ?_);have o:¬((((qb items.size 0 lo:Nat):Int)==0&&(1:Int)==1&&(qb items.size items.size hi-qb items.size 0 lo)==items.size)=true):=by
  intro q;rw[ak,ak]at q;have i:((qb items.size 0 lo:Nat):Int)=0:=eq_of_beq q.1.1;have g:qb items.size items.size hi-qb items.size 0 lo=items.size:=eq_of_beq q.2;exact hw ⟨by omega,by omega⟩
 show wpAny _ _ (if (((qb items.size 0 lo:Nat):Int)==0&&(1:Int)==1&&(qb items.size items.size hi-qb items.size 0 lo)==items.size)=true then _ else _) _ _ s;rw[aq o,Fu]
 first
  |exact b4 (m:=Builtin.Tuple.tupleExact _) (wpAny_newObj_type (b5 ⟨_,rfl,b5 h⟩) H)
  |exact b4 (m:=Builtin.Tuple.tupleExact _) (wpAny_newObj_type (b4 (b5 (b5 ⟨_,rfl,b5 h⟩))) H)
  |exact b4 (b4 (m:=Builtin.Tuple.tupleExact _) (wpAny_newObj_type (b5 (b5 ⟨_,rfl,b5 h⟩)) H))
  |exact b4 (b4 (m:=Builtin.Tuple.tupleExact _) (wpAny_newObj_type (b5 ⟨_,rfl,b5 h⟩) H))
end
end HT
namespace L2
open PySem PySem.Spec PyProof.Rows
abbrev TO:=St->Hp->(Option Int->Hp->Prop)->Prop
def PO (X:Cx)(e:Option Expr)(t:TO):Prop:=
 ∀(pins:bR)(s:Shared)(σ:St)(H:Hp)(Q:Option Int->Hp->Prop),Inv X pins σ H s->t σ H Q->
  wpAny (model X.prog X.w) X.A (evalPart e X.env) (λu S=>∃o h,Inv X pins σ h S/\IsPart u o/\Q o h) X.xe s
noncomputable def F7:TO:=λ_ H Q=>Q none H
noncomputable def Aw (t:TE):TO:=λσ H Q=>t σ H λx H1=>∃i,x=.int i/\Q (some i) H1
section
variable {te:TE}{lo hi:Option Expr}{tl th:TO}{p2:Pos}
def Dp:PO X none F7:=by
 intro pins s σ H Q I h;rw[evalPart_none];exact b5 ⟨none,H,I,.none,h⟩
def FI (h:PE X e te):PO X (some e) (Aw te):=by
 intro pins s σ H Q I hw;rw[evalPart_some];refine zV (h pins s σ H _ I hw) λu s1 ⟨x,H1,b,r,a⟩=>?_;obtain⟨i,rfl,q⟩:=a;obtain⟨t,rfl⟩:=r;exact⟨some i,H1,b,.int i t,q⟩
def Ws (X:Cx)(r:V->Option Int->Option Int->Hp->VK->Prop):Prop:=
 ∀(pins:bR)(s:Shared)(σ:St)(H:Hp)(x:V)(v l u:Value)(lo hi:bX)(sl:Addr)(Q:VK),Inv X pins σ H s->RelV x v->s.heap.IsSliceOf sl l u .none->IsPart l lo->IsPart u hi->r x lo hi H Q->
  ∃T id,typeLookup (.type T) "__getitem__"=pure (some (.builtin id))/\s.TypeIs v T/\wpAny (model X.prog X.w) X.A (getItem v (.ref sl)) (EP X pins σ Q) X.xe s
noncomputable def cy (r:V->Option Int->Option Int->Hp->VK->Prop)(e:TE)(t T:TO):TE:=λσ H Q=>e σ H λx H1=>t σ H1 λl a=>T σ a λu h=>r x l u h Q
def T5 {r:V->Option Int->Option Int->Hp->VK->Prop}(n:Ws X r)(he:PE X e te)(o:PO X lo tl)(m:PO X hi th):PE X (.Subscript e (.Slice lo hi none p2) pos) (cy r te tl th):=by
 intro pins s σ H Q I h;refine Subscript_ (zV (he pins s σ H _ I h) λv s1 ⟨x,H1,E,f,j⟩=>?_);refine wpAny_Slice (zV (o pins s1 σ H1 _ E j) λc s2 ⟨l,J,D,p,i⟩=>zV (m pins s2 σ J _ D i) λa s3 ⟨u,d,C,pu,g⟩=>?_);rw[evalPart_none];refine b5 ?_;have B:Inv X pins σ d { s3 with heap:=s3.heap.push { cls:=.type "slice",data:=.fields #[c,a,.none] } }:=C.kept (t':=s3.toks) λb ob q=>ae _ q
 obtain⟨T,id,z,t,y⟩:=n pins { s3 with heap:=s3.heap.push { cls:=.type "slice",data:=.fields #[c,a,.none] } } σ d x v c a l u s3.heap.objs.size Q B f (Heap.IsSliceOf.new ..) p pu g
 show wpAny (model X.prog X.w) X.A (subscriptTail e (.Slice lo hi none p2) v (.ref s3.heap.objs.size)) (EP X pins σ Q) X.xe { s3 with heap:=s3.heap.push { cls:=.type "slice",data:=.fields #[c,a,.none] } }
 exact tail_any (ops:=[.ref s3.heap.objs.size,v]) t z y (by with_unfolding_all rfl)
noncomputable def gh (xs:List V)(lo hi:bX):List V:=(xs.drop (HT.qb xs.length 0 lo)).take (HT.qb xs.length xs.length hi-HT.qb xs.length 0 lo)
def UD (xs:List V)(lo hi:bX):(gh xs lo hi).length<=xs.length:=by
 unfold gh;rw[a8,bx];omega
def AK (K:Frag):V->Option Int->Option Int->Hp->VK->Prop:=λx lo hi H Q=>∃a xs,x=.ref a/\qE K H a xs/\
 ¬(HT.qb xs.length 0 lo=0/\HT.qb xs.length xs.length hi=xs.length)/\∀p,H p=none->Q (.ref p) (upd H p (.tup (gh xs lo hi)))
def C3:Ws X (AK X.K):=by
 intro pins s σ H x v l u lo hi sl Q I c e p pu h;obtain⟨a,xs,rfl,d,hw,q⟩:=h;cases c;obtain⟨i,r,t,z⟩:=I.tuple d;have hlen:i.toArray.size=xs.length:=by rw[aA];exact r.length.symm
 refine⟨"tuple",_,PyProof.Rows.slot_tuple_getitem.lookup,t.typeIs,?_⟩;refine HT.OY t e p pu (by rw[hlen];exact hw) ?_ (by rw[hlen];exact z)
 rw[hlen];refine⟨.ref s.heap.objs.size,_,I.laid (t':=s.toks) (o:=.tup (gh xs lo hi)) (λb ob q=>ae _ q) (aj _) ?_,rfl,q _ (I.hok.fresh (aj _))⟩;exact⟨bf (UD xs lo hi) z,_,(r.drop (HT.qb xs.length 0 lo)).take (HT.qb xs.length xs.length hi-HT.qb xs.length 0 lo),Ze.new _ _⟩
def PN (K:Frag):R2:=λx y H Q=>∃a b xs Y,x=.ref a/\y=.ref b/\qE K H a xs/\qE K H b Y/\xs≠[]/\xs.length+Y.length<=sizeLine/\
 (Y=[]->Q (.ref a) H)/\(Y≠[]->∀p,H p=none->Q (.ref p) (upd H p (.tup (xs++Y))))
def Vals.nil_iff (r:Vals xs us):us=[]↔xs=[]:=by
 cases r with
 |nil=>simp|cons _ _=>simp
def Es:qN X (binaryOp .Add) (PN X.K):=by
 intro pins s σ H x y v u Q I f e h;obtain⟨a,b,xs,Y,rfl,rfl,t,n,m,d,j,g⟩:=h;cases f;cases e;obtain⟨l,c,P,_⟩:=I.tuple t;obtain⟨i,r,p,_⟩:=I.tuple n;refine HT.Eh P p (λz=>m (c.nil_iff.mp z)) (λz=>⟨.ref a,H,I,rfl,j (r.nil_iff.mp z)⟩) (λz=>?_) (by rw[<- c.length,<- r.length];exact d)
 refine⟨.ref s.heap.objs.size,_,I.laid (t':=s.toks) (o:=.tup (xs++Y)) (λb ob q=>ae _ q) (aj _) ?_,rfl,g (λw=>z (r.nil_iff.mpr w)) _ (I.hok.fresh (aj _))⟩;exact⟨by rw[aw];exact d,_,c.append r,Ze.new _ _⟩
end
noncomputable def wb (n:Nat)(i:Int):Option Nat:=if 0<=i then(if i<n then some i.toNat else none) else if -(n:Int)<=i then some (i+n).toNat else none
def yL (xs:List α)(i:Int):Option α:=(wb xs.length i).bind λj=>xs[j]?
def SK {i:Int}{j:Nat}(h:wb n i=some j):seqIndex? i n=some j/\j<n/\-(n:Int)<=i/\i<n:=by
 unfold wb at h
 by_cases h0:0<=i
 ·rw[ah h0]at h
  by_cases h1:i<n
  ·rw[ah h1]at h
   have e:i.toNat=j:=aD h;exact⟨by rw[seqIndex_of h0 h1,e],by omega,by omega,h1⟩
  ·rw[aq h1]at h;cases h
 ·rw[aq h0]at h
  by_cases h1:-(n:Int)<=i
  ·rw[ah h1]at h
   have e:(i+n).toNat=j:=aD h;exact⟨by rw[seqIndex_neg (by omega) h1,e],by omega,h1,by omega⟩
  ·rw[aq h1]at h;cases h
def GF {xs:List α}{i:Int}{v:α}(h:yL xs i=some v):∃j,seqIndex? i xs.length=some j/\xs[j]? =some v/\j<xs.length/\-(xs.length:Int)<=i/\i<xs.length:=by
 unfold yL at h;cases e:wb xs.length i with
 |none=>rw[e]at h;cases h|some j=>
  rw[e]at h;obtain⟨c,b,a,H⟩:=SK e;exact⟨j,c,h,b,a,H⟩
def Kd {xs:List α}{j:Nat}{v:α}(h:xs[j]? =some v):yL xs (j:Int)=some v:=by
 have H:j<xs.length:=(b8.mp h).1;have e:wb xs.length (j:Int)=some j:=by
  unfold wb;rw[ah (by omega),ah (by omega)];simp
 unfold yL;rw[e];exact h
def Rx (b:Expr):Prop:=∀o i,subscripted b false o i=operate [o,i] (getItem o i)
def Zw (X:Cx)(r:R2):Prop:=
 ∀(value slice:Expr)(pins:bR)(s:Shared)(σ:St)(H:Hp)(x y:V)(v u:Value)(Q:VK),Inv X pins σ H s->RelV x v->RelV y u->r x y H Q->
  subscripted slice false v u=operate [v,u] (getItem v u)->wpAny (model X.prog X.w) X.A (subscriptTail value slice v u) (EP X pins σ Q) X.xe s
def X9 (X:Cx)(id:String)(r:V->List V->Hp->VK->Prop):Prop:=
 ∀(pins:bR)(s:Shared)(σ:St)(H:Hp)(x:V)(xs:List V)(v:Value)(us:bP)(Q:VK),Inv X pins σ H s->RelV x v->Vals xs us->r x xs H Q->
  wpAny (model X.prog X.w) X.A (call (.builtin id) (v::us)) (EP X pins σ Q) X.xe s
section
variable {a b:Expr}{ta tb:TE}
def Zw.or {r c:R2}(h:Zw X r)(h':Zw X c):Zw X (λx y H Q=>r x y H Q∨c x y H Q):=by
 intro value slice pins s σ H x y v u Q I b a q d;rcases q with q|q
 ·exact h value slice pins s σ H x y v u Q I b a q d
 ·exact h' value slice pins s σ H x y v u Q I b a q d
def BF {r:R2}(f:Zw X r)(i:PE X a ta)(g:PE X b tb)(e:Rx b):PE X (.Subscript a b pos) (Yp r ta tb):=by
 intro pins s σ H Q I h;exact Subscript_ (XN i g I h λv u s2 x y l j d c q=>f a b pins s2 σ l x y v u Q j d c q (e _ _))
def Ob (K:Frag):R2:=λx y H Q=>∃p xs i v,x=.ref p/\y=.int i/\qM K H p xs/\yL xs i=some v/\Q v H
def P0 (K:Frag):R2:=λx y H Q=>∃p xs i v,x=.ref p/\y=.int i/\qE K H p xs/\yL xs i=some v/\Q v H
def P1:R2:=λx y H Q=>∃z i c,x=.str z/\y=.int i/\z.length<=sizeLine/\yL z.cps.toList i=some c/\Q (.str ⟨#[c]⟩) H
def F2:Zw X (Ob X.K):=by
 intro value slice pins s σ H x y v u Q I g f h e;obtain⟨p,xs,i,z,rfl,rfl,l,he,q⟩:=h;cases g;obtain⟨t,rfl⟩:=f;obtain⟨c,r,P,B⟩:=I.list l;obtain⟨j,a,A,C,o,n⟩:=GF he;obtain⟨w,E,b⟩:=r.get A;have m:=r.length;have hn:=Qv;have fin:EP X pins σ Q w s:=⟨z,H,I,b,q⟩
 by_cases h0:0<=i
 ·have d:i.toNat=j:=by
   rw[seqIndex_of h0 n]at a;exact aD a
  exact item_listR P.isList h0 (by omega) (by rw[d];simpa using E) fin e
 ·have d:(i+(c.toArray.size:Int)).toNat=j:=by
   rw[seqIndex_neg (by omega) o]at a
   rw[aA,<- m];exact aD a
  exact subscriptTail_builtinR (x:=w) P.isList.typeIs slot_list_getitem.lookup
   (wpAny_getItem_list_neg (Q:=λr S=>r=w/\EP X pins σ Q r S) P.isList (by omega) (by rw[aA]<;>omega) (by omega) (by rw[d];simpa using E) ⟨rfl,fin⟩) e
def Ce:Zw X (P0 X.K):=by
 intro value slice pins s σ H x y v u Q I c b h e;obtain⟨p,xs,i,z,rfl,rfl,f,he,q⟩:=h;cases c;obtain⟨t,rfl⟩:=b;obtain⟨d,r,P,n⟩:=I.tuple f;obtain⟨j,m,g,B,A,o⟩:=GF he;obtain⟨w,E,a⟩:=r.get g;have l:=r.length;have hn:=Qv;have fin:EP X pins σ Q w s:=⟨z,H,I,a,q⟩;exact subscriptTail_builtinR (x:=w) P.typeIs slot_tuple_getitem.lookup
  (getItem_tuple (j:=j) (Q:=λr S=>r=w/\EP X pins σ Q r S) P (by omega) (by omega) (by rw[aA,<- l];exact m) (by simpa using E) ⟨rfl,fin⟩) e
def C5:Zw X P1:=by
 intro value slice pins s σ H x y v u Q I b r h d;obtain⟨z,i,c,rfl,rfl,n,he,q⟩:=h;obtain⟨t,rfl⟩:=b;obtain⟨t',rfl⟩:=r;obtain⟨j,a,g,o,f,e⟩:=GF he;have l:z.cps.toList.length=z.length:=by simp[Str.length]
 rw[l]at a f e;have hn:=Qv;exact tail_any (typeIs_str s z t) slot_str_getitem.lookup (getItem_str (c:=c) (by
  have m:decide (i < -(2 ^ 63:Int))=false:=aC (by omega)
  have E:decide (i ≥ 2 ^ 63)=false:=aC (by omega)
  rw[m,E,Bool.or_false]) (by rw[a];simpa using g) ⟨.str ⟨#[c]⟩,H,I.tok _,⟨_,rfl⟩,q⟩) d
def Oe (K:Frag):R2:=λx y H Q=>Ob K x y H Q∨P0 K x y H Q∨P1 x y H Q
def DX:Zw X (Oe X.K):=F2.or (Ce.or C5)
def M6 (i:bP)(n j:Nat)(u:Value):Obj.mapSeq (·.setIfInBounds j u) { cls:=.type "list",data:=.seq i.toArray n }={ cls:=.type "list",data:=.seq (i.set j u).toArray n }:=by
 simp[Obj.mapSeq]
theorem Inv.lst {pins:bR}{σ:St}{H:Hp}{s:Shared}{p:Addr}{xs:List V}(I:Inv X pins σ H s)(h:H p=some (.lst xs)):
  ∃(i:bP) (n:Nat),Vals xs i/\s.heap.get? p=some { cls:=.type "list",data:=.seq i.toArray n }/\xs.length<=sizeLine:=by
 obtain⟨z,i,n,r,e⟩:=I.hok p _ h;exact⟨i,n,r,e,z⟩
def Inv.lstUpd {p:Addr}{its':bP}{N:Nat}{f:Obj->Obj}(I:Inv X pins σ H s)(h:H p=some (.lst xs))
  (o:s.heap.get? p=some { cls:=.type "list",data:=.seq its.toArray n })(hf:f { cls:=.type "list",data:=.seq its.toArray n }={ cls:=.type "list",data:=.seq its'.toArray N })(r:Vals ys its')(z:ys.length<=sizeLine)(t:Nat):
  Inv X pins σ (upd H p (.lst ys)) { s with heap:=s.heap.update p f,toks:=t }:=by
 have e:(s.heap.update p f).get? p=some { cls:=.type "list",data:=.seq its'.toArray N }:=by
  rw[aX f o (by rw[hf]<;>rfl),hf]
 refine I.write (x:=p) (e:=p) (by rw[h];trivial) (.inl rfl) (λb u a q=>(aP _ _ (Ne.symm a)).trans q) ⟨_,e⟩ ?_
 exact⟨z,its',N,r,e⟩
def Pr:V->V->V->Hp->(Hp->Prop)->Prop:=λo i v H Q=>∃p xs k j,o=.ref p/\i=.int k/\H p=some (.lst xs)/\wb xs.length k=some j/\Q (upd H p (.lst (xs.set j v)))
def set_list:KU X Pr:=by
 intro pins s σ H o i v A B u Q I ro x w h;obtain⟨p,xs,k,j,rfl,rfl,e,y,q⟩:=h;cases ro;obtain⟨t,rfl⟩:=x;obtain⟨a,n,r,c,z⟩:=I.lst e;obtain⟨b,C,g,f⟩:=SK y;have l:=r.length;have hn:=Qv;have m:Inv X pins σ (upd H p (.lst (xs.set j v))) { s with heap:=s.heap.update p (Obj.mapSeq (·.setIfInBounds j u)) }:=
  I.lstUpd e c (M6 a n j u) (r.set w j) (by rw[length_set];exact z) s.toks
 by_cases h0:0<=k
 ·have d:k.toNat=j:=by
   rw[seqIndex_of h0 f]at b;exact aD b
  exact PySem.W.ki_setAt c h0 (by omega) (by rw[aA,<- l];exact f) (by rw[d];exact⟨_,m,q⟩)
 ·have d:(k+(a.toArray.size:Int)).toNat=j:=by
   rw[seqIndex_neg (by omega) g]at b
   rw[aA,<- l];exact aD b
  exact PySem.W.ki_setBack c (by omega) (by rw[aA,<- l];exact g) (by omega) (by rw[d];exact⟨_,m,q⟩)
def NL (lo hi:bX)(n:Nat):(sliceBounds lo hi none n).1=((HT.qb n 0 lo:Nat):Int)/\(sliceBounds lo hi none n).2.1=((HT.qb n n hi:Nat):Int)/\(sliceBounds lo hi none n).2.2=1:=by
 refine⟨?_,?_,rfl⟩
 ·cases lo with
  |none=>simp[sliceBounds,HT.qb]|some i=>
   simp only[sliceBounds,HT.qb,getD_none,show(1:Int) > 0 by decide,if_true]
   by_cases h:i<0
   ·simp only[h,if_true]<;>omega
   ·simp only[h,if_false]<;>omega
 ·cases hi with
  |none=>simp[sliceBounds,HT.qb]|some i=>
   simp only[sliceBounds,HT.qb,getD_none,show(1:Int) > 0 by decide,if_true]
   by_cases h:i<0
   ·simp only[h,if_true]<;>omega
   ·simp only[h,if_false]<;>omega
def NH (i:bP)(lo hi:bX):slicePick i.toArray lo hi none=((i.drop (HT.qb i.length 0 lo)).take (HT.qb i.length i.length hi-HT.qb i.length 0 lo)).toArray:=by
 obtain⟨a,H,h⟩:=NL lo hi i.toArray.size;unfold slicePick;rw[a,H,h];simp only[sliceRange_one,pick_run,aA]<;>rfl
def AO (K:Frag):V->Option Int->Option Int->Hp->VK->Prop:=λx lo hi H Q=>∃a xs,x=.ref a/\qM K H a xs/\∀p,H p=none->Q (.ref p) (upd H p (.lst (gh xs lo hi)))
def Di:Ws X (AO X.K):=by
 intro pins s σ H x v l u lo hi sl Q I c e p pu h;obtain⟨a,xs,rfl,d,q⟩:=h;cases c;obtain⟨i,r,t,z⟩:=I.list d;have hlen:=r.length;refine⟨"list",_,slot_list_getitem.lookup,t.isList.typeIs,?_⟩;refine wpAny_getItem_list_slice t.isList e p pu .none (by simp) ?_ (by rw[aA]<;>omega)
 rw[NH,<- hlen];refine⟨.ref s.heap.objs.size,_,I.laid (t':=s.toks) (o:=.lst (gh xs lo hi)) (λb ob q=>ae _ q) (aj _) ?_,rfl,q _ (I.hok.fresh (aj _))⟩;exact⟨bf (UD xs lo hi) z,_,0,(r.drop (HT.qb xs.length 0 lo)).take (HT.qb xs.length xs.length hi-HT.qb xs.length 0 lo),ar _ rfl⟩
noncomputable def gI:V->Bool
 |.non=>true|.bl _=>true|.int _=>true|.str _=>true|_=>false
noncomputable def Zq:V->V->Bool
 |.non,.non=>true|.bl a,.bl b=>a==b|.bl a,.int b=>(if a then 1 else 0)==b|.int a,.bl b=>a==(if b then 1 else 0)|.int a,.int b=>a==b|.str a,.str b=>a==b|_,_=>false
def CN {A:Around}{y x:V}{v:Value}(c:RelV y u)(r:RelV x v)(d:gI y=true)(f:gI x=true):SeqAt.EqAt A s u v (Zq y x):=by
 cases y with
 |non=>
  cases c;cases x with
  |non=>cases r;exact SeqAt.EqAt.same _|bl b=>cases r;exact SeqAt.EqAt.none_bool b|int b=>obtain⟨t,rfl⟩:=r;exact SeqAt.EqAt.none_int b t|str b=>obtain⟨t,rfl⟩:=r;exact SeqAt.EqAt.none_str b t|_=>exact absurd (show false=true from f) ax
 |bl a=>
  cases c;cases x with
  |non=>cases r;exact SeqAt.EqAt.bool_none a|bl b=>cases r;exact SeqAt.EqAt.bool_bool a b|int b=>obtain⟨t,rfl⟩:=r;exact SeqAt.EqAt.bool_int a b t|str b=>obtain⟨t,rfl⟩:=r;exact SeqAt.EqAt.bool_str a b t|_=>exact absurd (show false=true from f) ax
 |int a=>
  obtain⟨t',rfl⟩:=c;cases x with
  |non=>cases r;exact SeqAt.EqAt.int_none a t'|bl b=>cases r;exact SeqAt.EqAt.int_bool a t' b|int b=>obtain⟨t,rfl⟩:=r;exact SeqAt.EqAt.int_int a t' b t|str b=>obtain⟨t,rfl⟩:=r;exact SeqAt.EqAt.int_str a t' b t|_=>exact absurd (show false=true from f) ax
 |str a=>
  obtain⟨t',rfl⟩:=c;cases x with
  |non=>cases r;exact SeqAt.EqAt.str_none a t'|bl b=>cases r;exact SeqAt.EqAt.str_bool a t' b|int b=>obtain⟨t,rfl⟩:=r;exact SeqAt.EqAt.str_int a t' b t|str b=>obtain⟨t,rfl⟩:=r;exact SeqAt.EqAt.str_str a t' b t|_=>exact absurd (show false=true from f) ax
 |_=>exact absurd (show false=true from d) ax
def ky (x:V)(u:Value):Bool:=match u with
 |.none=>Zq .non x|.bool b=>Zq (.bl b) x|.int i _=>Zq (.int i) x|.str z _=>Zq (.str z) x|_=>false
def Pa {x y:V}(r:RelV y u)(f:gI y=true):ky x u=Zq y x:=by
 cases y with
 |non=>cases r;rfl|bl b=>cases r;rfl|int i=>obtain⟨t,rfl⟩:=r;rfl|str z=>obtain⟨t,rfl⟩:=r;rfl|_=>exact absurd (show false=true from f) ax
theorem J1 {x:V}:∀{xs:List V}{us:bP},Vals xs us->xs.all gI=true->us.any (ky x)=xs.any λy=>Zq y x
 |_,_,.nil,_=>rfl|y::xs,u::us,.cons r t,f=>by
  rw[all_cons,ak]at f;rw[any_cons,any_cons,Pa r f.1,J1 t f.2]
theorem JQ {A:Around}{x:V}{v:Value}(a:RelV x v)(b:gI x=true):∀{xs:List V}{us:bP},Vals xs us->xs.all gI=true->∀u∈us,SeqAt.EqAt A s u v (ky x u)
 |_,_,.nil,_=>λu h=>by cases h|y::xs,u::us,.cons r t,f=>λU h=>by
  rw[all_cons,ak]at f;rcases b9.mp h with rfl|h
  ·rw[Pa r f.1];exact CN r a f.1 b
  ·exact JQ a b t f.2 U h
def Wg (x:V)(xs:List V):Bool:=xs.any λy=>Zq y x
def X2 (K:Frag)(neg:Bool):R2:=λx y H Q=>∃p xs,y=.ref p/\(qM K H p xs∨qE K H p xs)/\gI x=true/\xs.all gI=true/\Q (.bl (if neg then !Wg x xs else Wg x xs)) H
def Iy:qN X (compareOp .In) (X2 X.K false):=by
 intro pins s σ H x y v u Q I b c h;obtain⟨p,xs,rfl,a,f,fs,q⟩:=h;cases c;rcases a with a|a
 ·obtain⟨i,r,P,z⟩:=I.list a
  refine SeqAt.in_listAt (ky x) P.isList (λw hw=>JQ b f r fs w (by simpa using hw)) ⟨.bl _,H,I,rfl,?_⟩
  rw[show i.toArray.any (ky x)=i.any (ky x) by simp,J1 r fs]
  exact q
 ·obtain⟨i,r,P,z⟩:=I.tuple a
  refine SeqAt.in_tupleAt (ky x) P (λw hw=>JQ b f r fs w (by simpa using hw)) ⟨.bl _,H,I,rfl,?_⟩
  rw[show i.toArray.any (ky x)=i.any (ky x) by simp,J1 r fs]
  exact q
def N3:qN X (compareOp .NotIn) (X2 X.K true):=by
 intro pins s σ H x y v u Q I b c h;obtain⟨p,xs,rfl,a,f,fs,q⟩:=h;cases c;rcases a with a|a
 ·obtain⟨i,r,P,z⟩:=I.list a
  refine SeqAt.notIn_listAt (ky x) P.isList (λw hw=>JQ b f r fs w (by simpa using hw)) ⟨.bl _,H,I,rfl,?_⟩
  rw[show i.toArray.any (ky x)=i.any (ky x) by simp,J1 r fs]
  exact q
 ·obtain⟨i,r,P,z⟩:=I.tuple a
  refine SeqAt.notIn_tupleAt (ky x) P (λw hw=>JQ b f r fs w (by simpa using hw)) ⟨.bl _,H,I,rfl,?_⟩
  rw[show i.toArray.any (ky x)=i.any (ky x) by simp,J1 r fs]
  exact q
def N2:jU X (.builtin "len") (λxs H Q=>∃p y,xs=[.ref p]/\(qM X.K H p y∨qE X.K H p y)/\Q (.int y.length) H):=by
 intro pins s σ H xs us Q I r h;obtain⟨p,y,rfl,a,q⟩:=h;obtain⟨u,rfl,x⟩:=vals1 r;cases x;have hn:=Qv;rcases a with a|a
 ·obtain⟨i,b,P,z⟩:=I.list a
  have hlen:=b.length;exact Calls.call_len_list P.isList (by simp only[aA]<;>omega) ⟨.int y.length,H,I.tok _,⟨s.toks+1,by rw[aA,hlen]⟩,q⟩
 ·obtain⟨i,b,P,z⟩:=I.tuple a
  have hlen:=b.length;exact len_tuple P (by simp only[aA]<;>omega) ⟨.int y.length,H,I.tok _,⟨s.toks+1,by rw[aA,hlen]⟩,q⟩
def N1:jU X (.type "list") (λxs H Q=>∃p y,xs=[.ref p]/\(qM X.K H p y∨qE X.K H p y)/\∀l,H l=none->Q (.ref l) (upd H l (.lst y))):=by
 intro pins s σ H xs us Q I r h;obtain⟨p,y,rfl,d,q⟩:=h;obtain⟨u,rfl,x⟩:=vals1 r;cases x;have fin:∀(its:bP),Vals y its->y.length<=sizeLine->∀(h':Heap)(c:Nat),(∀b o',s.heap.get? b=some o'->h'.get? b=some o')->
   h'.get? s.heap.objs.size=some { cls:=.type "list",dict:=none,data:=.seq its.toArray c,slots:=#[] }->EP X pins σ Q (.ref s.heap.objs.size) { s with heap:=h' }:=λits a z h' c kp e=>
  ⟨.ref s.heap.objs.size,_,I.laid (t':=s.toks) kp (aj _) (show jy X.prog X.w _ h' _ (.lst y) from ⟨z,its,c,a,e⟩),rfl,q _ (I.hok.fresh (aj _))⟩
 rcases d with d|d
 ·obtain⟨its,a,P,z⟩:=I.list d
  have hlen:=a.length;obtain⟨o,f,g,n,hd⟩:=P.isList;exact call_list_seq p (.inl rfl) f g hd (λh' c kp e=>fin its a z h' c kp e) (by simp only[aA]<;>omega)
 ·obtain⟨its,a,P,z⟩:=I.tuple d
  have hlen:=a.length;obtain⟨o,f,g,n,hd⟩:=P;exact call_list_seq p (.inr rfl) f g hd (λh' c kp e=>fin its a z h' c kp e) (by simp only[aA]<;>omega)
def NF:jU X (.type "tuple") (λxs H Q=>∃p y,xs=[.ref p]/\((qM X.K H p y/\∀l,H l=none->Q (.ref l) (upd H l (.tup y)))∨(qE X.K H p y/\Q (.ref p) H))):=by
 intro pins s σ H xs us Q I r h;obtain⟨p,y,rfl,h⟩:=h;obtain⟨u,rfl,x⟩:=vals1 r;cases x;rcases h with ⟨c,q⟩|⟨c,q⟩
 ·obtain⟨i,a,P,z⟩:=I.list c
  have hlen:=a.length;refine call_tuple_list P.isList (λh' kp=>?_) (by simp only[aA]<;>omega)
  have d:Inv X pins σ H { s with heap:=h' }:=I.kept (t':=s.toks) kp
  have f:Inv X pins σ (upd H h'.objs.size (.tup y)) { s with heap:=h'.push { cls:=.type "tuple",data:=.seq i.toArray } }:=
   d.laid (t':=s.toks) (λb o e=>ae _ e) (aj _) (show jy X.prog X.w _ _ _ (.tup y) from ⟨z,i,a,Ze.new _ _⟩)
  exact⟨.ref h'.objs.size,_,f,rfl,q _ (d.hok.fresh (aj _))⟩
 ·obtain⟨i,a,P,z⟩:=I.tuple c
  exact call_tuple_same P ⟨.ref p,H,I,rfl,q⟩
def Wq (K:Frag)(T:String)(x:V)(H:Hp):Prop:=match x with
 |.str _=>T = "str"
 |.int _=>T = "int"
 |.ref p=>(T = "list" /\ ∃xs,qM K H p xs)∨(T = "tuple" /\ ∃o,K.lookup p=some o/\o.cls=.type "tuple" /\ o.dict=none)∨
   (T = "dict" /\ ((∃kvs,H p=some (.dK kvs))∨∃kvs,H p=some (.dT kvs)))∨(T = "set" /\ ∃S n,H p=some (.set S n))
 |_=>False
def Cn {T:String}{x:V}{v:Value}(I:Inv X pins σ H s)(r:RelV x v)(ty:Wq X.K T x H):
  s.TypeIs v T/\∀a,v=.ref a->∃ob,s.heap.get? a=some ob/\ob.dict=none:=by
 cases x with
 |str z=>
  obtain⟨t,rfl⟩:=r;cases (show T = "str" from ty)
  exact⟨typeIs_str s z t,λ_ e=>nomatch e⟩
 |int i=>
  obtain⟨t,rfl⟩:=r;cases (show T = "int" from ty)
  exact⟨typeIs_int s i t,λ_ e=>nomatch e⟩
 |ref p=>
  cases r;rcases ty with ⟨rfl,xs,q⟩|⟨rfl,o,h,d,hd⟩|⟨rfl,h⟩|⟨rfl,S,n,h⟩
  ·obtain⟨b,_,P,_⟩:=I.list q
   refine⟨P.isList.typeIs,λa e=>?_⟩;cases e;obtain⟨o,n,e,c,hd,_⟩:=P;exact⟨o,e,hd⟩
  ·refine⟨⟨o,I.kIn p o h,d⟩,λa e=>?_⟩
   cases e;exact⟨o,I.kIn _ o h,hd⟩
  ·have z:∃o,s.heap.get? p=some o/\o.ExactDict:=by
    rcases h with ⟨kvs,h⟩|⟨kvs,h⟩
    ·obtain⟨_,_,_,_,o,_,_,e,ex,_⟩:=I.hok p _ h
     exact⟨o,e,ex⟩
    ·obtain⟨_,_,_,_,o,_,_,e,ex,_⟩:=I.hok p _ h
     exact⟨o,e,ex⟩
   obtain⟨o,e,ex⟩:=z;refine⟨⟨o,e,ex.1⟩,λa E=>?_⟩;cases E;exact⟨o,e,ex.2.1⟩
  ·obtain⟨o,_,_,_,e,ex,_⟩:=I.hok p _ h
   refine⟨⟨o,e,ex.1⟩,λa E=>?_⟩;cases E;exact⟨o,e,ex.2.1⟩
 |_=>exact False.elim ty
noncomputable def cz (K:Frag)(T:String)(r:V->List V->Hp->VK->Prop)(to:TE)(t:TA):TE:=λσ H Q=>to σ H λx H1=>Wq K T x H1/\t σ H1 λxs h=>r x xs h Q
variable {o:Expr}{es:bV}{to:TE}{t:TA}{name:Str}{apos cpos:Pos}{T id:String}{r:V->List V->Hp->VK->Prop}
def Pl (p:PlainAttrs T)(slot:Slot T name id)(y:typeOf (.builtin id)=pure (.type "method_descriptor"))(hm:X9 X id r)(j:PE X o to)(l:PA X (e::es) t)
  (b:attributeBase o name X.env (eval o X.env)=eval o X.env:=by rfl)
  (w:((backTo cpos (starEach (e::es) X.env)).all (λx=>!x.1)&&(backToKw cpos (keywordEach [] X.env)).all (λx=>x.1.isSome)
   && decide ((e::es).length+([]:b1).length+(if ([]:b1).isEmpty then 0 else 1)<30))=true:=by rfl)
  (a:(apos.endLine==cpos.line)=true:=by rfl)(g:starEach (e::es) X.env=(false,eval e X.env)::starEach es X.env:=by rfl)(n:(backTo cpos (starEach es X.env)).any (·.1)=false:=by rfl):
  PE X (.Call (.Attribute o name apos) (e::es) [] cpos) (cz X.K T r to t):=by
 intro pins s σ H Q I h;refine wpAny_Call_method_late b w a rfl (zV (j pins s σ H _ I h) λv s1 ⟨x,H1,i,c,ty,f⟩=>?_);obtain⟨u,m⟩:=Cn i c ty;refine⟨T,id,p,slot,y,u,m,?_⟩;have A:=l cpos pins s1 σ H1 _ i f;rw[g]at A ⊢;refine Calls.callWith_builtin (by show(false || (backTo cpos (starEach es X.env)).any (·.1))=false;rw[n]<;>rfl) (Calls.evalArgs_plain ?_)
 exact zV A λus s2 ⟨vs,B,z,d,q⟩=>hm pins s2 σ B x vs v us Q z c d q
end
def X1 (X:Cx)(id:String)(r:V->List V->Hp->VK->Prop):Prop:=
 ∀(pins:bR)(s:Shared)(σ:St)(H:Hp)(x:V)(xs:List V)(v:Value)(us:bP)(Q:VK),Inv X pins σ H s->RelV x v->Vals xs us->r x xs H Q->
  wpAny (model X.prog X.w) X.A (call (.builtin id) (v::us)) (EP X pins σ Q) X.xe s
def Vals.one {x:V}(h:Vals [x] us):∃u,us=[u]/\RelV x u:=by
 cases h with
 |cons r t=>cases t;exact⟨_,rfl,r⟩
def Vals.two {x y:V}(h:Vals [x,y] us):∃u v,us=[u,v]/\RelV x u/\RelV y v:=by
 cases h with
 |cons r t=>exact(Vals.one t).elim λv e=>⟨_,v,by rw[e.1],r,e.2⟩
theorem Vals.eraseIdx:∀{xs:List V}{us:bP}(i:Nat),Vals xs us->Vals (xs.eraseIdx i) (us.eraseIdx i)
 |_,_,_,.nil=>.nil|_,_,0,.cons _ t=>t|_,_,i+1,.cons r t=>.cons r (Vals.eraseIdx i t)
theorem Vals.rep (h:Vals xs us):∀k:Nat,Vals (List.replicate k xs).flatten (List.replicate k us).flatten
 |0=>.nil|k+1=>by
  rw[bg,bg,aZ,aZ];exact Vals.append h (Vals.rep h k)
theorem Tn:∀(l:List α)(i:Nat),(l.eraseIdx i).length<=l.length
 |[],_=>aj _|_::_,0=>le_succ _|_::r,i+1=>Nat.succ_le_succ (Tn r i)
theorem foldl_rep (i:bP):∀(k:Nat)(acc:bP),
  List.foldl (λx1 x2=>x1++x2) acc.toArray (List.replicate k i.toArray)=(acc++(List.replicate k i).flatten).toArray
 |0,acc=>by simp|k+1,acc=>by
  have e:acc.toArray++i.toArray=(acc++i).toArray:=by simp
  have E:(acc++i)++(List.replicate k i).flatten=acc++(List.replicate (k+1) i).flatten:=by
   rw[bg,aZ,aO]
  rw[<- E,<- foldl_rep i k (acc++i),<- e,bg,List.foldl_cons]
section
variable {l:Addr}
def Inv.lset {its':bP}{f:Array Value->Array Value}(I:Inv X pins σ H s)(c:H l=some (.lst xs))
  (e:s.heap.get? l=some { cls:=.type "list",data:=.seq its.toArray n })(hf:f its.toArray=its'.toArray)(v:Vals ys its')(h:ys.length<=sizeLine):
  Inv X pins σ (upd H l (.lst ys)) { s with heap:=s.heap.update l (Obj.mapSeq f),toks:=t' }:=by
 have q:=PySem.IsL.update e f;rw[hf]at q;refine I.write (x:=l) (e:=l) (by rw[c];exact trivial) (.inl rfl) (λB u b a=>(aP s.heap (Obj.mapSeq f) (Ne.symm b)).trans a) ⟨_,q⟩ ?_
 exact⟨h,its',_,v,q⟩
def Inv.lnew (I:Inv X pins σ H s)(v:Vals ys its)(h:ys.length<=sizeLine):
  Inv X pins σ (upd H s.heap.objs.size (.lst ys)) { s with heap:=s.heap.push { cls:=.type "list",data:=.seq its.toArray },toks:=t' }:=
 I.laid (λ_ _ q=>ae _ q) (aj _) ⟨h,its,0,v,ar _ rfl⟩
theorem Inv.fresh (I:Inv X pins σ H s):H s.heap.objs.size=none:=I.hok.fresh (aj _)
def Inv.lstM (I:Inv X pins σ H s)(h:H l=some (.lst xs)):xs.length<=sizeLine/\∃(i:bP) (n:Nat),Vals xs i/\xs.length=i.length/\s.heap.get? l=some { cls:=.type "list",data:=.seq i.toArray n }:=by
 obtain⟨z,i,n,r,e⟩:=I.hok l _ h;exact⟨z,i,n,r,r.length,e⟩
def Fm (h:n<=sizeLine):Builtin.List.listTooLong n=false:=by
 unfold Builtin.List.listTooLong;exact aC (by omega)
end
section
def FU:V->List V->Hp->VK->Prop:=λx vs H Q=>∃l xs y,x=.ref l/\vs=[y]/\H l=some (.lst xs)/\xs.length<sizeLine/\Q .non (upd H l (.lst (xs++[y])))
def Ta:X1 X "list.append" FU:=by
 intro pins s σ H x vs v us Q I b c h;obtain⟨l,xs,y,rfl,rfl,a,f,q⟩:=h;cases b;obtain⟨u,rfl,d⟩:=c.one;obtain⟨z,i,n,r,g,e⟩:=I.lstM a;refine call_meets F.slot_list_append ⟨_,e,rfl⟩ F.entry_list_append (F.args_list_append_2 _ _) (PySem.list_append l i.toArray n u (by rw[aA];omega)) ⟨e,?_⟩
 refine⟨.non,_,I.lset (its':=i++[u]) a e (by simp) (r.append (.cons d .nil)) ?_,rfl,q⟩
 rw[aw,ba];omega
def CB:V->List V->Hp->VK->Prop:=λx vs H Q=>∃l xs i k y,x=.ref l/\vs=[.int i]/\H l=some (.lst xs)/\-(2 ^ 63)<=i/\i<2 ^ 63/\seqIndex? i xs.length=some k/\xs[k]? =some y/\Q y (upd H l (.lst (xs.eraseIdx k)))
def Hk:X1 X "list.pop" CB:=by
 intro pins s σ H x vs v us Q I d f h;obtain⟨l,xs,i,k,y,rfl,rfl,c,A,p,o,j,q⟩:=h;cases d;obtain⟨u,rfl,g⟩:=f.one;obtain⟨t,rfl⟩:=g;obtain⟨z,a,n,r,m,e⟩:=I.lstM c;obtain⟨w,hw,b⟩:=r.get j;refine call_meets F.slot_list_pop ⟨_,e,rfl⟩ F.entry_list_pop (F.args_list_pop_2 _ _)
  (MeetsSeq.list_pop_at l a.toArray n i t k w (fitsIndex_both A p) (by rw[aA,<- m];exact o) (by rw[<- bG];exact hw) (by rw[aA];omega)) ⟨e,?_⟩
 refine⟨y,_,I.lset (its':=a.eraseIdx k) c e ?_ (r.eraseIdx k) ?_,b,q⟩
 ·show a.toArray.eraseIdxIfInBounds k=(a.eraseIdx k).toArray
  rw[List.eraseIdxIfInBounds_toArray]
 ·have:=Tn xs k
  omega
def P8:R2:=λx y H Q=>∃l b xs zs,x=.ref l/\y=.ref b/\H l=some (.lst xs)/\H b=some (.lst zs)/\xs.length+zs.length<=sizeLine/\∀p,H p=none->Q (.ref p) (upd H p (.lst (xs++zs)))
def CJ:qN X (binaryOp .Add) P8:=by
 intro pins s σ H x y v u Q I d c h;obtain⟨l,b,xs,zs,rfl,rfl,j,B,o,q⟩:=h;cases d;cases c;obtain⟨z,a,n,r,p,e⟩:=I.lstM j;obtain⟨Z,i,N,f,g,m⟩:=I.lstM B;refine PySem.P.add_list e m ?_ (by rw[aA,aA];omega)
 have E:a.toArray++i.toArray=(a++i).toArray:=by simp
 rw[E];exact⟨.ref _,_,I.lnew (t':=s.toks) (r.append f) (by rw[aw];omega),rfl,q _ I.fresh⟩
def P7:R2:=λx y H Q=>∃l k xs,x=.ref l/\y=.int k/\H l=some (.lst xs)/\-(2 ^ 63)<=k/\k<2 ^ 63/\xs.length * k.toNat<=sizeLine/\
 ∀p,H p=none->Q (.ref p) (upd H p (.lst (List.replicate k.toNat xs).flatten))
def len_rep (xs:List α)(k:Nat):(List.replicate k xs).flatten.length=k * xs.length:=by
 induction k with
 |zero=>simp|succ k i=>rw[bg,aZ,aw,i,Nat.succ_mul,add_comm]
def CT:qN X (binaryOp .Mult) P7:=by
 intro pins s σ H x y v u Q I f d h;obtain⟨l,k,xs,rfl,rfl,o,B,A,c,q⟩:=h;cases f;obtain⟨t,rfl⟩:=d;obtain⟨z,i,n,r,j,e⟩:=I.lstM o;have hlen:i.toArray.size * k.toNat<=sizeLine:=by rw[aA,<- j];exact c
 have p:¬i.toArray.size * k.toNat > (2 ^ 63-1)/8:=by
  have:(sizeLine:Nat)<=(2 ^ 63-1)/8:=by decide
  omega
 have b:¬(!Builtin.List.listFitsIndex k)=true:=by
  rw[fitsIndex_both B A];exact ax
 have g:¬Builtin.List.listTooLong (i.toArray.size * k.toNat)=true:=by
  rw[Fm hlen];exact ax
 have w:List.foldl (λx1 x2=>x1++x2) #[] (List.replicate (if i.toArray.isEmpty=true then 0 else k.toNat) i.toArray)=(List.replicate k.toNat i).flatten.toArray:=by
  have f0:∀m:Nat,List.foldl (λx1 x2=>x1++x2) #[] (List.replicate m i.toArray)=(List.replicate m i).flatten.toArray:=λm=>by
   have:=foldl_rep i m []
   rw[nil_append]at this;exact this
  rw[f0];cases i with
  |nil=>simp|cons a C=>rw[aq (by simp)]
 refine wpAny_binaryOp_repeat_ref (T := "list") (U := "int") (by decide) ⟨_,e,rfl⟩ (λS=>typeIs_int S k t) noFill_list_mul F.fills_int_mul F.slot_int_rmul repeat_list F.slot_int_index.lookup
  (call_meets F.slot_int_rmul (typeIs_int s k t) F.entry_int_rmul (F.args_int_rmul_2 _ _) (int___rmul___int_list k t l i.toArray n)
   ⟨e,rfl,⟨_,e,rfl⟩,call_meets F.slot_list_mul ⟨_,e,rfl⟩ F.entry_list_mul (F.args_list_mul_2 _ _) (AutoListH.list___mul___list_int_3 l i.toArray n k t b p g) ⟨e,?_⟩⟩)
 rw[w];exact⟨.ref _,_,I.lnew (t':=s.toks) (r.rep k.toNat) (by rw[len_rep,Nat.mul_comm];exact c),rfl,q _ I.fresh⟩
end
section
set_option maxRecDepth 100000 in
end
end L2
namespace Att
open PySem PySem.W PySem.Calls PyProof.Rows
def Na {P:Params}:∀(ns:bO)(vs:bP),WellAll P h vs (ns.map WData.int)->IntsAre vs ns:=by
 intro ns
 induction ns with
 |nil=>
  intro vs w;rw[map_nil]at w;cases w;exact .nil
 |cons n ns i=>
  intro vs w;rw[aQ]at w;cases w with
  |cons a b=>
   cases a;exact .cons _ _ (i _ b)
def LP {l:OpenLaw}(hn:l.most=some n){P:Params}{args:List WData}{vals:bP}
  (H:l.row.toRowW.claim.pre args=true)(f:WellAll P h vals args):
  ∃a vs ns,vals=[Value.ref a]/\args=[WData.list (ns.map WData.int)]/\h.get? a=some { cls:=.type "list",data:=.seq vs.toArray }/\IntsAre vs ns/\ns.length<=n:=by
 have g:WShape.hasAll [] args [.list .int]=true:=(pre_splitW H).1;have i:l.pre.holds [] { args:=args }=true:=(pre_splitW H).2;obtain⟨d,r,rfl,s,p⟩:=hasAllW_cons g;obtain rfl:=hasAllW_nil p;obtain⟨xs,rfl,m⟩:=hasW_list s;obtain⟨ns,rfl⟩:=items_int m;have hlen:ns.length<=n:=by
  unfold OpenLaw.pre at i;have e:(WTm.not (.lt (.lit (.int (n:Int))) (.len (.arg 0)))).holds [] { args:=[.list (ns.map .int)] }=true:=by
   have e:=(holds_andW i).1;rw[hn]at e;exact e
  have c:=condW_of e (w_not (w_lt w_lit (w_len_list (w_arg rfl))));rw[af]at c;refine Nat.le_of_not_lt λq=>?_;have Q:(n:Int)<((ns.length:Nat):Int):=by omega
  first
   |(rw[ay Q]at c;exact absurd c (by decide))
   |(simp at c;omega)
 cases f with
 |cons j w=>
  cases w;cases j with
  |list o b=>exact⟨_,_,ns,rfl,rfl,o,Na ns _ b,hlen⟩
def Ij (l:OpenLaw)(args:List WData):l.row.toRowW.claim.post args (.bool true) args=true:=
 postW_of (r:=l.row.toRowW) (X:=(true==true))
  (show WShape.has [] (.bool true) .bool=true by first|rfl|decide|simp[WShape.has,WShape.arms,WShape.armsAll])
  (show(WTm.eq .res (.lit (.bool true))).value [] { args:=args,res:=some (.bool true),after:=args }=some (.bool (true==true)) from w_eq_bool (w_res rfl) w_lit) rfl
def Mf {l:OpenLaw}{q:Program}{loose:bT}{d:DefRec}
  (hn:l.most=some n)(i:d.params.defaults=[])
  (call:∀(w:World)(S s:Shared)(mg mb:bY)(b:Addr)(o:Obj)(pm cd doc:Value)(a:Addr)(vs:bP)(ns:bO),
   Ground q loose [] XP w S mg mb s.heap->YP w s.heap->
   s.heap.get? b=some o->o.data=.func (docDef d.name d.params d.body d.scope pm cd doc)->s.heap.CodeRec cd d.name->mg d.name=some (.ref b)->
   s.heap.get? a=some { cls:=.type "list",data:=.seq vs.toArray }->IntsAre vs ns->ns.length<=n->s.gens=#[]->
   codeAny (model l.prog w) callerA (.call (.ref b) ⟨[.ref a],[]⟩) (λr c=>r=.ok (.ret (.bool true))/\OldK s.heap c.heap/\c.os=s.os/\AllBare c.gens) s):
  WalkO q loose XP YP l.row.toRowW d [] (λf vs=>PySem.call f vs):=by
 intro w S s mg mb G Y b o pm cd doc B kV t hd j D g v args vals as h y m e u;obtain rfl:B=.none:=Dflts.none D i;obtain rfl:kV=.none:=Dflts.noKw D;obtain⟨a,vs,ns,rfl,rfl,H,hints,hlen⟩:=LP hn h e;refine enter_call (codeAny_mono (call w S s mg mb b o pm cd doc a vs ns G Y t (fd_plain hd) j g H hints hlen v) λr c p=>?_);obtain⟨rfl,A,z,x⟩:=p;exact⟨.inl ⟨.bool true,.bool true,[],rfl,λ_=>rfl,.bool true,Ij l _,λ_=>⟨List.Pairwise.nil,λ_ hm=>(nomatch hm)⟩⟩,A,z,x⟩
end Att
namespace L2
open PySem PySem.Spec PyProof.Rows
theorem JP:∀{vs:bP}{ns:bO},IntsAre vs ns->Vals (ns.map V.int) vs
 |_,_,.nil=>.nil|_,_,.cons n t h=>.cons ⟨t,rfl⟩ (JP h)
def K9 (H:Hp):Prop:=∀b,H b=none∨∃o xs,H b=some (.frz o (.lst xs))
def HJ {K:Frag}{mb:bY}{CX:wc}{k:Nat}{E:Addr}{sp:Sp}{S:Shared}{vs:bP}
  (U:K.In S.heap)(j:S.heap.Ns mainGlobals mg)(c:S.heap.Ns builtinsNs mb)(D:∀x:Str,x ≠ "__name__" -> mb x=bootBuiltins x)(p:S.heap.NoLimit)(hg:S.gens=#[])
  (y:S.heap.get? a=some { cls:=.type "list",data:=.seq vs.toArray })(hi:IntsAre vs ns)(L:ns.length<=sizeLine)(hr:jK k callerA)
  (F:∀base:Heap,K.In base->base.Ns mainGlobals mg->yC P w K mg base CX k E fd [x] sp)(g:∀(s:Shared)(u:Value),BindsTo s fd ⟨[u],[]⟩ [(x,u)])
  (B:∀H:Hp,K9 H->qM K H a (ns.map V.int)->sp [.ref a] H (λv _=>v=.bl true) λ_ _ _=>False)
  (X:∀H e f,CX [] H S (λ_ _ _=>False) e f->False):
  codeAny (model P w) callerA (.call (.ref E) ⟨[.ref a],[]⟩) (λr f=>r=.ok (.ret (.bool true))/\OldK S.heap f.heap/\f.os=S.os/\AllBare f.gens) S:=by
 have J:=JP hi;have l:=hi.length;have core:∀H:Hp,K9 H->qM K H a (ns.map V.int)->jB P w H S.heap->(∀b,H b≠none->b=a)->(H a≠none->K.lookup a=none)->
   codeAny (model P w) callerA (.call (.ref E) ⟨[.ref a],[]⟩) (λr f=>r=.ok (.ret (.bool true))/\OldK S.heap f.heap/\f.os=S.os/\AllBare f.gens) S:=by
  intro H M hS hok Q hK;have base_of:∀{b:Addr}{o:Obj},S.heap.get? b=some o->H b=none->(Zm S.heap H).get? b=some o:=λe n=>HE e n;have A:∀{b:Addr}{o:Obj}{es:Array DictEntry}{ep:Nat},S.heap.get? b=some o->o.data=.dict es ep->H b=none:=λ {b o es ep} e d=>by
   cases q:H b with
   |none=>rfl|some u=>
    have I:b=a:=Q b (by rw[q];simp)
    subst I;rw[y]at e;cases e;have d':Data.seq vs.toArray _=Data.dict es ep:=d;cases d'
  have N:∀{b:Addr}{m:bY},S.heap.Ns b m->(Zm S.heap H).Ns b m:=λ {b m} ⟨o,es,ep,e,d,r⟩=>⟨o,es,ep,base_of e (A e d),d,r⟩;have t:K.In (Zm S.heap H):=λb o e=>base_of (U b o e) (by
   cases q:H b with
   |none=>rfl|some u=>
    have I:b=a:=Q b (by rw[q];simp)
    subst I;rw[hK (by rw[q];simp)]at e;cases e)
  have hM:Mod K mg (Zm S.heap H):=⟨t,N j,⟨mb,N c,D⟩,let ⟨mc,h1,h2⟩:=p;⟨mc,N h1,h2⟩⟩
  have e0:KP P w K mg (Zm S.heap H) callerA [] S H:=⟨rfl,hM,λb o e=>Dh e,Nat.le_of_eq (L7 _ _),trivial,λb c=>absurd (show b∈([]:bQ) from c) (by simp),hok,.of_eq hg⟩
  refine codeAny_mono ((F _ t (N j)).run callerA [] S H ⟨[.ref a],[]⟩ [.ref a] [.ref a] _ _ hr e0 (g S (.ref a)) (.cons rfl .nil) (B H M hS)) λr f h=>?_;cases r with
  |error e=>exact(X H e f h).elim|ok fl=>
   cases fl with
   |next=>exact False.elim h|brk=>exact False.elim h|cont=>exact False.elim h|ret u=>
    obtain⟨v,H',os,bare,un,i,r',q⟩:=h;have q':v=.bl true:=q;subst q';obtain rfl:u=Value.bool true:=r';refine⟨rfl,OldK.of_keep λb o e=>?_,os,bare⟩;cases q:H b with
    |none=>exact un.keep b o e q (by intro z;exact absurd (show b∈([]:bQ) from z) (by simp)) (by simp)|some u=>
     rcases M b with z|⟨ob,xs,z⟩
     ·rw[q]at z;cases z
     ·have Y:=un.frzs b ob _ z
      obtain⟨T,_⟩:=hok b _ z;obtain⟨e2,_⟩:=i b _ Y;rw[e]at T;cases T;exact e2
 cases C:K.lookup a with
 |some o=>
  have e:=U a o C;rw[y]at e;cases e;refine core (λ_=>none) (λ_=>.inl rfl) (.inr ⟨_,vs.toArray,_,C,rfl,rfl,rfl,by rw[aA,l];exact L,by simpa using J⟩) (λb u z=>by have Z:(none:Option HO)=some u:=z;cases Z) (λb z=>absurd rfl z) λz=>absurd rfl z
 |none=>
  refine core (λb=>if b=a then some (.frz { cls:=.type "list",data:=.seq vs.toArray } (.lst (ns.map V.int))) else none) (λb=>?_) (.inl (.inr ⟨{ cls:=.type "list",data:=.seq vs.toArray },ah rfl⟩)) (λb u z=>?_) (λb z=>?_) λ_=>C
  ·by_cases c:b=a
   ·exact .inr ⟨_,_,ah c⟩
   ·exact .inl (aq c)
  ·by_cases c:b=a
   ·have Z:=(ah c).symm.trans z
    cases Z;subst c;exact⟨y,by rw[af];exact L,vs,_,J,y⟩
   ·have Z:=(aq c).symm.trans z
    cases Z
  ·by_cases c:b=a
   ·exact c
   ·exact absurd (aq c) z
noncomputable abbrev Ou {K:Frag}(_:K.In h):Frag:=K
def F5 {l:PySem.W.OpenLaw}{k:Nat}{q:Program}{loose:bT}{d:DefRec}{K:Params->Frag}{CX:World->wc}{sp:World->Sp}
  (hn:l.most=some n)(m:n<=sizeLine)(t:d.params.defaults=[])(A:jK k callerA)
  (E:∀(w:World)(h:Heap),YP w h->(K w.params).In h)
  (F:∀(w:World)(mg:bY)(c:Addr)(h:Heap),(K w.params).In h->h.Ns mainGlobals mg->mg d.name=some (.ref c)->
   ∃fd:FuncData,(∀(s:Shared)(u:Value),BindsTo s fd ⟨[u],[]⟩ [(x,u)])/\
    ∀base:Heap,(K w.params).In base->base.Ns mainGlobals mg->yC l.prog w (K w.params) mg base (CX w) k c fd [x] (sp w))
  (p:∀(w:World)(H:Hp)(a:Addr)(ns:bO),ns.length<=n->K9 H->qM (K w.params) H a (ns.map V.int)->sp w [.ref a] H (λv _=>v=.bl true) λ_ _ _=>False)
  (X:∀(w:World)(H:Hp)(s:Shared)(e:Value)(i:Shared),CX w [] H s (λ_ _ _=>False) e i->False):
  PySem.W.WalkO q loose XP YP l.row.toRowW d [] (λf vs=>PySem.call f vs):=by
 refine Att.Mf hn t λw y S mg mb c o pm cd doc a vs ns G Y M hd C r j hints hlen B=>?_;have z:=E w _ Y;obtain⟨fd,D,L⟩:=F w mg c _ z G.T.g r;exact HJ z G.T.g G.T.b G.T.builtins G.T.nolimit B j hints (bf hlen m) A L D (λH J I=>p w H a ns hlen J I) λH e i=>X w H S e i
noncomputable def Ja (s:Stmt):Arguments:=match s with
 |.FunctionDef _ a _ _ _ _ _ _ _ _=>a|_=>{ posonlyargs:=[],args:=[],vararg:=none,kwonlyargs:=[],kw_defaults:=[],kwarg:=none,defaults:=[] }
noncomputable def g9 (s:Stmt):b3:=match s with
 |.FunctionDef _ _ b _ _ _ _ _ _ _=>b|_=>[]
noncomputable def qm (s:Stmt):Scope:=match s with
 |.FunctionDef _ _ _ _ _ _ sc _ _ _=>sc|_=>{ kind:=.function,names:=[],isGenerator:=false,isCoroutine:=false }
noncomputable abbrev wM:wc:=λ_ _ _ _ _ _=>False
noncomputable abbrev E0:XK:=λ_ _ _=>False
def Am:Passes wM X E0:=λ_ _ _ _ _ _ _ h=>h.elim
structure gT (K:Frag)(x qual:Str)(st:Stmt)(f:Addr)(fd:FuncData):Prop where
 ex:∃(oc:Value) (od:b2) (kV doc pm:Value) (an:b2) (cdv ct:Value) (osl:Array (Option Value)),
  fd=fnOf x qual (Ja st) (g9 st) (qm st) .none kV doc pm an cdv ct/\K.lookup f=some ⟨oc,od,.func fd,osl⟩/\codeIn K cdv qual=true
 kp:keepIn K (.ref f)=true
section
variable {K:Frag}
def gT.ok {qual:Str}{st:Stmt}{f:Addr}{k:Nat}{sp:Sp}(F:gT K x qual st f fd)(S:qI N ps (qm st))(len:∀vs H Q E,sp vs H Q E->vs.length=ps.length)
  (y:∀(c:Value)(A:Around)(outer:bZ)(s:Shared)(H:Hp)(vs:List V)(Q:VK)(E:XK),jK k (A.deeper (envOfC qual (qm st) s.heap.objs.size f c))->sp vs H Q E->
   ∃t,yF (Z1 wM P w K mg base N qual (qm st) f c A outer s H E).nox (g9 st) t/\t { nx:=λ_ a=>Q .non a,rt:=Q } (start N vs) H):yC P w K mg base wM (k+1) f fd ps sp:=by
 obtain⟨e,b,kV,doc,pm,an,c,ct,o,rfl,l,d⟩:=F.ex;refine BZ l d S len λA outer s H vs Q E r p=>?_;obtain⟨t,h,q⟩:=y c A outer s H vs Q E r p;exact⟨t,h.nox,q⟩
def gT.binds {qual:Str}{st:Stmt}{f:Addr}(F:gT K x qual st f fd)
  (h:∀(kV doc pm:Value)(an:b2)(c ct:Value)(us:bP),us.length=ps.length->bindArgs (fnOf x qual (Ja st) (g9 st) (qm st) .none kV doc pm an c ct) ⟨us,[]⟩=pure (ps.zip us)):Binds K fd ps []:=by
 obtain⟨a,d,kV,doc,pm,an,c,ct,o,rfl,l,H⟩:=F.ex;exact .all (h kV doc pm an c ct)
def Cm {qual:Str}{st:Stmt}{f:Addr}{a:Value}{o an:b2}{kV doc pm C ct:Value}(l:K.lookup f=some ⟨a,o,.func (fnOf x qual (Ja st) (g9 st) (qm st) .none kV doc pm an C ct),osl⟩)
  (c:codeIn K C qual=true)(k:keepIn K (.ref f)=true):gT K x qual st f (fnOf x qual (Ja st) (g9 st) (qm st) .none kV doc pm an C ct):=⟨⟨a,o,kV,doc,pm,an,C,ct,osl,rfl,l,c⟩,k⟩
end
def Ah {A:Around}{k:Nat}(h:jK k A):A.units+1<cLine:=Nat.lt_of_le_of_lt (Nat.add_le_add_left (by decide:1<=64) _) h.units
section
variable {κ:Type}[DecidableEq κ]
noncomputable def yE (kvs:List (κ×V))(k:κ):Option V:=(kvs.find? λK=>decide (K.1=k)).map (·.2)
noncomputable def putK (kvs:List (κ×V))(k:κ)(v:V):List (κ×V):=
 if (kvs.any λK=>decide (K.1=k))=true then kvs.map (λK=>if K.1=k then(K.1,v) else K) else kvs++[(k,v)]
def Y2 {p:κ×V}{r:List (κ×V)}{k:κ}(e:p.1=k):yE (p::r) k=some p.2:=by simp[yE,find?_cons,e]
def YZ {p:κ×V}{r:List (κ×V)}{k:κ}(e:¬p.1=k):yE (p::r) k=yE r k:=by simp[yE,find?_cons,e]
theorem T6 (k:κ):∀kvs:List (κ×V),(kvs.any λK=>decide (K.1=k))=(yE kvs k).isSome
 |[]=>rfl|p::r=>by
  rw[any_cons]
  by_cases e:p.1=k
  ·simp only[Y2 e,ay e,Bool.true_or,isSome_some]
  ·rw[YZ e,aC e,Bool.false_or];exact T6 k r
def Mb (kvs:List (κ×V))(k:κ)(v:V):(putK kvs k v).length<=kvs.length+1:=by
 unfold putK
 split
 ·rw[af];omega
 ·rw[aw,aS,length_nil];omega
def FE {kvs:List (κ×V)}{k:κ}(v:V)(h:yE kvs k=none):putK kvs k v=kvs++[(k,v)]:=by
 unfold putK;rw[T6,h];exact aq (by decide)
def KV.val {kvs:List (κ×V)}{vs:List (κ×Value)}(r:KV kvs vs)(k:κ):Zj (yE kvs k) (valueAt vs k):=by
 unfold KV at r
 induction r with
 |nil=>exact True.intro|@cons p q ps Q h t i=>
  obtain⟨H,a⟩:=h
  by_cases e:p.1=k
  ·have E:q.1=k:=H.symm.trans e
   have b:valueAt (q::Q) k=some q.2:=by simp[valueAt,find?_cons,E]
   rw[Y2 e,b];exact a
  ·have E:¬q.1=k:=λz=>e (H.trans z)
   have b:valueAt (q::Q) k=valueAt Q k:=by simp[valueAt,find?_cons,E]
   rw[YZ e,b];exact i
theorem KV.any {kvs:List (κ×V)}{vs:List (κ×Value)}(r:KV kvs vs)(k:κ):(kvs.any λK=>decide (K.1=k))=vs.any λK=>decide (K.1=k):=by
 unfold KV at r
 induction r with
 |nil=>rfl|cons h t i=>rw[any_cons,any_cons,i,h.1]
def KV.repl {kvs:List (κ×V)}{vs:List (κ×Value)}(r:KV kvs vs)(k:κ){y:V}(a:RelV y u):
  KV (kvs.map λK=>if K.1=k then(K.1,y) else K) (vs.map λK=>if K.1=k then(K.1,u) else K):=by
 unfold KV at r ⊢
 induction r with
 |nil=>exact .nil|@cons p q ps Q h t i=>
  rw[aQ,aQ];refine .cons ?_ i;obtain⟨H,b⟩:=h
  by_cases e:p.1=k
  ·rw[ah e,ah (H.symm.trans e)];exact⟨H,a⟩
  ·rw[aq e,aq (λz=>e (H.trans z))];exact⟨H,b⟩
def KV.put {kvs:List (κ×V)}{vs:List (κ×Value)}(r:KV kvs vs)(k:κ){y:V}(a:RelV y u):KV (putK kvs k y) (stored vs k u):=by
 unfold putK stored;rw[r.any k]
 by_cases e:(vs.any λK=>decide (K.1=k))=true
 ·rw[ah e,ah e];exact r.repl k a
 ·rw[aq e,aq e];exact Paired.snoc r ⟨rfl,a⟩
theorem KV.length {kvs:List (κ×V)}{vs:List (κ×Value)}(r:KV kvs vs):kvs.length=vs.length:=Paired.length r
end
def Xu {k:Key}(r:RelV (kV k) u):(yu P w).is k u=true:=by
 cases k with
 |inl i=>obtain⟨t,e⟩:=(show ∃t,u=Value.int i t from r);subst e;exact Ma P w i t|inr x=>obtain⟨t,e⟩:=(show ∃t,u=Value.str x t from r);subst e;exact Mz P w x t
theorem U9:∀{ks:List Key}{us:bP},Vals (ks.map kV) us->ItemsAre (yu P w) ks us
 |[],_,r=>by rw[map_nil]at r;cases r;exact .nil|k::ks,_,r=>by
  rw[aQ]at r;cases r with
  |cons h t=>exact .cons (Xu h) (U9 t)
abbrev KT (H:Hp):List (List Key×V)->List (List Key×Addr×Value)->Prop:=Paired λp q=>p.1=q.1/\H q.2.1=some (.tup (p.1.map kV))/\RelV p.2 q.2.2
def KT.val {kvs:List (List Key×V)}{xs:List (List Key×Addr×Value)}(r:KT H kvs xs)(k:List Key):Zj (yE kvs k) ((atKey xs k).map (·.2)):=by
 induction r with
 |nil=>exact True.intro|@cons p q ps Q h t i=>
  obtain⟨a,_,c⟩:=h
  by_cases e:p.1=k
  ·have E:q.1=k:=a.symm.trans e
   have b:atKey (q::Q) k=some q.2:=by simp[atKey,find?_cons,E]
   rw[Y2 e,b];exact c
  ·have E:¬q.1=k:=λz=>e (a.trans z)
   have b:atKey (q::Q) k=atKey Q k:=by simp[atKey,find?_cons,E]
   rw[YZ e,b];exact i
section
def Pq {u:HO}(ok:jB P w H h)(e:Rd H a u):jy P w H h a u:=e.ok ok
def Xx (ok:jB P w H h)(e:Rd H a (.dK kvs)):kvs.length<=sizeLine/\(a==sysModules)=false/\∃vs,KV kvs vs/\h.DictOf (yu P w) a vs:=
 show jy P w H h a (.dK kvs) from Pq ok e
def PH (ok:jB P w H h)(e:H a=some (.dK kvs)):kvs.length<=sizeLine/\(a==sysModules)=false/\∃vs,KV kvs vs/\h.DictOf (yu P w) a vs:=Xx ok (.inl e)
def RM {ks:List Key}(ok:jB P w H h)(e:H a=some (.tup (ks.map kV))):(tupleKind (yu P w)).is h ks a:=by
 obtain⟨_,i,r,o,d,c,n,b⟩:=(show jy P w H h a (.tup (ks.map kV)) from ok a _ e)
 exact⟨o,i.toArray,n,d,c.1,b,by simpa using U9 r⟩
def Pj {kvs:List (List Key×V)}(ok:jB P w H h)(e:Rd H a (.dT kvs)):kvs.length<=sizeLine/\(a==sysModules)=false/\
  ∃xs,KT H kvs xs/\h.DictOfH (tupleKind (yu P w)) a xs:=by
 obtain⟨z,y,xs,r,o,E,s,n,j,g,f,d⟩:=(show jy P w H h a (.dT kvs) from Pq ok e)
 refine⟨z,y,xs,r,o,E,s,n,j,g,f,λx b=>?_,d⟩;have all:∀{l:List (List Key×V)}{m:List (List Key×Addr×Value)},KT H l m->∀x∈m,(tupleKind (yu P w)).is h x.1 x.2.1:=by
  intro l m q
  induction q with
  |nil=>intro x b;exact nomatch b
  |@cons p q ps Q c t i=>
   intro x b;rcases b9.mp b with e|b
   ·subst e
    exact RM ok (by rw[<- c.1];exact c.2.1)
   ·exact i x b
 exact all r x b
end
def Jq (H:Hp)(a:Addr)(y:V)(r:Option V):Prop:=
 (∃kvs k,Rd H a (.dK kvs)/\y=kV k/\r=yE kvs k)∨∃kvs k b,Rd H a (.dT kvs)/\y=.ref b/\H b=some (.tup (k.map kV))/\r=yE kvs k
theorem Jq.k {k:Key}(e:H a=some (.dK kvs)):Jq H a (kV k) (yE kvs k):=.inl ⟨kvs,k,.inl e,rfl,rfl⟩
section
variable {y:V}{o:Option V}{A:Around}
def Inv.big (I:Inv X pins σ H s):sysModules<s.heap.objs.size:=by
 have h:mainGlobals<s.heap.objs.size:=(I.mod.glob.keeps I.bk).lt;exact lt_trans (by decide) h
def Ls (j:A.units+1<cLine)(I:Inv X pins σ H s)(g:Jq H a y (some v))(i:RelV y u)(h:∀c S,Inv X pins σ H S->RelV v c->Q c S):
  wpAny (model X.prog X.w) A (getItem (.ref a) u) Q E s:=by
 rcases g with ⟨kvs,k,e,f,l⟩|⟨kvs,k,b,e,f,n,l⟩
 ·subst f
  obtain⟨z,hd,vs,rel,D⟩:=Xx I.hok e;obtain⟨c,hw,r⟩:=Zj.some_of (v:=v) (o:=valueAt vs k) (by rw[l];exact rel.val k)
  exact wpAny_getItem_of (Xu i) D.mapOf hw (h c _ (I.tok _) r)
 ·subst f
  cases (show u=Value.ref b from i)
  obtain⟨z,hd,xs,rel,D⟩:=Pj I.hok e;obtain⟨c,hw,r⟩:=Zj.some_of (v:=v) (o:=(atKey xs k).map (·.2)) (by rw[l];exact rel.val k)
  obtain⟨p,m,d⟩:=Option.map_eq_some_iff.mp hw;refine wpAny_getItem_heap (tupleKind_room_in1 j) (RM I.hok n) D m ?_;rw[d];exact h c _ (I.tok _) r
def FK {h':Heap}{ob:HO}(I:Inv X pins σ H s)(m:Yr (H a))(h:Heap.SameBut a s.heap h')(he:∃q,h'.get? a=some q)(new:jy X.prog X.w (upd H a ob) h' a ob):
  Inv X pins σ (upd H a ob) { s with heap:=h',toks:=t' }:=
 I.write (x:=a) (e:=a) m (.inl rfl) (λb q c z=>(h.2 b c).trans z) he new
def CI {H:Hp}{h':Heap}{vs:List (Key×Value)}(z:kvs.length<=sizeLine)(hd:(a==sysModules)=false)(rel:KV kvs vs)(d:h'.DictOf (yu P w) a vs):
  jy P w H h' a (.dK kvs):=⟨z,hd,vs,rel,d⟩
end
def XQ (i:Expr):Prop:=∀o I,subscripted i false o I=operate [o,I] (getItem o I)
def EW {prog:Program}{A:Around}{value slice:Expr}{T id:String}
  (l:typeLookup (.type T) "__getitem__"=pure (some (.builtin id)))(f:XQ slice)
  (h:wpAny (model prog w) A (eval value env) (λo b=>wpAny (model prog w) A (eval slice env) (λi S=>S.TypeIs o T/\wpAny (model prog w) A (getItem o i) Q E S) E b) E s):
  wpAny (model prog w) A (eval (.Subscript value slice pos) env) Q E s:=by
 refine Subscript_ (wpAny_mono h (λo b d=>wpAny_mono d (λi S H=>?_) λ_ _ x=>x) λ_ _ x=>x);obtain⟨e,H⟩:=H;unfold subscriptTail;refine b4 ?_;rw[getitemInPython_of_ne e.not_modules];refine b4 (wpAny_specialOf e l ?_);have fin:wpAny (model prog w) A (subscripted slice false o i) (λr a=>wpAny (model prog w) A (letTemporaryGo value o r >>= λ_=>pure r) Q E a) E S:=by
  rw[f o i];exact wpAny_operating (wpAny_mono H (λr a c=>b4 (wpAny_letTemporaryGo (b5 c))) λ_ _ x=>x)
 first
  |exact b5 (b4 fin)
  |exact b4 (b5 (b4 fin))
  |exact b4 fin
def Mj {y:V}{o:Option V}(I:Inv X pins σ H s)(g:Jq H a y o):s.TypeIs (.ref a) "dict":=by
 rcases g with ⟨kvs,k,e,_,_⟩|⟨kvs,k,b,e,_,_,_⟩
 ·obtain⟨_,_,vs,_,d⟩:=Xx I.hok e
  exact d.typeIs
 ·obtain⟨_,_,xs,_,d⟩:=Pj I.hok e
  exact d.typeIs
noncomputable def Bt (t ty:TE):TE:=λσ H Q=>t σ H λx H1=>ty σ H1 λy h=>∃a v,x=.ref a/\Jq h a y (some v)/\Q v h
section
variable {o i:Expr}{td ty:TE}
def F0 (f:X.A.units+1<cLine)(l:PE X o td)(hi:PE X i ty)(j:XQ i):PE X (.Subscript o i pos) (Bt td ty):=by
 intro pins s σ H Q I h;refine EW PySem.F.slot_dict_getitem.lookup j (zV (l pins s σ H _ I h) λu s1 ⟨x,H1,n,d,e⟩=>zV (hi pins s1 σ H1 _ n e) λt s2 ⟨y,p,b,c,a,v,ex,g,q⟩=>?_);subst ex;obtain rfl:u=Value.ref a:=d;exact⟨Mj b g,Ls f b g c λw s3 m r=>⟨v,p,m,r,q⟩⟩
end
def Fw (h:Heap)(b:sysModules<h.objs.size):jy P w H (h.push { cls:=.type "dict",data:=.dict #[] }) h.objs.size (.dK []):=
 ⟨zero_le _,beq_eq_false_iff_ne.mpr (Ne.symm (aJ b)),[],.nil,Heap.DictOf.new h⟩
def DF:TE:=λ_ H Q=>∀p,H p=none->Q (.ref p) (upd H p (.dK []))
section
def He:PE X (.Dict [] [] pos) DF:=λpins s σ H Q I h=>
 wpAny_Dict_empty ⟨.ref s.heap.objs.size,_,I.laid (a:=s.heap.objs.size) (o:=.dK []) (t':=s.toks) (λ_ _ q=>ae _ q) (aj _) (Fw s.heap I.big),rfl,h _ (I.hok.fresh (aj _))⟩
end
noncomputable def w5 (env:Env):List (Str×NameKind)->List (Str×Addr)->List (Str×Addr)
 |[],acc=>acc|(n,k)::r,acc=>w5 env r (if k==.free then(n,(env.cells.lookup n).getD 0)::acc else acc)
def HV (f:Str×NameKind->List (Str×Addr)->Sem (ForInStep (b0)))
  (hf:∀n k r,f (n,k) r=if (k==NameKind.free)=true then(do let c <- cellOf env n;pure (ForInStep.yield ((n,c)::r))) else pure (ForInStep.yield r)):
  ∀(names:List (Str×NameKind))(acc:b0),(∀y∈names,y.2=.free->∃c,env.cells.lookup y.1=some c)->(forIn names acc f:Sem (b0))=pure (w5 env names acc):=by
 intro names
 induction names with
 |nil=>intro acc _;rfl|cons y r i=>
  intro acc b;obtain⟨n,k⟩:=y;rw[forIn_cons,hf];unfold w5;have h:=i (if k==.free then(n,(env.cells.lookup n).getD 0)::acc else acc) (λy g=>b y (au _ g))
  by_cases a:k=.free
  ·subst a
   obtain⟨c,d⟩:=b (n,.free) av rfl;have e:cellOf env n=pure c:=by unfold cellOf;rw[d]
   have H:List.lookup n env.cells=some c:=d;simp only[e,H,Option.getD_some,bJ,if_true]at h ⊢;exact h
  ·have j:(k==NameKind.free)=false:=by simpa using a
   simp only[j,a9,if_false]at h ⊢;exact h
def Lj (h:∀y∈scope.names,y.2=.free->∃c,env.cells.lookup y.1=some c):closureFor scope env=pure (w5 env scope.names []):=by
 unfold closureFor;dsimp only;rw[HV _ (λn k r=>rfl) scope.names [] h]
 rfl
theorem QY {n:Str}{c:Addr}:∀(names:List (Str×NameKind))(acc:b0),(n,c)∈w5 env names acc->(n,c)∈acc∨((n,NameKind.free)∈names/\c=(env.cells.lookup n).getD 0)
 |[],acc,h=>.inl h|(x,k)::r,acc,h=>by
  unfold w5 at h;rcases QY r _ h with h|⟨d,a⟩
  ·by_cases H:k=.free
   ·subst H
    simp only[bJ,if_true]at h;rcases b9.mp h with e|h
    ·cases e;exact .inr ⟨av,rfl⟩
    ·exact .inl h
   ·have b:(k==NameKind.free)=false:=by simpa using H
    simp only[b,a9,if_false]at h;exact .inl h
  ·exact .inr ⟨au _ d,a⟩
theorem UQ {n:Str}:∀(names:List (Str×NameKind))(acc:b0),((n,NameKind.free)∈names∨(acc.lookup n).isSome=true)->((w5 env names acc).lookup n).isSome=true
 |[],acc,h=>by
  rcases h with h|h
  ·cases h
  ·exact h
 |(x,k)::r,acc,h=>by
  unfold w5;refine UQ r _ ?_;rcases h with h|h
  ·rcases b9.mp h with e|h
   ·cases e
    right
    simp
   ·exact .inl h
  ·right
   by_cases H:(k==NameKind.free)=true
   ·rw[ah H,lookup_cons]
    cases a:n==x
    ·exact h
    ·rfl
   ·rw[aq H];exact h
theorem WR {n:Str}{c:Addr}:∀(names:List (Str×NameKind))(k:Nat)(acc:b0),(n,c)∈cellsFrom k names acc->(n,c)∈acc∨(k<=c/\(n,NameKind.cell)∈names)
 |[],_,_,h=>.inl h|(x,q)::r,k,acc,h=>by
  unfold cellsFrom at h
  by_cases a:(q==NameKind.cell)=true
  ·rw[ah a]at h
   have H:q=.cell:=by simpa using a
   rcases WR r _ _ h with h|⟨d,b⟩
   ·rcases b9.mp h with e|h
    ·cases e;subst H;exact .inr ⟨aj _,av⟩
    ·exact .inl h
   ·exact .inr ⟨by omega,au _ b⟩
  ·rw[aq a]at h
   rcases WR r _ _ h with h|⟨d,b⟩
   ·exact .inl h
   ·exact .inr ⟨d,au _ b⟩
theorem WQ:∀(names:List (Str×NameKind))(k:Nat)(acc:b0),(∀n c,(n,c)∈acc->c<k)->(∀n N c,(n,c)∈acc->(N,c)∈acc->n=N)->∀n N c,(n,c)∈cellsFrom k names acc->(N,c)∈cellsFrom k names acc->n=N
 |[],_,_,_,hi,n,N,c,h,h'=>hi n N c h h'|(x,q)::r,k,acc,l,hi,n,N,c,h,h'=>by
  unfold cellsFrom at h h'
  by_cases a:(q==NameKind.cell)=true
  ·rw[ah a]at h h'
   refine WQ r (k+1) ((x,k)::acc) (λm d hm=>?_) (λm m' d hm H=>?_) n N c h h'
   ·rcases b9.mp hm with e|hm
    ·cases e;exact br _
    ·exact a7 (l m d hm)
   ·rcases b9.mp hm with e|hm
    ·rcases b9.mp H with E|H
     ·cases e;cases E;rfl
     ·cases e;exact absurd (l m' _ H) (aW _)
    ·rcases b9.mp H with E|H
     ·cases E;exact absurd (l m _ hm) (aW _)
     ·exact hi m m' d hm H
  ·rw[aq a]at h h'
   exact WQ r k acc l hi n N c h h'
theorem WJ {n:Str}{c:Addr}:∀(names:List (Str×NameKind))(h:Heap)(acc:b0),(n,c)∈cellsFrom h.objs.size names acc->(n,c)∈acc∨(pushCells h names).IsCell c none
 |[],_,_,q=>.inl q|(x,k)::r,h,acc,q=>by
  unfold cellsFrom at q;unfold pushCells
  by_cases H:(k==NameKind.cell)=true
  ·rw[ah H]at q ⊢
   have:=WJ r (h.push { cls:=.type "cell",data:=.cell none }) ((x,h.objs.size)::acc) (by rw[bc];exact q)
   rcases this with z|z
   ·rcases b9.mp z with e|z
    ·cases e
     exact .inr ⟨_,pushCells_keeps r _ _ _ (ar _ rfl),rfl⟩
    ·exact .inl z
   ·exact .inr z
  ·rw[aq H]at q ⊢
   exact WJ r h acc q
def OX {M:Model}{A:Around}{globals:Addr}{cl:b0}{qual:Str}{Q:Env->Shared->Prop}
  (h:Q { scope,locals:=s.heap.objs.size,globals,cells:=cellsFrom (s.heap.objs.size+1) scope.names cl,qual,func:=none,code:=env.code,frame:=env.frame,builtins:=env.builtins }
   { s with heap:=pushCells (s.heap.push { cls:=.type "dict",data:=.dict #[] }) scope.names }):
  wpAny M A (newFunctionEnv scope globals cl [] qual none .none (some env)) Q E s:=by
 simp only[newFunctionEnv,isSome_some,if_true];refine b4 (wpAny_alloc ?_);refine b4 (wpAny_layCells _ (λname kind cells=>by cases H:kind==NameKind.cell<;>simp[H]) _ _ _ _ ?_)
 rw[show({ s with heap:=s.heap.push { cls:=.type "dict",data:=.dict #[] } }:Shared).heap.objs.size=s.heap.objs.size+1 from bc ..]
 rw[forIn_nil];exact b4 (b5 (b5 h))
def jG (X:Cx)(N:bT)(scope:Scope)(s:Shared)(H:Hp)(fp:bQ)(xe:bU):Cx where
 prog:=X.prog
 w:=X.w
 K:=X.K
 mg:=X.mg
 base:=X.base
 A:=X.A
 N:=N
 s0:=s
 H0:=H
 env:={ scope:=relabel scope X.env,locals:=s.heap.objs.size,globals:=X.env.globals,cells:=cellsFrom (s.heap.objs.size+1) scope.names (w5 X.env scope.names []),qual:=X.env.qual,func:=none,code:=X.env.code,frame:=X.env.frame,builtins:=X.env.builtins }
 outer:=X.stack
 stack:=X.stack
 ex:=fp
 fn:=λx=>scope.names.lookup x==some .local || scope.names.lookup x==some .cell
 calm:=X.calm
 pn:=[]
 xe:=xe
structure gB (X:Cx)(scope:Scope):Prop where
 kind:scope.kind=.function
 nd:(scope.names.map (·.1)).Nodup
 free:∀y∈scope.names,y.2=.free->X.env.kindOf y.1=some .cell∨X.env.kindOf y.1=some .free
theorem QO {k:α}:∀{l:List (Str×α)},(l.map (·.1)).Nodup->(x,k)∈l->l.lookup x=some k
 |(y,q)::r,nd,h=>by
  rw[aQ,List.nodup_cons]at nd;rw[lookup_cons];rcases b9.mp h with e|h
  ·cases e;simp
  ·have ne:(x==y)=false:=by
    rw[beq_eq_false_iff_ne];intro e
    apply nd.1
    rw[<- e];exact List.mem_map_of_mem (f:=(·.1)) h
   rw[ne];exact QO nd.2 h
def WH {k:NameKind}(h:(relabel scope env).names.lookup x=some k):scope.names.lookup x=some k∨(k=.cell/\scope.names.lookup x=some .free/\env.kindOf x=some .cell):=by
 unfold relabel at h;dsimp only at h;generalize scope.names=names at h ⊢
 induction names with
 |nil=>cases h|cons y r i=>
  obtain⟨n,q⟩:=y;rw[aQ]at h;have split:(if (q==NameKind.free&&env.scope.kind==.function&&env.kindOf n==some .cell)=true then(n,NameKind.cell) else(n,q)).1=n:=by split<;>rfl
  rw[lookup_cons]at h ⊢;dsimp only at h;rw[split]at h;cases a:x==n with
  |false=>rw[a]at h;exact i h|true=>
   rw[a]at h;have e:x=n:=a6.mp a;subst e
   by_cases H:(q==NameKind.free&&env.scope.kind==.function&&env.kindOf x==some .cell)=true
   ·rw[ah H]at h
    simp only[ak,a6]at H;cases h
    right
    exact⟨rfl,by rw[H.1.1],H.2⟩
   ·rw[aq H]at h
    left
    exact h
section
def Inv.capt (I:Inv X pins σ H s)(S:gB X scope)(h:(x,NameKind.free)∈scope.names):∃c,X.env.cells.lookup x=some c:=I.ok.has x (S.free _ h rfl)
def JW (I:Inv X pins σ H s)(S:gB X scope){c:Addr}(h:(x,c)∈cellsFrom (s.heap.objs.size+1) scope.names (w5 X.env scope.names [])):
  ((x,NameKind.free)∈scope.names/\X.env.cells.lookup x=some c/\c<s.heap.objs.size)∨((x,NameKind.cell)∈scope.names/\s.heap.objs.size<c/\∀h0:Heap,h0.objs.size=s.heap.objs.size+1->(pushCells h0 scope.names).IsCell c none):=by
 rcases WR _ _ _ h with b|⟨b,d⟩
 ·left
  rcases QY _ _ b with z|⟨z,e⟩
  ·cases z
  ·obtain⟨C,a⟩:=I.capt S z
   rw[a]at e;have E:c=C:=e;subst E;obtain⟨v,q⟩:=I.cell x c a;exact⟨z,a,q.lt⟩
 ·right
  refine⟨d,b,λh0 f=>?_⟩;have h':=h;rw[<- f]at h';rcases WJ _ h0 _ h' with z|z
  ·exfalso
   rcases QY _ _ z with z|⟨z,e⟩
   ·cases z
   ·obtain⟨C,a⟩:=I.capt S z
    rw[a]at e;have E:c=C:=e;subst E;obtain⟨v,q⟩:=I.cell x c a;exact aW _ (aI (a7 q.lt) b)
  ·exact z
def Hl {xe:bU}{f:St}(I:Inv X pins σ H s)(S:gB X scope)(hf:∀b∈fp,ku X pins H b)(A:∀b∈fp,b<s.heap.objs.size)(hl:f.length=N.length)
  (hs:∀(j:Nat)(x:Str)(v:V),N[j]? =some x->f[j]? =some (some v)->(x,NameKind.free)∈scope.names/\∃i:Nat,X.N[i]? =some x/\σ[i]? =some (some v)):
  Inv (jG X N scope s H fp xe) [] f H { s with heap:=pushCells (s.heap.push { cls:=.type "dict",data:=.dict #[] }) scope.names }:=by
 have M:∀b o,s.heap.get? b=some o->(pushCells (s.heap.push { cls:=.type "dict",data:=.dict #[] }) scope.names).get? b=some o:=λb o e=>pushCells_keeps _ _ _ _ (ae _ e);have T:(s.heap.push { cls:=.type "dict",data:=.dict #[] }).objs.size=s.heap.objs.size+1:=bc ..;have l:∀{x:Str}{c:Addr},(jG X N scope s H fp xe).env.cells.lookup x=some c->(x,c)∈cellsFrom (s.heap.objs.size+1) scope.names (w5 X.env scope.names []):=λh=>PySem.mem_of_lookup h;have L:∀{x:Str},((jG X N scope s H fp xe).env.kindOf x=some .cell∨(jG X N scope s H fp xe).env.kindOf x=some .free)->∃c,(jG X N scope s H fp xe).env.cells.lookup x=some c:=λ {x} h=>by
  refine Option.isSome_iff_exists.mp (cellsFrom_some _ _ _ ?_);have two:scope.names.lookup x=some .cell∨scope.names.lookup x=some .free:=by
   rcases h with h|h
   ·rcases WH h with z|⟨_,z,_⟩
    ·exact .inl z
    ·exact .inr z
   ·rcases WH h with z|⟨z,_⟩
    ·exact .inr z
    ·cases z
  rcases two with z|z
  ·exact .inl z
  ·exact .inr (UQ _ _ (.inl (PySem.mem_of_lookup z)))
 have exP:∀b∈fp,∀x c,(jG X N scope s H fp xe).env.cells.lookup x=some c->c≠b:=λb a x c e=>by
  rcases JW I S (l e) with ⟨_,q,_⟩|⟨_,q,_⟩
  ·exact(hf b a).2.2.2.2.1 x c q
  ·intro z;subst z;exact aW _ (lt_trans q (A _ a))
 refine⟨⟨I.ok.mod,S.kind,I.ok.glob,I.ok.blt,aj _,λx y c h1 J=>?_,λx h=>L h,λx c g h=>?_,I.ok.hd,I.ok.frames,.inl rfl,λb a=>⟨?_,exP b a⟩,I.bs,bf I.ok.bsz I.sz,λb o e a=>?_,λb a z=>?_,I.stack,I.stkFree⟩,
  rfl,I.bare,Un.kept M,⟨λ_=>none,?_,λj x v h1 J h3=>?_⟩,λx c e=>?_,I.fresh,λx c e=>?_,λp hp=>?_,I.hok.kept M,hl⟩
 ·refine WQ _ _ _ (λn c h=>?_) (λn n' c h h'=>?_) x y c (l h1) (l J)
  ·rcases QY _ _ h with z|⟨z,e⟩
   ·cases z
   ·obtain⟨c',D⟩:=I.capt S z
    rw[D]at e;have P:c=c':=e;subst P;obtain⟨v,q⟩:=I.cell n c D;exact a7 q.lt
  ·rcases QY _ _ h with z|⟨z,e⟩
   ·cases z
   ·rcases QY _ _ h' with Z|⟨Z,P⟩
    ·cases Z
    ·obtain⟨d,hd⟩:=I.capt S z
     obtain⟨d',B⟩:=I.capt S Z;rw[hd]at e;rw[B]at P;have K:c=d:=e;have e2:c=d':=P;subst K;subst e2;exact I.ok.inj _ _ _ hd B
 ·rcases JW I S (l h) with ⟨z,_,_⟩|⟨_,z,_⟩
  ·exfalso
   have K:=QO S.nd z;have t:(scope.names.lookup x==some .local || scope.names.lookup x==some .cell)=true:=g;rw[K]at t;cases t
  ·exact bD z
 ·exact aJ (A b a)
 ·obtain⟨_,_,_,E,_⟩:=hf b a
  rcases E with E|E
  ·exact I.ok.noex b o e E
  ·exact absurd (aI (aH e) (bf I.ok.bsz E)) (aW _)
 ·obtain⟨_,J,h3,_⟩:=hf b a
  rcases b9.mp (I.stkSub b z) with e|e
  ·exact J e
  ·exact h3 e
 ·exact(Heap.Ns.new s.heap (.type "dict")).keeps (pushCells_keeps _ _)
 ·obtain⟨g,i,K,e2⟩:=hs j x v h1 J
  obtain⟨m,hn,Y⟩:=I.loc;have Q:Wc X.env.scope x:=.inr (S.free _ g rfl);obtain⟨u,r,lk⟩:=Y i x v K e2 Q;refine⟨u,r,.inr ?_⟩;have w:(jG X N scope s H fp xe).env.kindOf x=some .cell∨(jG X N scope s H fp xe).env.kindOf x=some .free:=by
   rcases h3 with z|z|z
   ·exfalso
    rcases WH z with Z|⟨Z,_⟩
    ·rw[QO S.nd g]at Z;cases Z
    ·cases Z
   ·exact .inl z
   ·exact .inr z
  refine⟨w,?_⟩;obtain⟨c,D⟩:=L w;refine⟨c,D,?_⟩;rcases JW I S (l D) with ⟨_,q,_⟩|⟨q,_,_⟩
  ·rcases lk with ⟨z,_⟩|⟨_,c',C,cell⟩
   ·exfalso
    rcases S.free _ g rfl with k|k<;>(rw[k]at z;cases z)
   ·rw[q]at C;cases C
    exact cell.keeps M
  ·exfalso
   have a1:=QO S.nd g;have a2:=QO S.nd q;rw[a1]at a2;cases a2
 ·rcases JW I S (l e) with ⟨_,q,_⟩|⟨_,_,q⟩
  ·obtain⟨v,z⟩:=I.cell x c q
   exact⟨v,z.keeps M⟩
  ·exact⟨_,q _ T⟩
 ·rcases JW I S (l e) with ⟨_,q,_⟩|⟨_,q,_⟩
  ·exact I.freeC x c q
  ·exact I.hok.fresh (bD q)
 ·have U:p∈([]:bR):=hp
  cases U
end
abbrev we:=Addr->St->Hp->(St->Hp->Prop)->Prop
noncomputable def Yi (elt:Expr)(gens:List Comprehension)(sc:Scope)(pos:Pos)(d:Nat)(acc:Value)(env:Env)(k:Sem Fin):Sem Fin:=
 match gens[d+1]? with
 |some g'=>do
  let x <- eval g'.iter env
  standAt g'.iter.pos
  let x <- foldedSetIterable g'.iter env x
  let _ <- runOwn (.compStart (.ListComp elt gens sc pos) (d+1) (<- holding [x] (pyIter x)) acc env) env
  k
 |none=>do
  (do let _ <- call (.builtin "list.append") [acc,<- eval elt env])
  k
theorem E3 {iter:Expr}{d:Nat}{it acc:Value}(h:gens[d]? =some ⟨tg,iter,ifs,0⟩)(H:∀g',gens[d+1]? =some g'->g'.is_async=0):
  compTurn (.ListComp elt gens sc pos) d it acc env=(do
   standAt iter.pos
   match <- pyNext it with
   |none=>pure (.done .next)|some v=>
    letOwnedTupleGo tg it v
    assign tg env v
    let mut ok:=true
    for c in ifs do
     if ok then ok <- isTrue c env (eval c env)
    if ok then Yi elt gens sc pos d acc env (again (.compLoop (.ListComp elt gens sc pos) d it acc env))
    else again (.compLoop (.ListComp elt gens sc pos) d it acc env)):=by
 unfold compTurn Yi;dsimp only;rw[h];cases hn:gens[d+1]? with
 |none=>rfl|some g'=>
  obtain⟨t',i,f,a⟩:=g';have e:a=0:=H _ hn;subst e
  rfl
def Zk (X:Cx)(ifs:bV)(t:TT):Prop:=
 ∀(pins:bR)(s:Shared)(σ:St)(H:Hp)(Q:Bool->Hp->Prop),Inv X pins σ H s->t σ H Q->
  wpAny (model X.prog X.w) X.A (forIn ifs true λc r=>if r=true then do let ok <- isTrue c X.env (eval c X.env);pure (ForInStep.yield ok) else pure (ForInStep.yield r)) (TP X pins σ Q) X.xe s
noncomputable def An:TT:=λ_ H Q=>Q true H
def Hr:Zk X [] An:=λpins s σ H Q I h=>wpAny_tests_nil ⟨H,I,h⟩
def Fd {c:Expr}{t:TT}(h:PT X c t):Zk X [c] t:=λpins s σ H Q I hw=>wpAny_tests_one (h pins s σ H Q I hw)
def kR (X:Cx)(elt:Expr)(gens:List Comprehension)(sc:Scope)(pos:Pos)(d:Nat)(t:we):Prop:=
 ∀(pins:bR)(s:Shared)(σ:St)(H:Hp)(D:Addr)(Q:St->Hp->Prop)(k:Sem Fin)(Q':Fin->Shared->Prop)(E:bU),Inv X pins σ H s->t D σ H Q->
  (∀S a h,Inv X pins a h S->Q a h->wpAny (model X.prog X.w) X.A k Q' E S)->wpAny (model X.prog X.w) X.A (Yi elt gens sc pos d (.ref D) X.env k) Q' E s
def Bx (t:TE):we:=λD σ H Q=>t σ H λy H1=>∃Y,H1 D=some (.lst Y)/\Y.length<sizeLine/\Q σ (upd H1 D (.lst (Y++[y])))
def Yf (J:It)(g:TG)(ti:TT)(tm:we):we:=λD σ H Q=>∃W:Nat->Nat->St->Hp->Prop,(∃m,W 0 m σ H)/\∀i m σ H,W i m σ H->
 (J.stop i H/\Q σ H)∨(J.go i H/\∃N:St->Hp->Prop,(∀c h,N c h->∃m',m'<m/\W (i+1) m' c h)/\∀x h,J.yld i H x h->g x σ h λa H1=>ti a H1 λb d=>if b=true then tm D a d N else N a d)
def B6 (w:TI)(g:TG)(ti:TT)(tm:we):we:=λD σ H Q=>w σ H λJ H1=>Yf J g ti tm D σ H1 Q
section
variable {iter:Expr}{d:Nat}
def Jg (h:∀e s,X.xe e s->False){t:Sem α}{Q':α->Shared->Prop}{S:Shared}(H:wpAny (model X.prog X.w) X.A t Q' X.xe S):wpAny (model X.prog X.w) X.A t Q' E S:=
 wpAny_mono H (λ_ _ z=>z) λe S z=>(h e S z).elim
def Ft {t:TE}(x:∀e s,X.xe e s->False)(he:PE X elt t)(g:gens[d+1]? =none):kR X elt gens sc pos d (Bx t):=by
 intro pins s σ H D Q k Q' E I h b;unfold Yi;rw[g];refine b4 (b4 (Jg x (zV (he pins s σ H _ I h) λu s1 ⟨y,H1,f,r,Y,c,z,a⟩=>?_)));refine b4 (Jg x (zV (Ta pins s1 σ H1 (.ref D) [y] (.ref D) [u] (λ_ l=>Q σ l) f rfl (.cons r .nil) ⟨D,Y,y,rfl,rfl,c,z,a⟩) λ_ s2 ⟨_,j,i,_,q⟩=>?_));exact b5 (b s2 σ j i q)
def ET {g:TG}{ti:TT}{tm:we}(Z:∀e s,X.xe e s->False)(hc:X.calm=true)(hg:gens[d]? =some ⟨tg,iter,ifs,0⟩)(ha:∀g',gens[d+1]? =some g'->g'.is_async=0)(P:PG X tg g)(hi:Zk X ifs ti)(hm:kR X elt gens sc pos d tm)
  {Q:St->Hp->Prop}{J:It}{it:Addr}{C:Nat->Heap->Prop}(T:Turn X.prog X.w X.K tg J fp it C)(I:Inv X pins σ H s)(st:C 0 s.heap)(hf:∀b∈fp,ku X pins H b)
  (h:Yf J g ti tm D σ H Q){R:Result->Shared->Prop}(hR:∀z a c,Inv X pins a c z->Q a c->R (.ok .next) z):
  codeAny (model X.prog X.w) X.A (.compLoop (.ListComp elt gens sc pos) d (.ref it) (.ref D) X.env) R s:=by
 obtain⟨W,⟨m0,w0⟩,turn⟩:=h;have S:∀{c:Hp},(∀b∈fp,c b=none)->∀b∈fp,ku X pins c b:=λhn b l=>⟨hn b l,(hf b l).2⟩;refine codeAny_loop rfl (λn z=>∃i a c,Inv X pins a c z/\C i z.heap/\(∀b∈fp,c b=none)/\W i n a c) (λn s3 hI=>?_) m0 ⟨0,σ,H,I,st,λb l=>(hf b l).1,w0⟩;show wpAny _ X.A ((compTurn (.ListComp elt gens sc pos) d (.ref it) (.ref D) X.env).onRaise (λx=>do noteFrame x X.env;theTreesLotGoes x)) _ _ s3
 refine wpAny_noted ?_;rw[E3 hg ha];refine b4 (wpAny_standAt ?_);obtain⟨i,j,E,I3,gm,B,w3⟩:=hI;rcases turn i n j E w3 with ⟨stop,qn⟩|⟨go,N,hN,step⟩
 ·refine b4 (zV (T.done X rfl rfl rfl hc i pins s3 j E _ I3 (S B) gm stop) λr s4 ⟨M,I4⟩=>?_)
  subst M;exact b5 (hR s4 j E I4 qn)
 ·refine b4 (zV (T.item X rfl rfl rfl hc i pins s3 j E _ I3 (S B) gm go) λr s4 ⟨u,M,h4⟩=>?_)
  subst M;refine b4 (zV h4 λ_ s5 ⟨x,H5,I5,r5,y5,p,U⟩=>?_);have Y:=I5.pinned (S U) (T.obj _ _ p);have back:∀{f:St}{q:Hp}{t:Shared},Inv X (pins++Yc fp s5.heap) f q t->N f q->∃m,m<n/\∃i a c,Inv X pins a c t/\C i t.heap/\(∀b∈fp,c b=none)/\W i m a c:=λ {f q t} v n7=>by
   obtain⟨m',hm,w7⟩:=hN f q n7;refine⟨m',hm,i+1,f,q,v.unpinned,T.keep _ _ _ p λb l o e=>(v.pin (b,o) (a3 _ (a3 _ (YT l e)))).1,λb l=>?_,w7⟩;obtain⟨o,e,d⟩:=T.obj _ _ p b l;exact(v.pin (b,o) (a3 _ (a3 _ (YT l e)))).2.1
  refine b4 (Jg Z (zV (P _ s5 j H5 x u _ Y r5 (step x H5 y5)) λ_ s6 ⟨y,H6,I6,q6⟩=>?_));refine b4 (Jg Z (zV (hi _ s6 y H6 _ I6 q6) λok t ⟨q,v,L⟩=>?_));cases ok with
  |false=>exact b5 ⟨rfl,back v L⟩|true=>
   rw[ah rfl]at L;exact hm _ t y q D _ _ _ _ v L λs8 σ8 H8 I8 q8=>b5 ⟨rfl,back I8 q8⟩
def PC {g:TG}{ti:TT}{tm:we}(i:∀e s,X.xe e s->False)(j:X.calm=true)(c:gens[d]? =some ⟨tg,iter,ifs,0⟩)(m:∀g',gens[d+1]? =some g'->g'.is_async=0)(t:PG X tg g)(hi:Zk X ifs ti)(hm:kR X elt gens sc pos d tm)
  {Q:St->Hp->Prop}{J:It}{it:Addr}{n:Nat->Heap->Prop}(T:Turn X.prog X.w X.K tg J fp it n)(I:Inv X pins σ H s)(st:n 0 s.heap)(hf:∀b∈fp,ku X pins H b)
  (h:Yf J g ti tm D σ H Q){R:Result->Shared->Prop}(o:∀S a f,Inv X pins a f S->Q a f->R (.ok .next) S):
  codeAny (model X.prog X.w) X.A (.compStart (.ListComp elt gens sc pos) d (.ref it) (.ref D) X.env) R s:=by
 have loop:=ET i j c m t hi hm T I st hf h o;refine codeAny_of_tree ?_;show wpAny _ _ ((compStart (.ListComp elt gens sc pos) d (.ref it) (.ref D) X.env).onRaise (λx=>do noteFrame x X.env;standAt theWindowsPlace)) _ _ s
 refine wpAny_notedAt ?_;unfold compStart;have l:(clausesOf (.ListComp elt gens sc pos))[d]? =some ⟨tg,iter,ifs,0⟩:=c;rw[l];show wpAny _ _ (ask >>= _) _ _ s;refine b4 (wpAny_askSetting (wpAny_ite ?_))
 split
 ·first
   |exact b4 (b5 (b5 (And.intro rfl loop)))
   |exact b5 (And.intro rfl loop)
 ·first
   |exact b4 (wpAny_rule (b4 (wpAny_standAt (b4 (T.self _ 0 s _ _ st (b5 (And.intro rfl loop)))))))
   |(refine b4 (wpAny_rule ?_);show wpAny _ _ (standAt iter.pos >>= _) _ _ s;exact b4 (wpAny_standAt (b4 (T.self _ 0 s _ _ st (b5 (And.intro rfl loop))))))
def IT {w:TI}{g:TG}{ti:TT}{tm:we}(b:∀e s,X.xe e s->False)(m:X.calm=true)(c:gens[d+1]? =some ⟨tg,iter,ifs,0⟩)(n:∀g',gens[d+2]? =some g'->g'.is_async=0)(hw:PI X tg iter w)(t:PG X tg g)(hi:Zk X ifs ti)(hm:kR X elt gens sc pos (d+1) tm)
  (j:∀x,foldedSetIterable iter X.env x=pure x:=by intro _;rfl):kR X elt gens sc pos d (B6 w g ti tm):=by
 intro pins s σ H D Q k Q' E I h l;unfold Yi;rw[c];refine b4 (Jg b (zV (hw pins s σ H _ I h) λv s1 p=>?_));refine b4 (wpAny_standAt (b4 (wpAny_of_eq (j v) ?_)));refine b4 (wpAny_holding (Jg b (zV p λi s2 o=>?_)));obtain⟨it,fp,z,J,A,e,r,T,wK,f2,q⟩:=o;subst e;refine b4 (wpAny_runOwn (PC b m c n t hi hm T r wK f2 q λS a y u f=>?_));exact l S a y u f
end
noncomputable def gM (nl:Nat)(cap:bS)(σ:St):St:=List.replicate nl none++cap.map λi=>(σ[i]?).join
noncomputable def ZY (M N:bT)(scope:Scope)(nl:Nat)(cap:bS):Bool:=
 N.length==nl+cap.length&&(List.range cap.length).all λk=>match N[nl+k]?,M[cap.getD k 0]? with
  |some x,some y=>x==y&&scope.names.any λz=>z.1==x&&z.2==NameKind.free|_,_=>false
def Hq {M:bT}{nl:Nat}(h:ZY M N scope nl cap=true):(gM nl cap σ).length=N.length/\
  ∀(j:Nat)(x:Str)(v:V),N[j]? =some x->(gM nl cap σ)[j]? =some (some v)->(x,NameKind.free)∈scope.names/\∃i:Nat,M[i]? =some x/\σ[i]? =some (some v):=by
 unfold ZY at h;rw[ak,a6]at h;obtain⟨n,m⟩:=h;refine⟨by unfold gM;simp[n],λj x v r E=>?_⟩
 unfold gM at E
 by_cases b:j<nl
 ·rw[ai (by simpa using b),List.getElem?_replicate]at E
  split at E<;>cases E
 ·rw[az (by simpa using b),length_replicate,ao]at E
  cases c:cap[j-nl]? with
  |none=>rw[c]at E;cases E|some i=>
   rw[c]at E;have e:(σ[i]?).join=some v:=aD E;have f:j-nl<cap.length:=(b8.mp c).1;have H:=cc.mp m (j-nl) (b6.mpr f);have p:nl+(j-nl)=j:=by omega
   rw[p,r]at H;have q:cap.getD (j-nl) 0=i:=by rw[ab,c];rfl
   rw[q]at H;cases hm:M[i]? with
   |none=>rw[hm]at H;cases H|some y=>
    rw[hm]at H;rw[ak,a6]at H;obtain⟨l,g⟩:=H;subst l;obtain⟨z,d,a⟩:=List.any_eq_true.mp g;rw[ak,a6,a6]at a;refine⟨?_,i,hm,?_⟩
    ·obtain⟨t,Z⟩:=z
     obtain⟨a1,a2⟩:=a;cases a1;cases a2;exact d
    ·cases s:σ[i]? with
     |none=>rw[s]at e;cases e|some o=>rw[s]at e;cases o with
      |none=>cases e|some w=>cases e;rfl
noncomputable abbrev yn:Value->Shared->Prop:=λ_ _=>False
def Kw (K:Frag)(w:TI)(g:TG)(ti:TT)(tm:we)(nl:Nat)(cap:bS):TE:=λσ H Q=>w σ H λJ h=>∀D,h D=none->K.lookup D=none->Yf J g ti tm D (gM nl cap σ) (upd h D (.lst [])) λ_ a=>Q (.ref D) a
section
variable {iter:Expr}{wi:TI}{g:TG}{ti:TT}{tm:we}{nl:Nat}
def Sv (hc:X.calm=true)(S:gB X sc)(B:ZY X.N N sc nl cap=true)(ha:∀g',gs[0]? =some g'->g'.is_async=0)(hw:PI X tg iter wi)
  
  (hin:∀s H fp,Inv X pins σ H s->(∀b∈fp,ku X pins H b)->PG (jG X N sc s H fp yn) tg g/\Zk (jG X N sc s H fp yn) ifs ti/\kR (jG X N sc s H fp yn) elt (⟨tg,iter,ifs,0⟩::gs) sc pos 0 tm)
  {Q:VK}(I:Inv X pins σ H s)(h:Kw X.K wi g ti tm nl cap σ H Q)
  {use:Option (Value->Sem Unit)}{Q':bU}
  (t:∀(D C:Addr)(l:Shared)(r:Hp)(m:bY),Inv X pins σ r l->Q (.ref D) r->l.heap.Ns C m->r C=none->C≠X.env.locals->X.s0.heap.objs.size<=C->(∀x c,X.env.cells.lookup x=some c->c≠C)->(∀q∈X.pn++pins,q.1≠C)->
   compPost (model X.prog X.w) X.A X.xe use Q' (.ref D) C (.ok .next) l)
  (hs:∀x,foldedSetIterable iter X.env x=pure x:=by intro _;rfl):
  wpAny (model X.prog X.w) X.A (comprehension (.ListComp elt (⟨tg,iter,ifs,0⟩::gs) sc pos) sc X.env p (newList []) false (eval iter X.env) use) Q' X.xe s:=by
 have j:∀y∈sc.names,y.2=.free->∃c,X.env.cells.lookup y.1=some c:=λy Z e=>I.ok.has _ (S.free y Z e);refine wpAny_comprehension_free (use:=use) rfl hs (Lj j) S.kind (λy Z e=>by
  obtain⟨y1,y2⟩:=y;have e':y2=.local:=e;subst e';exact QO S.nd Z) ?_
 refine zV (hw pins s σ H _ I h) λv s1 h1=>zV h1 λitv s2 h2=>?_;obtain⟨it,fp,tn,J,P,e,I2,T,wK,f2,q2⟩:=h2;subst e;refine wpAny_newObj_type ?_;have hD:P s2.heap.objs.size=none:=I2.fresh;have hKD:X.K.lookup s2.heap.objs.size=none:=by
  cases ek:X.K.lookup s2.heap.objs.size with
  |none=>rfl|some o=>exact absurd (aH (I2.kIn _ _ ek)) (aW _)
 have Y:=q2 _ hD hKD;generalize hs3:({ s2 with heap:=s2.heap.push { cls:=.type "list",data:=.seq ([]:bP).toArray } }:Shared)=s3
 have f:s3={ s2 with heap:=s2.heap.push { cls:=.type "list",data:=.seq ([]:bP).toArray } }:=hs3.symm
 have i:Inv X pins σ (upd P s2.heap.objs.size (.lst [])) s3:=by
  rw[f];exact I2.laid (t':=s2.toks) (λb u e=>ae _ e) (aj _) ⟨by simp,[],0,.nil,ar _ rfl⟩
 have E:∀b∈fp,∃o,s2.heap.get? b=some o:=λb a=>let ⟨o,e,_⟩:=T.obj 0 _ wK b a;⟨o,e⟩
 have U:s3.heap.objs.size=s2.heap.objs.size+1:=by rw[f];exact bc ..
 have gm:tn 0 s3.heap:=T.keep _ _ _ wK λb a o e=>by rw[f];exact ae _ e
 have L:∀b∈fp,b<s3.heap.objs.size:=λb a=>by
  obtain⟨o,e⟩:=E b a;rw[U];exact a7 (aH e)
 have M:∀b∈fp,ku X pins (upd P s2.heap.objs.size (.lst [])) b:=λb a=>by
  obtain⟨o,e⟩:=E b a;refine⟨?_,(f2 b a).2⟩;rw[qC (aJ (aH e))];exact(f2 b a).1
 generalize upd P s2.heap.objs.size (.lst [])=H3 at i M Y;generalize s2.heap.objs.size=D at Y ⊢;refine OX ?_;obtain⟨cl,cs⟩:=Hq B (σ:=σ);have I4:=Hl (xe:=yn) i S M L cl cs;obtain⟨hgt,hi,hm⟩:=hin s3 H3 fp i M;refine PC (X:=jG X N sc s3 H3 fp yn) (gens:=⟨tg,iter,ifs,0⟩::gs) (d:=0) (λ_ _ z=>z) hc rfl ha hgt hi hm T I4 (T.keep _ _ _ gm λb a o e=>pushCells_keeps _ _ _ _ (ae _ e)) (λb a=>?_) Y λl σ' r n q'=>?_
 ·obtain⟨g1,g2,g3,g4,g5,g6⟩:=M b a
  refine⟨g1,aJ (L b a),λz=>?_,.inl a,(I4.ok.exf b a).2,λp hp=>absurd (show p∈([]:bR) from hp) (by simp)⟩
  rcases b9.mp (i.stkSub b z) with e|e
  ·exact g2 e
  ·exact g3 e
 ·have I5:Inv X pins σ r l:=i.call' n.os n.base n.hok n.bare λb a=>by
   obtain⟨g1,g2,g3,g4,g5,g6⟩:=M b a;exact⟨g4,g2,g5,g6⟩
  obtain⟨m,hn,_⟩:=n.loc;refine t D _ l r m I5 q' hn n.free (bj i.lt) i.sz (λx c e z=>?_) λq hq z=>?_
  ·obtain⟨v,w⟩:=i.cell x c e
   exact aW _ (aI w.lt (by rw[z];exact aj _))
  ·exact aW _ (aI (aH (i.pin q hq).1) (by rw[z];exact aj _))
def Dw (f:X.calm=true)(S:gB X sc)(p:ZY X.N N sc nl cap=true)(j:∀g',gs[0]? =some g'->g'.is_async=0)(hw:PI X tg iter wi)
  (n:∀s H fp,PG (jG X N sc s H fp yn) tg g/\Zk (jG X N sc s H fp yn) ifs ti/\kR (jG X N sc s H fp yn) elt (⟨tg,iter,ifs,0⟩::gs) sc pos 0 tm)
  (d:∀x,foldedSetIterable iter X.env x=pure x:=by intro _;rfl):PE X (.ListComp elt (⟨tg,iter,ifs,0⟩::gs) sc pos) (Kw X.K wi g ti tm nl cap):=by
 intro pins s σ H Q I h;rw[eval_ListComp];refine Sv (use:=none) f S p j hw (λs H fp _ _=>n s H fp) I h (λD C c y m w q hn v u t r l=>?_) d;exact⟨m,hn,λh' a=>⟨.ref D,y,w.turned (t':=c.toks) (λb o i e=>(a.2 b i).trans e) v u (.inr t) r l,rfl,q⟩⟩
def M9 {p:Pos}{c:Pos}(T:X.N.Nodup)(l:X.N[i]? =some x)(t:X.env.scope.names.lookup x=some .local)
  (w:swapsWith (.ListComp elt (⟨tg,iter,ifs,0⟩::gs) sc pos) (some (.Name x p)) c.line X.env=pure true)
  (M:X.calm=true)(S:gB X sc)(d:ZY X.N N sc nl cap=true)(Q:∀g',gs[0]? =some g'->g'.is_async=0)(hw:PI X tg iter wi)
  (n:∀s H fp,PG (jG X N sc s H fp yn) tg g/\Zk (jG X N sc s H fp yn) ifs ti/\kR (jG X N sc s H fp yn) elt (⟨tg,iter,ifs,0⟩::gs) sc pos 0 tm)
  (J:∀x,foldedSetIterable iter X.env x=pure x:=by intro _;rfl):PS X (.Assign [.Name x p] (.ListComp elt (⟨tg,iter,ifs,0⟩::gs) sc pos) c) (KW (Kw X.K wi g ti tm nl cap) (KA i)):=by
 intro pins s σ H D I h;rw[exec_Assign_Name_used _ _ _ _ w];refine b4 (wpAny_standAt (b4 ?_));show wpAny _ X.A (do let _ <- comprehension (.ListComp elt (⟨tg,iter,ifs,0⟩::gs) sc pos) sc X.env _ (newList []) false (eval iter X.env) (some (assign (.Name x p) X.env))) _ _ s
 refine b4 (wpAny_mono (Sv (use:=some (assign (.Name x p) X.env)) (Q':=λ_ j=>SP X pins D .next j) M S d Q hw (λs H fp _ _=>n s H fp) I h (λB C j H' m I' q hn Z y Y u U=>?_) J) (λ_ j L=>b5 (b5 L)) λ_ _ e=>e);show wpAny _ X.A (assign (.Name x p) X.env (.ref B)) _ _ _;refine wpAny_assign_Name (Tb I' T l (.inl t) (v:=.ref B) rfl (λs2 I2 ⟨a,E,ea⟩=>?_) (.inr t));have r:C≠a:=by
  rcases ea with e|e
  ·rw[e];exact y
  ·exactλz=>u x a e z.symm
 refine⟨m,hn.sameBut E r,λh' f=>⟨_,H',I2.turned (t':=s2.toks) (λb o P e=>(f.2 b P).trans e) Z y (.inr Y) u U,q⟩⟩
end
end L2
namespace Mi
open PySem PySem.Spec PyProof.Rows L2
inductive W where
 |non|bl (b:Bool)|int (i:Int)|str (x:Str)|tup (xs:List W)|ref (n:Nat)
 |clo (k:Nat) (xs:List W) (P:Obj->Addr->Obj->List V->Prop)
 |xc (x:Str)
inductive O where
 |lst (xs:List W)|ro (xs:List W)|dct (kvs:List (Key×W))
 |tab (q:Str) (P:Addr)
noncomputable def O.mut:O->Bool
 |.ro _=>false|_=>true
noncomputable abbrev Hx:=List O
noncomputable abbrev En:=List (Option W)
inductive R (α:Type) where
 |ok (a:α) (A:Hx)|exc (x:Str) (A:Hx)|bad
noncomputable def R.bind {β:Type}(r:R α)(f:α->Hx->R β):R β:=match r with
 |.ok a A=>f a A|.exc x A=>.exc x A|.bad=>.bad
def R.post (r:R α)(P:α->Hx->Prop)(E:Str->Hx->Prop):Prop:=match r with
 |.ok a A=>P a A|.exc x A=>E x A|.bad=>False
noncomputable def R.nox (r:R α):R α:=match r with
 |.ok a A=>.ok a A|.exc _ _=>.bad|.bad=>.bad
section
variable {β:Type}{r:R α}{f:α->Hx->R β}{P Q:α->Hx->Prop}{P':β->Hx->Prop}{E F:Str->Hx->Prop}
def zM {a:α}{A:Hx}:(R.ok a A).bind f=f a A:=rfl
def zZ:(r.bind f).post P' E↔r.post (λa A=>(f a A).post P' E) E:=by cases r<;>exact Iff.rfl
def qp (h:r.post P E)(H:∀a A,P a A->Q a A)(b:∀x A,E x A->F x A):r.post Q F:=by
 cases r with
 |ok a A=>exact H _ _ h|exc x A=>exact b _ _ h|bad=>exact h
end
abbrev Ev:=En->Hx->R W
inductive zaj (K:Frag)(H:Hp)(R:List V->Prop)(v:V):Prop
 |mk (a:Addr) (vs:List V) (e:v=.ref a) (h:qE K H a vs) (r:R vs)
inductive AU (H:Hp)(P:Obj->Addr->Obj->List V->Prop)(R:List V->Prop)(v:V):Prop
 |mk (a:Addr) (ob:Obj) (u:HO) (c:Addr) (oc:Obj) (uc:HO) (vs:List V) (e:v=.ref a) (h1:H a=some (.frz ob u)) (h2:H c=some (.frz oc uc)) (p:P ob c oc vs) (r:R vs)
inductive AI (R:V->Prop)(Rs:List V->Prop)(vs:List V):Prop
 |mk (v:V) (r:List V) (e:vs=v::r) (h:R v) (t:Rs r)
mutual
noncomputable def RV (K:Frag)(φ:bQ)(H:Hp):W->V->Prop
 |.non,v=>v=.non|.bl b,v=>v=.bl b|.int i,v=>v=.int i|.str x,v=>v=.str x|.tup ws,v=>zaj K H (zF K φ H ws) v|.ref n,v=>∃a,v=.ref a/\φ[n]? =some a|.clo _ ws P,v=>AU H P (zF K φ H ws) v|.xc x,v=>∃a o u C,v=.ref a/\H a=some (.frz o u)/\o.cls=.ref C/\nsIn K mainGlobals x=some (some (.ref C))
noncomputable def zF (K:Frag)(φ:bQ)(H:Hp):List W->List V->Prop
 |[],vs=>vs=[]|w::ws,vs=>AI (RV K φ H w) (zF K φ H ws) vs
end
structure Le (K:Frag)(φ:bQ)(H:Hp)(φ':bQ)(H':Hp):Prop where
 ex:∀(n:Nat)(a:Addr),φ[n]? =some a->φ'[n]? =some a
 tp:∀a vs,qE K H a vs->qE K H' a vs
 fr:∀a o,H a=some o->(∀n:Nat,φ[n]?≠some a)->H' a=some o
 nw:∀(n:Nat)(a:Addr),φ'[n]? =some a->φ[n]? =some a∨H a=none
 st:∀a,H' a=none->H a=none
 fz:∀a o u,H a=some (.frz o u)->H' a=some (.frz o u)
def Le.refl {K φ H}:Le K φ H φ H:=⟨λ_ _ h=>h,λ_ _ h=>h,λ_ _ h _=>h,λ_ _ h=>.inl h,λ_ h=>h,λ_ _ _ h=>h⟩
def Le.trans {K φ H φ1 H1 φ2 H2}(a:Le K φ H φ1 H1)(b:Le K φ1 H1 φ2 H2):Le K φ H φ2 H2 where
 ex:=λn x h=>b.ex n x (a.ex n x h)
 tp:=λn x h=>b.tp n x (a.tp n x h)
 fr:=λc o h n=>b.fr c o (a.fr c o h n) λk e=>by
  rcases a.nw k c e with e|e
  ·exact n k e
  ·rw[h]at e;cases e
 nw:=λn c e=>by
  rcases b.nw n c e with e|e
  ·exact a.nw n c e
  ·exact .inr (a.st c e)
 st:=λc e=>a.st c (b.st c e)
 fz:=λc o u h=>b.fz c o u (a.fz c o u h)
def Le.off {K φ H φ' H'}(l:Le K φ H φ' H'){o:HO}(h:H D=some o)(n:∀k:Nat,φ[k]?≠some D):H' D=some o/\∀k:Nat,φ'[k]?≠some D:=
 ⟨l.fr D o h n,λk e=>by
  rcases l.nw k D e with e|e
  ·exact n k e
  ·rw[h]at e;cases e⟩
section
variable {K:Frag}{φ':bQ}{H':Hp}
structure Zo (K:Frag)(φ:bQ)(H:Hp)(φ':bQ)(H':Hp):Prop where
 ex:∀(n:Nat)(a:Addr),φ[n]? =some a->φ'[n]? =some a
 tp:∀a vs,qE K H a vs->qE K H' a vs
 fz:∀a o u,H a=some (.frz o u)->H' a=some (.frz o u)
mutual
theorem RV.monoW (l:Zo K φ H φ' H'):∀{w:W}{v:V},RV K φ H w v->RV K φ' H' w v
 |.non,_,h=>h|.bl _,_,h=>h|.int _,_,h=>h|.str _,_,h=>h|.tup ws,_,⟨a,vs,e,t,r⟩=>⟨a,vs,e,l.tp _ _ t,zF.monoW l r⟩|.ref n,_,⟨a,e,f⟩=>⟨a,e,l.ex _ _ f⟩|.clo _ ws P,_,⟨a,ob,u,c,g,U,vs,e,d,b,i,r⟩=>⟨a,ob,u,c,g,U,vs,e,l.fz _ _ _ d,l.fz _ _ _ b,i,zF.monoW l r⟩|.xc x,_,⟨a,o,u,C,e,d,b⟩=>⟨a,o,u,C,e,l.fz _ _ _ d,b⟩
theorem zF.monoW (l:Zo K φ H φ' H'):∀{ws:List W}{vs:List V},zF K φ H ws vs->zF K φ' H' ws vs
 |[],_,h=>h|w::ws,_,⟨v,r,e,h,t⟩=>⟨v,r,e,RV.monoW l h,zF.monoW l t⟩
end
def RV.mono {w:W}(h:RV K φ H w v)(l:Le K φ H φ' H'):RV K φ' H' w v:=RV.monoW ⟨l.ex,l.tp,l.fz⟩ h
def zF.mono {w:List W}{v:List V}(h:zF K φ H w v)(l:Le K φ H φ' H'):zF K φ' H' w v:=zF.monoW ⟨l.ex,l.tp,l.fz⟩ h
structure yo (K:Frag)(D:Addr)(φ:bQ)(H:Hp)(φ':bQ)(H':Hp):Prop where
 ex:∀(n:Nat)(a:Addr),φ[n]? =some a->φ'[n]? =some a
 tp:∀a vs,qE K H a vs->qE K H' a vs
 fr:∀a o,a≠D->H a=some o->(∀n:Nat,φ[n]?≠some a)->H' a=some o
 nw:∀(n:Nat)(a:Addr),φ'[n]? =some a->φ[n]? =some a∨H a=none
 st:∀a,H' a=none->H a=none
 fz:∀a o u,H a=some (.frz o u)->H' a=some (.frz o u)
def yo.refl {D}:yo K D φ H φ H:=⟨λ_ _ h=>h,λ_ _ h=>h,λ_ _ _ h _=>h,λ_ _ h=>.inl h,λ_ h=>h,λ_ _ _ h=>h⟩
def Le.toD {D}(l:Le K φ H φ' H'):yo K D φ H φ' H':=⟨l.ex,l.tp,λa o _ h n=>l.fr a o h n,l.nw,l.st,l.fz⟩
def yo.trans {D φ1 H1 φ2 H2}(a:yo K D φ H φ1 H1)(b:yo K D φ1 H1 φ2 H2):yo K D φ H φ2 H2 where
 ex:=λn x h=>b.ex n x (a.ex n x h)
 tp:=λn x h=>b.tp n x (a.tp n x h)
 fr:=λc o ne h n=>b.fr c o ne (a.fr c o ne h n) λk e=>by
  rcases a.nw k c e with e|e
  ·exact n k e
  ·rw[h]at e;cases e
 nw:=λn c e=>by
  rcases b.nw n c e with e|e
  ·exact a.nw n c e
  ·exact .inr (a.st c e)
 st:=λc e=>a.st c (b.st c e)
 fz:=λc o u h=>b.fz c o u (a.fz c o u h)
def RV.monoD {D}{w:W}(h:RV K φ H w v)(l:yo K D φ H φ' H'):RV K φ' H' w v:=RV.monoW ⟨l.ex,l.tp,l.fz⟩ h
def zF.monoD {D}{w:List W}{v:List V}(h:zF K φ H w v)(l:yo K D φ H φ' H'):zF K φ' H' w v:=zF.monoW ⟨l.ex,l.tp,l.fz⟩ h
theorem zF.length:∀{ws:List W}{vs:List V},zF K φ H ws vs->ws.length=vs.length
 |[],_,h=>by cases h;rfl|w::ws,_,⟨v,r,e,_,t⟩=>by subst e;simp[zF.length t]
theorem zF.get:∀{ws:List W}{vs:List V}{i:Nat}{w:W},zF K φ H ws vs->ws[i]? =some w->∃v,vs[i]? =some v/\RV K φ H w v
 |[],_,_,_,_,e=>by simp at e|w::ws,_,0,_,⟨v,r,e,h,t⟩,q=>by subst e;simp at q;subst q;exact⟨v,by simp,h⟩|w::ws,_,i+1,x,⟨v,r,e,h,t⟩,q=>by
  subst e;obtain⟨y,b,a⟩:=zF.get (i:=i) (w:=x) t (by simpa using q)
  exact⟨y,by simpa using b,a⟩
theorem zF.append:∀{ws us:List W}{vs xs:List V},zF K φ H ws vs->zF K φ H us xs->zF K φ H (ws++us) (vs++xs)
 |[],_,_,_,h,t=>by cases h;exact t|w::ws,_,_,_,⟨v,r,e,h,t⟩,T=>by subst e;exact⟨v,r++_,rfl,h,zF.append t T⟩
def zF.one {w:W}(h:RV K φ H w v):zF K φ H [w] [v]:=⟨v,[],rfl,h,rfl⟩
def zF.nil:zF K φ H [] []:=rfl
def zF.cons {w:W}{v:V}{ws:List W}{vs:List V}(h:RV K φ H w v)(t:zF K φ H ws vs):zF K φ H (w::ws) (v::vs):=⟨v,vs,rfl,h,t⟩
theorem zF.set {w:W}(q:RV K φ H w v):∀{ws:List W}{vs:List V}(i:Nat),zF K φ H ws vs->zF K φ H (ws.set i w) (vs.set i v)
 |[],_,_,h=>by cases h;exact rfl|_::_,_,0,⟨a,r,e,h,t⟩=>by subst e;exact⟨v,r,rfl,q,t⟩|_::_,_,i+1,⟨a,r,e,h,t⟩=>by subst e;exact⟨a,_,rfl,h,zF.set q i t⟩
theorem zF.drop:∀{ws:List W}{vs:List V}(n:Nat),zF K φ H ws vs->zF K φ H (ws.drop n) (vs.drop n)
 |[],_,n,h=>by cases h;rw[List.drop_nil,List.drop_nil];exact zF.nil|_::_,_,0,h=>by simpa using h|_::_,_,n+1,⟨v,r,e,h,t⟩=>by subst e;simpa using zF.drop n t
theorem zF.take:∀{ws:List W}{vs:List V}(n:Nat),zF K φ H ws vs->zF K φ H (ws.take n) (vs.take n)
 |[],_,n,h=>by cases h;rw[List.take_nil,List.take_nil];exact zF.nil|_::_,_,0,h=>by rw[take_zero,take_zero];exact zF.nil|_::_,_,n+1,⟨v,r,e,h,t⟩=>by subst e;exact⟨v,_,rfl,h,zF.take n t⟩
theorem zF.erase:∀{ws:List W}{vs:List V}(n:Nat),zF K φ H ws vs->zF K φ H (ws.eraseIdx n) (vs.eraseIdx n)
 |[],_,n,h=>by cases h;rw[List.eraseIdx_nil,List.eraseIdx_nil];exact zF.nil|_::_,_,0,⟨v,r,e,h,t⟩=>by subst e;simpa using t|_::_,_,n+1,⟨v,r,e,h,t⟩=>by subst e;exact⟨v,_,rfl,h,zF.erase n t⟩
theorem zF.ints:∀{ns:bO}{vs:List V},zF K φ H (ns.map W.int) vs↔vs=ns.map V.int
 |[],vs=>Iff.rfl|n::ns,vs=>by
  constructor
  ·rintro⟨v,r,e,h,t⟩
   rw[e,(show v=V.int n from h),zF.ints.mp t];rfl
  ·intro e
   exact⟨V.int n,ns.map V.int,e,rfl,zF.ints.mpr rfl⟩
def XZ (K:Frag)(H:Hp)(a:Addr)(xs:List V):Prop:=
 (∃ob,H a=some (.frz ob (.lst xs)))∨
  ∃(o:Obj) (its:Array Value) (n:Nat),K.lookup a=some o/\o.cls=.type "list" /\ o.dict=none/\o.data=.seq its n/\its.size<=sizeLine/\Vals xs its.toList
def XZ.sq (h:XZ K H a xs):qM K H a xs:=by
 rcases h with h|h
 ·exact .inl (.inr h)
 ·exact .inr h
inductive TabAt (H:Hp)(q:Str)(cv:Value):Prop
 |mk (c:Addr) (oc:Obj) (u:HO) (vs:Array Value) (t:Tok) (e:cv=.ref c) (h:H c=some (.frz oc u)) (d:oc.data=.fields vs/\vs[1]? =some (.str q t))
def KZ (H:Hp)(q:Str)(p:Array Value):Prop:=TriplesOk p.toList/\∀pos c,codeAmong pos p.toList=some c->TabAt H q c
def KZ.mono {q:Str}{p:Array Value}(h:KZ H q p)(l:∀a o u,H a=some (.frz o u)->H' a=some (.frz o u)):KZ H' q p:=
 ⟨h.1,λpos C e=>by obtain⟨c,b,u,vs,t,g,f,d⟩:=h.2 pos C e;exact⟨c,b,u,vs,t,g,l _ _ _ f,d⟩⟩
def OR (K:Frag)(φ:bQ)(H:Hp)(a:Addr):O->Prop
 |.lst ws=>∃vs,H a=some (.lst vs)/\zF K φ H ws vs|.ro ws=>∃vs,XZ K H a vs/\zF K φ H ws vs|.dct kvs=>∃us,H a=some (.dK us)/\us.map (·.1)=kvs.map (·.1)/\zF K φ H (kvs.map (·.2)) (us.map (·.2))|.tab q P=>a=P/\∃p,H a=some (.tbl p)/\KZ H q p
structure zO (K:Frag)(φ:bQ)(A:Hx)(H:Hp):Prop where
 len:φ.length=A.length
 inj:∀(i j:Nat)(a:Addr)(o o':O),φ[i]? =some a->φ[j]? =some a->A[i]? =some o->A[j]? =some o'->o.mut=true->o'.mut=true->i=j
 ob:∀(n:Nat)(o:O),A[n]? =some o->∃a,φ[n]? =some a/\OR K φ H a o
variable {A:Hx}
def OR.there {o:O}(h:OR K φ H a o)(m:o.mut=true):∃u,H a=some u/\(∀xs,u≠.tup xs)/\(∀ob v,u≠.frz ob v):=by
 cases o with
 |lst ws=>obtain⟨vs,e,_⟩:=h;exact⟨_,e,λ_ z=>(by cases z),λ_ _ z=>(by cases z)⟩|ro ws=>cases m|dct kvs=>obtain⟨vs,e,_⟩:=h;exact⟨_,e,λ_ z=>(by cases z),λ_ _ z=>(by cases z)⟩|tab q P=>obtain⟨_,vs,e,_⟩:=h;exact⟨_,e,λ_ z=>(by cases z),λ_ _ z=>(by cases z)⟩
def Kj {o:HO}{vs:List V}(h:qE K H a vs)(n:∀xs,H b≠some (.tup xs))(N:∀ob u,H b≠some (.frz ob u)):qE K (upd H b o) a vs:=by
 rcases h with (h|⟨ob,h⟩)|h
 ·exact .inl (.inl (by rw[qC];exact h;intro e;subst e;exact n _ h))
 ·exact .inl (.inr ⟨ob,by rw[qC];exact h;intro e;subst e;exact N _ _ h⟩)
 ·exact .inr h
theorem Le.upd {o:HO}{k:Nat}(c:φ[k]? =some b)(n:∀xs,H b≠some (.tup xs))(N:∀ob u,H b≠some (.frz ob u)):Le K φ H φ (upd H b o) where
 ex:=λ_ _ h=>h
 tp:=λ_ _ h=>Kj h n N
 fr:=λa u h z=>by
  rw[qC];exact h;intro e;subst e;exact z k c
 nw:=λ_ _ h=>.inl h
 st:=λa h=>by
  by_cases e:a=b
  ·subst e;rw[jY]at h;cases h
  ·rw[qC e]at h;exact h
 fz:=λa ob u h=>by
  rw[qC];exact h;intro e;subst e;exact N _ _ h
def Le.new {p:Addr}{o:HO}(b:H p=none):Le K φ H φ (L2.upd H p o) where
 ex:=λ_ _ h=>h
 tp:=λ_ _ h=>Kj h (λxs z=>by rw[b]at z;cases z) (λ_ _ z=>by rw[b]at z;cases z)
 fr:=λa u h z=>by
  rw[qC];exact h;intro e;subst e;rw[b]at h;cases h
 nw:=λ_ _ h=>.inl h
 st:=λa h=>by
  by_cases e:a=p
  ·subst e;rw[jY]at h;cases h
  ·rw[qC e]at h;exact h
 fz:=λa ob u h=>by
  rw[qC];exact h;intro e;subst e;rw[b]at h;cases h
def Le.alloc {p:Addr}{o:HO}(b:H p=none):Le K φ H (φ++[p]) (L2.upd H p o) where
 ex:=λn a h=>by
  have:=(b8.mp h).1
  rw[ai this];exact h
 tp:=(Le.new (φ:=φ) b).tp
 fr:=(Le.new (K:=K) (φ:=φ) b).fr
 nw:=λn a h=>by
  by_cases hn:n < φ.length
  ·rw[ai hn]at h;exact .inl h
  ·rw[az (by omega)]at h
   have e:a=p:=by
    have:=List.mem_of_getElem? h
    simpa using this
   subst e;exact .inr b
 st:=(Le.new (K:=K) (φ:=φ) b).st
 fz:=(Le.new (K:=K) (φ:=φ) b).fz
def Le.ofD {o:HO}(b:H D=none)(l:yo K D φ (L2.upd H D o) φ' H'):Le K φ H φ' H' where
 ex:=l.ex
 tp:=λa vs h=>l.tp a vs ((Le.new (K:=K) (φ:=φ) b).tp a vs h)
 fr:=λa u h n=>by
  have ne:a≠D:=by rintro rfl;rw[b]at h;cases h
  exact l.fr a u ne (by rw[qC ne];exact h) n
 nw:=λn a e=>by
  rcases l.nw n a e with e|e
  ·exact .inl e
  ·by_cases h:a=D
   ·subst h;rw[jY]at e;cases e
   ·rw[qC h]at e;exact .inr e
 st:=λa e=>by
  have E:=l.st a e
  by_cases h:a=D
  ·subst h;rw[jY]at E;cases E
  ·rw[qC h]at E;exact E
 fz:=λa ob u h=>l.fz a ob u (by rw[qC];exact h;rintro rfl;rw[b]at h;cases h)
theorem yo.upd {o:HO}(b:H D=some (.lst xs)):yo K D φ H φ (L2.upd H D o) where
 ex:=λ_ _ h=>h
 tp:=λa vs h=>Kj h (λxs z=>by rw[b]at z;cases z) (λ_ _ z=>by rw[b]at z;cases z)
 fr:=λa u ne h n=>by rw[qC ne];exact h
 nw:=λ_ _ h=>.inl h
 st:=λa e=>by
  by_cases h:a=D
  ·subst h;rw[jY]at e;cases e
  ·rw[qC h]at e;exact e
 fz:=λa ob u h=>by
  rw[qC];exact h;intro e;subst e;rw[b]at h;cases h
def OR.keep {o:O}(h:OR K φ H a o)(l:Le K φ H φ' H')(e:∀u,H a=some u->H' a=some u):OR K φ' H' a o:=by
 cases o with
 |lst ws=>obtain⟨vs,q,r⟩:=h;exact⟨vs,e _ q,r.mono l⟩|dct kvs=>obtain⟨vs,q,k,r⟩:=h;exact⟨vs,e _ q,k,r.mono l⟩|tab q P=>obtain⟨k,p,q,r⟩:=h;exact⟨k,p,e _ q,r.mono l.fz⟩|ro ws=>
  obtain⟨vs,q,r⟩:=h;refine⟨vs,?_,r.mono l⟩;rcases q with ⟨ob,q⟩|q
  ·exact .inl ⟨ob,e _ q⟩
  ·exact .inr q
theorem zO.alloc {p:Addr}{u:HO}{o:O}(S:zO K φ A H)(m:H p=none)(new:OR K (φ++[p]) (L2.upd H p u) p o):Le K φ H (φ++[p]) (L2.upd H p u)/\zO K (φ++[p]) (A++[o]) (L2.upd H p u):=by
 have l:Le K φ H (φ++[p]) (L2.upd H p u):=Le.alloc m;have old:∀(i:Nat) a,(φ++[p])[i]? =some a->i<A.length->φ[i]? =some a:=λi a e hi=>by
  rw[ai (by rw[S.len];exact hi)]at e;exact e
 refine⟨l,by simp[S.len],λi j a w v g f d b m1 m2=>?_,λn o' e=>?_⟩
 ·by_cases hi:i<A.length
  ·by_cases c:j<A.length
   ·rw[ai hi]at d
    rw[ai c]at b;exact S.inj i j a w v (old i a g hi) (old j a f c) d b m1 m2
   ·exfalso
    rw[ai hi]at d;have s:j=A.length:=by have:=(b8.mp b).1;simp at this;omega
    subst s;rw[az (by rw[S.len];exact aj _),S.len]at f
    simp at f;obtain⟨y,E,q⟩:=S.ob i w d;rw[old i a g hi]at E;cases E;obtain⟨z,h,_⟩:=q.there m1;rw[<- f,m]at h;cases h
  ·have t:i=A.length:=by have:=(b8.mp d).1;simp at this;omega
   by_cases c:j<A.length
   ·exfalso
    rw[ai c]at b;subst t;rw[az (by rw[S.len];exact aj _),S.len]at g
    simp at g;obtain⟨y,E,q⟩:=S.ob j v b;rw[old j a f c]at E;cases E;obtain⟨z,h,_⟩:=q.there m2;rw[<- g,m]at h;cases h
   ·have:=(b8.mp b).1;simp at this;omega
 ·by_cases hn:n<A.length
  ·rw[ai hn]at e
   obtain⟨a,E,q⟩:=S.ob n o' e;refine⟨a,l.ex _ _ E,q.keep l λz h=>?_⟩;rw[qC];exact h;intro x;subst x;rw[m]at h;cases h
  ·have r:n=A.length:=by have:=(b8.mp e).1;simp at this;omega
   subst r;rw[az (aj _)]at e;simp at e;subst e;exact⟨p,by rw[az (by rw[S.len];exact aj _),S.len];simp,new⟩
def zO.write {p:Addr}{u:HO}{o o':O}(S:zO K φ A H)(hn:A[n]? =some o)(m:o.mut=true)(m':o'.mut=true)(c:φ[n]? =some p)(new:OR K φ (L2.upd H p u) p o'):
  Le K φ H φ (L2.upd H p u)/\zO K φ (A.set n o') (L2.upd H p u):=by
 obtain⟨Q,e,q⟩:=S.ob n o hn;rw[c]at e;cases e;obtain⟨z,h,y,N⟩:=q.there m;have l:Le K φ H φ (L2.upd H p u):=Le.upd c (λxs e=>by rw[h]at e;exact y xs (aD e)) λob v e=>by rw[h]at e;exact N ob v (aD e)
 have mt:∀(i:Nat)(w:O),(A.set n o')[i]? =some w->w.mut=true->∃d,A[i]? =some d/\d.mut=true:=λi w e M=>by
  by_cases hi:i=n
  ·subst hi;exact⟨o,hn,m⟩
  ·rw[aN (Ne.symm hi)]at e;exact⟨w,e,M⟩
 refine⟨l,by simp[S.len],λi j a x t L J I D m1 m2=>?_,λi w e=>?_⟩
 ·obtain⟨g,E,C⟩:=mt i x I m1
  obtain⟨f,P,B⟩:=mt j t D m2;exact S.inj i j a g f L J E P C B
 ·by_cases hi:i=n
  ·subst hi
   have:i<A.length:=(b8.mp hn).1
   rw[aM this]at e;cases e;exact⟨p,c,new⟩
  ·rw[aN (Ne.symm hi)]at e
   obtain⟨a,E,r⟩:=S.ob i w e;refine⟨a,E,?_⟩
   by_cases hm:w.mut=true
   ·have ne:a≠p:=λz=>hi (S.inj i n a w o E (by rw[z];exact c) e hn hm m)
    exact r.keep l λz h=>by rw[qC ne];exact h
   ·cases w with
    |lst _=>exact absurd rfl hm|dct _=>exact absurd rfl hm|tab _ _=>exact absurd rfl hm|ro ws=>
     obtain⟨vs,b,s⟩:=r;refine⟨vs,?_,s.mono l⟩;rcases b with ⟨ob,b⟩|b
     ·refine .inl ⟨ob,?_⟩
      rw[qC];exact b;intro z;subst z;rw[h]at b;exact N _ _ (aD b)
     ·exact .inr b
def zO.lay {p:Addr}{u:HO}(S:zO K φ A H)(b:H p=none):zO K φ A (L2.upd H p u):=
 ⟨S.len,S.inj,λn o e=>by
  obtain⟨a,c,q⟩:=S.ob n o e;refine⟨a,c,q.keep (Le.new b) λz h=>?_⟩;rw[qC];exact h;intro E;subst E;rw[b]at h;cases h⟩
def zO.off {o:HO}(S:zO K φ A H)(h:H D=some (.lst xs))(n:∀k:Nat,φ[k]?≠some D):zO K φ A (L2.upd H D o):=
 ⟨S.len,S.inj,λk u e=>by
  obtain⟨a,E,q⟩:=S.ob k u e;have ne:a≠D:=λz=>n k (by rw[<- z];exact E)
  have l:yo K D φ H φ (L2.upd H D o):=yo.upd h;refine⟨a,E,?_⟩;cases u with
  |lst ws=>obtain⟨vs,q,r⟩:=q;exact⟨vs,by rw[qC ne];exact q,r.monoD l⟩|dct kvs=>obtain⟨vs,q,k,r⟩:=q;exact⟨vs,by rw[qC ne];exact q,k,r.monoD l⟩|tab _ _=>obtain⟨k,vs,q,r⟩:=q;exact⟨k,vs,by rw[qC ne];exact q,r.mono l.fz⟩|ro ws=>
   obtain⟨vs,q,r⟩:=q;refine⟨vs,?_,r.monoD l⟩;rcases q with ⟨ob,q⟩|q
   ·exact .inl ⟨ob,by rw[qC ne];exact q⟩
   ·exact .inr q⟩
def zO.notin (S:zO K φ A H)(b:H D=none)(d:K.lookup D=none):∀k:Nat,φ[k]?≠some D:=λk e=>by
 have c:k<A.length:=by rw[<- S.len];exact(b8.mp e).1
 obtain⟨a,E,q⟩:=S.ob k A[k] (by simp[c])
 rw[e]at E;cases E;cases h:A[k] with
 |lst ws=>rw[h]at q;obtain⟨vs,z,_⟩:=q;rw[b]at z;cases z|dct ws=>rw[h]at q;obtain⟨vs,z,_⟩:=q;rw[b]at z;cases z|tab _ _=>rw[h]at q;obtain⟨_,vs,z,_⟩:=q;rw[b]at z;cases z|ro ws=>
  rw[h]at q;obtain⟨vs,z,_⟩:=q;rcases z with ⟨ob,z⟩|⟨o,i,n,z,_⟩
  ·rw[b]at z;cases z
  ·rw[d]at z;cases z
def zO.track {u:HO}{o:O}(S:zO K φ A H)(w:H D=some u)(n:∀k:Nat,φ[k]?≠some D)(new:OR K (φ++[D]) H D o):zO K (φ++[D]) (A++[o]) H:=by
 have l:Zo K φ H (φ++[D]) H:=⟨λn a h=>by
  have:=(b8.mp h).1
  rw[ai this];exact h,λ_ _ h=>h,λ_ _ _ h=>h⟩
 have old:∀(i:Nat) a,(φ++[D])[i]? =some a->i<A.length->φ[i]? =some a:=λi a e hi=>by
  rw[ai (by rw[S.len];exact hi)]at e;exact e
 have last:∀a,(φ++[D])[A.length]? =some a->a=D:=λa e=>by
  rw[az (by rw[S.len];exact aj _),S.len]at e
  simpa using e.symm
 refine⟨by simp[S.len],λi j a v t s p m c m1 m2=>?_,λk o' e=>?_⟩
 ·by_cases hi:i<A.length
  ·by_cases b:j<A.length
   ·rw[ai hi]at m
    rw[ai b]at c;exact S.inj i j a v t (old i a s hi) (old j a p b) m c m1 m2
   ·exfalso
    have f:j=A.length:=by have:=(b8.mp c).1;simp at this;omega
    subst f;exact n i (by rw[<- last a p];exact old i a s hi)
  ·have g:i=A.length:=by have:=(b8.mp m).1;simp at this;omega
   by_cases b:j<A.length
   ·exfalso
    subst g;exact n j (by rw[<- last a s];exact old j a p b)
   ·have:=(b8.mp c).1;simp at this;omega
 ·by_cases hn:k<A.length
  ·rw[ai hn]at e
   obtain⟨a,E,q⟩:=S.ob k o' e;refine⟨a,l.ex _ _ E,?_⟩;cases o' with
   |lst ws=>obtain⟨vs,z,r⟩:=q;exact⟨vs,z,r.monoW l⟩|dct ws=>obtain⟨vs,z,Z,r⟩:=q;exact⟨vs,z,Z,r.monoW l⟩|tab _ _=>exact q|ro ws=>obtain⟨vs,z,r⟩:=q;exact⟨vs,z,r.monoW l⟩
  ·have d:k=A.length:=by have:=(b8.mp e).1;simp at this;omega
   subst d;rw[az (aj _)]at e;simp at e;subst e;exact⟨D,by rw[az (by rw[S.len];exact aj _),S.len];simp,new⟩
def Le.track {b:bQ}{H0:Hp}(l:Le K b H0 φ H)(h0:H0 D=none):Le K b H0 (φ++[D]) H where
 ex:=λn a h=>by
  have h':=l.ex n a h
  have:=(b8.mp h').1
  rw[ai this];exact h'
 tp:=l.tp
 fr:=l.fr
 nw:=λn a e=>by
  by_cases hn:n < φ.length
  ·rw[ai hn]at e;exact l.nw n a e
  ·rw[az (by omega)]at e
   have E:a=D:=by
    have:=List.mem_of_getElem? e
    simpa using this
   subst E;exact .inr h0
 st:=l.st
 fz:=l.fz
end
noncomputable abbrev St:=L2.St
abbrev XR:=Str->Hp->Prop
def PB (K:Frag)(φ:bQ)(H:Hp)(Q:VK):W->Hx->Prop:=λw A=>∀a h v,Le K φ H a h->zO K a A h->RV K a h w v->Q v h
def cA (K:Frag)(φ:bQ)(H:Hp)(Q:List V->Hp->Prop):List W->Hx->Prop:=λw A=>∀a h v,Le K φ H a h->zO K a A h->zF K a h w v->Q v h
noncomputable def EB (K:Frag)(φ:bQ)(H:Hp)(X:XR):Str->Hx->Prop:=λx A=>∀a h,Le K φ H a h->zO K a A h->X x h
structure RE (K:Frag)(φ:bQ)(H:Hp)(ρ:En)(σ:St):Prop where
 len:σ.length=ρ.length
 get:∀(i:Nat)(w:W),ρ[i]? =some (some w)->∃v,σ[i]? =some (some v)/\RV K φ H w v
section
variable {K:Frag}{φ1 φ':bQ}{H1 H':Hp}{A:Hx}{ρ:En}{xr:XR}
theorem RE.mono (r:RE K φ H ρ σ)(l:Le K φ H φ' H'):RE K φ' H' ρ σ:=⟨r.len,λi w e=>let ⟨v,h1,h⟩:=r.get i w e;⟨v,h1,h.mono l⟩⟩
def PB.mono {Q:VK}{w:W}(h:PB K φ H Q w A)(l:Le K φ H φ1 H1):PB K φ1 H1 Q w A:=λa b v L=>h a b v (l.trans L)
def EB.mono (h:EB K φ H xr x A)(l:Le K φ H φ1 H1):EB K φ1 H1 xr x A:=λa b L=>h a b (l.trans L)
theorem RE.set {w:W}(r:RE K φ H ρ σ)(q:RV K φ H w v):RE K φ H (ρ.set i (some w)) (σ.set i (some v)):=
 ⟨by simp[r.len],λj u e=>by
  by_cases h:i=j
  ·subst h
   have hi:i < ρ.length:=by
    have:=(b8.mp e).1
    simpa using this
   rw[aM hi]at e;cases e;exact⟨v,by rw[aM (by rw[r.len];exact hi)],q⟩
  ·rw[aN h]at e
   obtain⟨x,b,a⟩:=r.get j u e;exact⟨x,by rw[aN h];exact b,a⟩⟩
end
inductive MM (K:Frag)(xr:XR)(m:Ev)(σ:St)(H:Hp)(Q:VK):Prop
 |mk (φ:bQ) (A:Hx) (ρ:En) (S:zO K φ A H) (re:RE K φ H ρ σ) (h:(m ρ A).post (PB K φ H Q) (EB K φ H xr))
noncomputable def tM (K:Frag)(x:XR)(m:Ev):TE:=λσ H Q=>MM K x m σ H Q
inductive MT (K:Frag)(xr:XR)(m:Ev)(σ:St)(H:Hp)(Q:Bool->Hp->Prop):Prop
 |mk (φ:bQ) (A:Hx) (ρ:En) (S:zO K φ A H) (re:RE K φ H ρ σ) (h:(m ρ A).post (λw A'=>∃b,w=.bl b/\∀φ' H',Le K φ H φ' H'->zO K φ' A' H'->Q b H') (EB K φ H xr))
noncomputable def tT (K:Frag)(x:XR)(m:Ev):TT:=λσ H Q=>MT K x m σ H Q
abbrev Ea:=En->Hx->R (List W)
inductive MA (K:Frag)(xr:XR)(m:Ea)(σ:St)(H:Hp)(Q:List V->Hp->Prop):Prop
 |mk (φ:bQ) (A:Hx) (ρ:En) (S:zO K φ A H) (re:RE K φ H ρ σ) (h:(m ρ A).post (cA K φ H Q) (EB K φ H xr))
noncomputable def Wr (K:Frag)(x:XR)(m:Ea):TA:=λσ H Q=>MA K x m σ H Q
def SE (X:Cx)(x:XR)(e:Expr)(m:Ev):Prop:=PE X e (tM X.K x m)
def ST (X:Cx)(x:XR)(e:Expr)(m:Ev):Prop:=PT X e (tT X.K x m)
def SW (X:Cx)(x:XR)(e:Expr)(m:Ev):Prop:=PW X e (tT X.K x m)
def SA (X:Cx)(x:XR)(e:bV)(m:Ea):Prop:=PA X e (Wr X.K x m)
section
variable {xr:XR}{a b:Expr}{es:bV}{m ma mb mc:Ev}
def PE.imp {t t':TE}(h:PE X e t)(i:∀σ H Q,t' σ H Q->t σ H Q):PE X e t':=λpins s σ H Q I hw=>h pins s σ H Q I (i σ H Q hw)
def PT.imp {t t':TT}(h:PT X e t)(i:∀σ H Q,t' σ H Q->t σ H Q):PT X e t':=λpins s σ H Q I hw=>h pins s σ H Q I (i σ H Q hw)
def PW.imp {t t':TT}(h:PW X e t)(i:∀σ H Q,t' σ H Q->t σ H Q):PW X e t':=λw pins s σ H Q I hw=>h w pins s σ H Q I (i σ H Q hw)
def PA.imp {t t':TA}(h:PA X es t)(i:∀σ H Q,t' σ H Q->t σ H Q):PA X es t':=λp pins s σ H Q I hw=>h p pins s σ H Q I (i σ H Q hw)
def tM.go {K:Frag}{A:Hx}{ρ:En}{Q:VK}{G:W->Hx->Prop}(S:zO K φ A H)(r:RE K φ H ρ σ)(h:(m ρ A).post G (EB K φ H xr))
  (k:∀w A1 a H1 v,G w A1->Le K φ H a H1->zO K a A1 H1->RV K a H1 w v->Q v H1):tM K xr m σ H Q:=
 ⟨φ,A,ρ,S,r,qp h (λw A1 g a H1 v l s q=>k w A1 a H1 v g l s q) λ_ _ z=>z⟩
def Wr.go {K:Frag}{A:Hx}{ρ:En}{m:Ea}{Q:List V->Hp->Prop}{G:List W->Hx->Prop}(S:zO K φ A H)(r:RE K φ H ρ σ)(h:(m ρ A).post G (EB K φ H xr))
  (k:∀w A1 a H1 v,G w A1->Le K φ H a H1->zO K a A1 H1->zF K a H1 w v->Q v H1):Wr K xr m σ H Q:=
 ⟨φ,A,ρ,S,r,qp h (λw A1 g a H1 v l s q=>k w A1 a H1 v g l s q) λ_ _ z=>z⟩
def tT.go {K:Frag}{A:Hx}{ρ:En}{Q:Bool->Hp->Prop}{G:W->Hx->Prop}(S:zO K φ A H)(r:RE K φ H ρ σ)(h:(m ρ A).post G (EB K φ H xr))
  (k:∀w A1,G w A1->∃b,w=.bl b/\∀a H1,Le K φ H a H1->zO K a A1 H1->Q b H1):tT K xr m σ H Q:=
 ⟨φ,A,ρ,S,r,qp h (λw A1 g=>k w A1 g) λ_ _ z=>z⟩
noncomputable def qx (i:Nat):Ev:=λρ A=>match ρ[i]? with
 |some (some w)=>.ok w A|_=>.bad
noncomputable def z7 (w:W):Ev:=λ_ A=>.ok w A
noncomputable def zi (g:W->W->Hx->R W)(a b:Ev):Ev:=λρ A=>(a ρ A).bind λx A1=>(b ρ A1).bind λy A2=>g x y A2
noncomputable def jq (g:W->Hx->R W)(a:Ev):Ev:=λρ A=>(a ρ A).bind λx A1=>g x A1
noncomputable abbrev gj:Str->Hx->Prop:=λ_ _=>False
def jX (K:Frag)(r:R2)(g:W->W->Hx->R W):Prop:=∀φ A H x y u v Q,zO K φ A H->RV K φ H u x->RV K φ H v y->(g u v A).post (PB K φ H Q) gj->r x y H Q
def Wo (K:Frag)(r:V->Hp->VK->Prop)(g:W->Hx->R W):Prop:=∀φ A H x u Q,zO K φ A H->RV K φ H u x->(g u A).post (PB K φ H Q) gj->r x H Q
def qO (r:R α):Prop:=∀x A,r≠.exc x A
def Q2 {r:R α}{P:α->Hx->Prop}{E:Str->Hx->Prop}(n:qO r)(h:r.post P E):r.post P gj:=by
 cases r with
 |ok a A=>exact h|exc x A=>exact absurd rfl (n x A)|bad=>exact h
def zi.read {g:W->W->Hx->R W}{r:R2}(hn:∀x y A,qO (g x y A))(e:jX X.K r g):∀σ H Q,tM X.K xr (zi g ma mb) σ H Q->Yp r (tM X.K xr ma) (tM X.K xr mb) σ H Q:=by
 rintro σ H Q ⟨φ,A,ρ,S,re,h⟩
 refine tM.go S re (zZ.mp h) λw A1 b H1 v i l j d=>?_;refine tM.go j (re.mono l) (qp (zZ.mp i) (λ_ _ z=>z) λ_ _ z=>z.mono l) λc A2 a m v2 f L s q=>?_;exact e a A2 m v v2 w c Q s (d.mono L) q (qp (Q2 (hn _ _ _) f) (λ_ _ z=>z.mono (l.trans L)) λ_ _ z=>z)
def jq.read {g:W->Hx->R W}{r:V->Hp->VK->Prop}(hn:∀x A,qO (g x A))(b:Wo X.K r g):∀σ H Q,tM X.K xr (jq g ma) σ H Q->Ot r (tM X.K xr ma) σ H Q:=by
 rintro σ H Q ⟨φ,A,ρ,S,re,h⟩
 refine tM.go S re (zZ.mp h) λw A1 a H1 v c l s q=>?_;exact b a A1 H1 v w Q s q (qp (Q2 (hn _ _) c) (λ_ _ z=>z.mono l) λ_ _ z=>z)
def Qq {op:Operator}{r:R2}{g:W->W->Hx->R W}(h:qN X (binaryOp op) r)(hn:∀x y A,qO (g x y A))(H:jX X.K r g)(d:SE X xr a ma)(c:SE X xr b mb):SE X xr (.BinOp a op b pos) (zi g ma mb):=
 PE.imp (Av h d c) (zi.read hn H)
def BW {op:UnaryOp}{r:V->Hp->VK->Prop}{g:W->Hx->R W}(h:Wb X (unaryOp op) r)(hn:∀x A,qO (g x A))(H:Wo X.K r g)(b:SE X xr a ma):SE X xr (.UnaryOp op a pos) (jq g ma):=
 PE.imp (BU h b) (jq.read hn H)
def R0 {r:R2}{g:W->W->Hx->R W}(h:qN X (compareOp op) r)(hn:∀x y A,qO (g x y A))(H:jX X.K r g)(d:SE X xr a ma)(c:SE X xr b mb)(hm:behindInMarks op b=false):SE X xr (.Compare a [op] [b] pos) (zi g ma mb):=
 PE.imp (EI h d c hm) (zi.read hn H)
def tT.toM {K:Frag}{Q:Bool->Hp->Prop}(h:tT K xr m σ H Q):tM K xr m σ H λx d=>∃k,x=.bl k/\Q k d:=by
 obtain⟨φ,A,ρ,S,re,h⟩:=h;refine tM.go S re h λw A1 a H1 v ⟨b,e,q⟩ l s c=>?_;subst e;exact⟨b,c,q a H1 l s⟩
def Pc {r:R2}{g:W->W->Hx->R W}(o:qN X (compareOp op) r)(hn:∀x y A,qO (g x y A))(c:jX X.K r g)(e:SE X xr a ma)(d:SE X xr b mb)(hm:behindInMarks op b=false):ST X xr (.Compare a [op] [b] pos) (zi g ma mb):=
 PT.imp (Eg o e d hm) λσ H Q h=>zi.read hn c σ H _ h.toM
noncomputable def jZ (g g':W->W->Hx->R W)(a b c:Ev):Ev:=λρ A=>(a ρ A).bind λx A1=>(b ρ A1).bind λy A2=>(g x y A2).bind λz d=>match z with
 |.bl true=>(c ρ d).bind λw e=>g' y w e|.bl false=>.ok (.bl false) d|_=>.bad
def jZ.read {g g':W->W->Hx->R W}{r i:R2}(hn:∀x y A,qO (g x y A))(P:jX X.K r g)(m:∀x y A,qO (g' x y A))(n:jX X.K i g'):
  ∀σ H Q,tM X.K xr (jZ g g' ma mb mc) σ H Q->G5 r i (tM X.K xr ma) (tM X.K xr mb) (tM X.K xr mc) σ H Q:=by
 rintro σ H Q ⟨φ,A,ρ,S,re,h⟩
 refine tM.go S re (zZ.mp h) λw A1 D H1 v Y L S1 N=>?_;refine tM.go S1 (re.mono L) (qp (zZ.mp Y) (λ_ _ z=>z) λ_ _ z=>z.mono L) λf A2 b C v2 U u S2 q=>?_;have j:=L.trans u;have o:=zZ.mp U;have a:(g w f A2).post (PB X.K b C λz c=>∃k,z=.bl k/\if k=true then tM X.K xr mc σ c λI p=>i v2 I p Q else Q (.bl false) c) gj:=by
  refine qp (Q2 (hn _ _ _) o) (λz A3 a e c zv t B M=>?_) λ_ _ z=>z;have l:=j.trans t;cases z with
  |bl k=>
   refine⟨k,M,?_⟩;cases k with
   |true=>
    rw[ah rfl];refine tM.go B (re.mono l) (qp (zZ.mp a) (λ_ _ z=>z) λ_ _ z=>z.mono l) λE A4 d p v4 T s Z J=>?_;exact n d A4 p v2 v4 f E Q Z ((q.mono t).mono s) J (qp (Q2 (m _ _ _) T) (λ_ _ z=>z.mono (l.trans s)) λ_ _ z=>z)
   |false=>
    rw[aq ax];exact a e c _ l B rfl
  |non=>cases a|int _=>cases a|str _=>cases a|tup _=>cases a|ref _=>cases a|clo _ _ _=>cases a|xc _=>cases a
 exact P b A2 C v v2 w f _ S2 (N.mono u) q a
def IW {c:Expr}{o:CmpOp}{r e:R2}{g g':W->W->Hx->R W}(f:qN X (compareOp op) r)(hn:∀x y A,qO (g x y A))(i:jX X.K r g)(h:qN X (compareOp o) e)(H:∀x y A,qO (g' x y A))(d:jX X.K e g')
  (m:SE X xr a ma)(l:SE X xr b mb)(j:SE X xr c mc)(hm:lastMarks [op,o] [b,c]=false:=by with_unfolding_all rfl):SE X xr (.Compare a [op,o] [b,c] pos) (jZ g g' ma mb mc):=
 PE.imp (HM f h m l j hm) (jZ.read hn i H d)
def HX {c:Expr}{o:CmpOp}{r i:R2}{g g':W->W->Hx->R W}(j:qN X (compareOp op) r)(hn:∀x y A,qO (g x y A))(l:jX X.K r g)(d:qN X (compareOp o) i)(e:∀x y A,qO (g' x y A))(f:jX X.K i g')
  (p:SE X xr a ma)(n:SE X xr b mb)(m:SE X xr c mc)(hm:lastMarks [op,o] [b,c]=false:=by with_unfolding_all rfl):ST X xr (.Compare a [op,o] [b,c] pos) (jZ g g' ma mb mc):=
 PT.imp (Hd j d p n m hm) λσ H Q h=>jZ.read hn l e f σ H _ h.toM
noncomputable def jl (a b:Ev):Ev:=λρ A=>(a ρ A).bind λx A1=>match x with
 |.bl true=>b ρ A1|.bl false=>.ok (.bl false) A1|_=>.bad
noncomputable def jH (a b:Ev):Ev:=λρ A=>(a ρ A).bind λx A1=>match x with
 |.bl true=>.ok (.bl true) A1|.bl false=>b ρ A1|_=>.bad
noncomputable def yD (a:Ev):Ev:=λρ A=>(a ρ A).bind λx A1=>match x with
 |.bl k=>.ok (.bl (!k)) A1|_=>.bad
noncomputable def Oi (c a b:Ev):Ev:=λρ A=>(c ρ A).bind λx A1=>match x with
 |.bl true=>a ρ A1|.bl false=>b ρ A1|_=>.bad
theorem tT.mono {K:Frag}{c:bQ}{H1:Hp}{A1:Hx}{ρ:En}{Q:Bool->Hp->Prop}(S:zO K c A1 H1)(L:Le K φ H c H1)(re:RE K φ H ρ σ)
  (h:(m ρ A1).post (λw A=>∃b,w=.bl b/\∀a d,Le K φ H a d->zO K a A d->Q b d) (EB K φ H xr)):tT K xr m σ H1 Q:=
 ⟨c,A1,ρ,S,re.mono L,qp h (λw A ⟨b,e,q⟩=>⟨b,e,λa d l s=>q a d (L.trans l) s⟩) λ_ _ z=>z.mono L⟩
noncomputable def zq:Ea:=λ_ A=>.ok [] A
noncomputable def zc (a:Ev)(r:Ea):Ea:=λρ A=>(a ρ A).bind λx A1=>(r ρ A1).bind λxs A2=>.ok (x::xs) A2
noncomputable def qz (a:Ea):Ev:=λρ A=>(a ρ A).bind λxs A1=>.ok (.tup xs) A1
noncomputable def qW (a:Ea):Ev:=λρ A=>(a ρ A).bind λxs A1=>.ok (.ref A1.length) (A1++[.lst xs])
def ZO {K:Frag}{A:Hx}{p:Addr}{ws:List W}{vs:List V}(S:zO K φ A H)(h:H p=none)(r:zF K φ H ws vs):
  Le K φ H φ (upd H p (.tup vs))/\zO K φ A (upd H p (.tup vs))/\RV K φ (upd H p (.tup vs)) (.tup ws) (.ref p):=
 ⟨Le.new h,S.lay h,p,vs,rfl,qE.of jY,r.mono (Le.new h)⟩
def ZR {K:Frag}{A:Hx}{p:Addr}{ws:List W}{vs:List V}(S:zO K φ A H)(h:H p=none)(r:zF K φ H ws vs):
  Le K φ H (φ++[p]) (upd H p (.lst vs))/\zO K (φ++[p]) (A++[.lst ws]) (upd H p (.lst vs))/\RV K (φ++[p]) (upd H p (.lst vs)) (.ref A.length) (.ref p):=by
 have l:Le K φ H (φ++[p]) (upd H p (.lst vs)):=Le.alloc h;obtain⟨b,a⟩:=S.alloc (o:=.lst ws) h ⟨vs,jY,r.mono l⟩;exact⟨b,a,p,rfl,by rw[<- S.len];simp⟩
def DL {m:Ea}(h:SA X xr es m)(d:∀ρ A ws a,m ρ A=.ok ws a->ws.length<=sizeLine):SE X xr (.List es pos) (qW m):=
 PE.imp (Cq h) λσ H Q ⟨φ,A,ρ,S,re,h⟩=>by
  have h':=zZ.mp h;cases e:m ρ A with
  |ok ws a=>
   rw[e]at h';refine⟨φ,A,ρ,S,re,?_⟩;rw[e];intro b H1 vs l s q;refine⟨by rw[<- q.length];exact d ρ A ws a e,λp c=>?_⟩
   obtain⟨a1,a2,f⟩:=ZR s c q;exact h' _ _ _ (l.trans a1) a2 f
  |exc x a=>rw[e]at h';refine⟨φ,A,ρ,S,re,?_⟩;rw[e];exact h'|bad=>rw[e]at h';exact h'.elim
end
inductive Fl where
 |nx (ρ:En)|rt (w:W)|bk (ρ:En)|ct (ρ:En)
abbrev Ex:=En->Hx->R Fl
def FB (K:Frag)(φ:bQ)(H:Hp)(D:Ends):Fl->Hx->Prop
 |.nx ρ,A=>∀a h b,Le K φ H a h->zO K a A h->RE K a h ρ b->D.nx b h|.rt w,A=>∀a h v,Le K φ H a h->zO K a A h->RV K a h w v->D.rt v h|.bk ρ,A=>∀a h b,Le K φ H a h->zO K a A h->RE K a h ρ b->D.bk b h|.ct ρ,A=>∀a h b,Le K φ H a h->zO K a A h->RE K a h ρ b->D.ct b h
def FB.mono {K:Frag}{c:bQ}{H1:Hp}{D:Ends}{f:Fl}{A:Hx}(h:FB K φ H D f A)(l:Le K φ H c H1):FB K c H1 D f A:=by
 cases f with
 |nx ρ=>exactλa b v L=>h a b v (l.trans L)|rt ρ=>exactλa b v L=>h a b v (l.trans L)|bk ρ=>exactλa b v L=>h a b v (l.trans L)|ct ρ=>exactλa b v L=>h a b v (l.trans L)
inductive MS (K:Frag)(xr:XR)(m:Ex)(D:Ends)(σ:St)(H:Hp):Prop
 |mk (φ:bQ) (A:Hx) (ρ:En) (S:zO K φ A H) (re:RE K φ H ρ σ) (h:(m ρ A).post (FB K φ H D) (EB K φ H xr))
noncomputable def tS (K:Frag)(x:XR)(m:Ex):TS:=λD σ H=>MS K x m D σ H
def SS (X:Cx)(x:XR)(st:Stmt)(m:Ex):Prop:=PS X st (tS X.K x m)
def Yv (X:Cx)(x:XR)(st:b3)(m:Ex):Prop:=yF X st (tS X.K x m)
section
variable {xr:XR}{a b c:Expr}{st:Stmt}{rest:b3}{m:Ev}{m1 m2:Ex}
def PS.imp {t t':TS}(h:PS X st t)(i:∀D σ H,t' D σ H->t D σ H):PS X st t':=λpins s σ H D I hw=>h pins s σ H D I (i D σ H hw)
def yF.imp {t t':TS}(h:yF X rest t)(i:∀D σ H,t' D σ H->t D σ H):yF X rest t':=λpins s σ H D I hw=>h pins s σ H D I (i D σ H hw)
noncomputable def zw:Ex:=λρ A=>.ok (.nx ρ) A
noncomputable def zp (m1 m2:Ex):Ex:=λρ A=>(m1 ρ A).bind λl A1=>match l with
 |.nx ρ1=>m2 ρ1 A1|f=>.ok f A1
noncomputable def jS (m:Ev):Ex:=λρ A=>(m ρ A).bind λ_ A1=>.ok (.nx ρ) A1
noncomputable def qt (m:Ev):Ex:=λρ A=>(m ρ A).bind λw A1=>.ok (.rt w) A1
noncomputable def qy (c:Ev)(a b:Ex):Ex:=λρ A=>(c ρ A).bind λx A1=>match x with
 |.bl true=>a ρ A1|.bl false=>b ρ A1|_=>.bad
noncomputable def z8 (i:Nat)(m:Ev):Ex:=λρ A=>(m ρ A).bind λw A1=>.ok (.nx (ρ.set i (some w))) A1
def z8.read:∀D σ H,tS X.K xr (z8 i m) D σ H->KW (tM X.K xr m) (KA i) D σ H:=by
 rintro D σ H ⟨φ,A,ρ,S,re,h⟩
 exact tM.go S re (zZ.mp h) λw A1 a H1 v b l s q=>b a H1 _ l s ((re.mono l).set q)
noncomputable def Jh (g:W->W->W->Hx->R Unit)(me mo mi:Ev):Ex:=λρ A=>(me ρ A).bind λv A1=>(mo ρ A1).bind λo A2=>(mi ρ A2).bind λi b=>(g o i v b).bind λ_ a=>.ok (.nx ρ) a
def Pm (K:Frag)(t:QD)(g:W->W->W->Hx->R Unit):Prop:=∀φ A H o i v w b wv Q,zO K φ A H->RV K φ H w o->RV K φ H b i->RV K φ H wv v->
 (g w b wv A).post (λ_ c=>∀a h,Le K φ H a h->zO K a c h->Q h) gj->t o i v H Q
def Hn {o i:Expr}{mo mi:Ev}{t:QD}{g:W->W->W->Hx->R Unit}(N:KU X t)(hn:∀o i v A,qO (g o i v A))(U:Pm X.K t g)(he:SE X xr e m)(T:SE X xr o mo)(hi:SE X xr i mi)
  (P:swapsWithSole [.Subscript o i tpos] e pos.line X.env=pure false:=by rfl)(hw:swappedStores [.Subscript o i tpos] e X.env=pure none:=by rfl)
  (j:(assignEach [.Subscript o i tpos] X.env).map (·.2)=[assign (.Subscript o i tpos) X.env]:=by rfl)
  (Y:∀v,assign (.Subscript o i tpos) X.env v=(do
   let ov <- holding [v] (eval o X.env)
   let iv <- holding [v,ov] (eval i X.env)
   standAt tpos
   holding [v,ov,iv] (setItem ov iv v)
   release [v,ov,iv] []):=by intro _;rfl):SS X xr (.Assign [.Subscript o i tpos] e pos) (Jh g m mo mi):=
 PS.imp (RL he (C6 T hi N Y) P hw j) λD σ H ⟨φ,A,ρ,S,re,h⟩=>by
  refine tM.go S re (zZ.mp h) λp A1 E H1 v1 j f S1 M=>?_;refine tM.go S1 (re.mono f) (qp (zZ.mp j) (λ_ _ z=>z) λ_ _ z=>z.mono f) λn A2 C H2 v2 Z s S2 J=>?_;have l:=f.trans s;refine tM.go S2 (re.mono l) (qp (zZ.mp Z) (λ_ _ z=>z) λ_ _ z=>z.mono l) λw B c H3 I a d S3 Q=>?_;have L:=l.trans d;refine U c B H3 v2 I v1 n w p _ S3 (J.mono d) Q (M.mono (s.trans d)) ?_;cases r:g n w p B with
  |ok u y=>
   rw[r]at a;exactλb H4 q S4=>a b H4 σ (L.trans q) S4 (re.mono (L.trans q))
  |exc x y=>exact absurd r (hn _ _ _ _ x y)|bad=>rw[r]at a;exact a.elim
structure jo where
 at_:Hx->Nat->Option (Option W)
 len:Nat
def Zr (K:Frag)(φ:bQ)(H:Hp)(j:jo)(J:It):Prop:=∀i a h A,Zo K φ H a h->zO K a A h->
 (∀w,j.at_ A i=some (some w)->J.go i h/\∀x H1,J.yld i h x H1->Le K a h a H1/\zO K a A H1/\RV K a H1 w x)/\(j.at_ A i=some none->J.stop i h)
abbrev Ei:=En->Hx->R jo
inductive MI (K:Frag)(xr:XR)(mi:Ei)(σ:St)(H:Hp)(Rr:It->Hp->Prop):Prop
 |mk (φ:bQ) (A:Hx) (ρ:En) (S:zO K φ A H) (re:RE K φ H ρ σ) (h:(mi ρ A).post (λj A1=>∀φ1 H1 J,Le K φ H φ1 H1->zO K φ1 A1 H1->Zr K φ1 H1 j J->Rr J H1) (EB K φ H xr))
noncomputable def tI (K:Frag)(x:XR)(mi:Ei):TI:=λσ H r=>MI K x mi σ H r
def SI (X:Cx)(x:XR)(t iter:Expr)(mi:Ei):Prop:=PI X t iter (tI X.K x mi)
def PI.imp {t t':TI}(h:PI X tg e t)(i:∀σ H Q,t' σ H Q->t σ H Q):PI X tg e t':=λpins s σ H Q I hw=>h pins s σ H Q I (i σ H Q hw)
abbrev Tg:=W->En->Option En
inductive MG (K:Frag)(tw:Tg)(v:V)(σ:St)(H:Hp)(Q:St->Hp->Prop):Prop
 |mk (φ:bQ) (A:Hx) (ρ:En) (w:W) (ρ':En) (S:zO K φ A H) (re:RE K φ H ρ σ) (rv:RV K φ H w v) (t:tw w ρ=some ρ') (q:∀σ',RE K φ H ρ' σ'->Q σ' H)
noncomputable def tG (K:Frag)(tw:Tg):TG:=λv σ H Q=>MG K tw v σ H Q
def SG (X:Cx)(t:Expr)(tw:Tg):Prop:=PG X t (tG X.K tw)
def PG.imp {t t':TG}(h:PG X tg t)(i:∀v σ H Q,t' v σ H Q->t v σ H Q):PG X tg t':=λpins s σ H v u Q I r hw=>h pins s σ H v u Q I r (i v σ H Q hw)
noncomputable def zE (i:Nat):Tg:=λw ρ=>some (ρ.set i (some w))
noncomputable def jf (i j:Nat):Tg:=λw ρ=>match w with
 |.tup [x,y]=>some ((ρ.set i (some x)).set j (some y))|_=>none
noncomputable def yd (j:jo)(st:W->Ex):Nat->Nat->Ex
 |0,i,ρ,A=>match j.at_ A i with
  |some none=>.ok (.nx ρ) A|_=>.bad
 |f+1,i,ρ,A=>match j.at_ A i with
  |some none=>.ok (.nx ρ) A|some (some w)=>(st w ρ A).bind λl A1=>match l with
   |.nx ρ1=>yd j st f (i+1) ρ1 A1|.ct ρ1=>yd j st f (i+1) ρ1 A1|.bk ρ1=>.ok (.nx ρ1) A1|.rt w=>.ok (.rt w) A1
  |none=>.bad
noncomputable def turn (tw:Tg)(body:Ex)(w:W):Ex:=λρ A=>match tw w ρ with
 |some ρ1=>body ρ1 A|none=>.bad
def jA (mi:Ei)(tw:Tg)(body:Ex):Ex:=λρ A=>(mi ρ A).bind λj A1=>yd j (turn tw body) j.len 0 ρ A1
inductive Of (K:Frag)(xr:XR)(j:jo)(t:W->Ex)(D:Ends)(φ1:bQ)(H1:Hp)(f i:Nat)(σ':St)(H':Hp):Prop
 |mk (φ2:bQ) (A2:Hx) (ρ2:En) (l:Le K φ1 H1 φ2 H') (S:zO K φ2 A2 H') (re:RE K φ2 H' ρ2 σ') (h:(yd j t f i ρ2 A2).post (FB K φ2 H' D) (EB K φ2 H' xr))
noncomputable def k7 (c:Ev)(body:Ex):Nat->Ex
 |0,ρ,A=>.bad|f+1,ρ,A=>(c ρ A).bind λx A1=>match x with
  |.bl true=>(body ρ A1).bind λl A2=>match l with
   |.nx ρ1=>k7 c body f ρ1 A2|.ct ρ1=>k7 c body f ρ1 A2|.bk ρ1=>.ok (.nx ρ1) A2|.rt w=>.ok (.rt w) A2
  |.bl false=>.ok (.nx ρ) A1|_=>.bad
def J5 (f:Nat)(c:Ev)(body:Ex):Ex:=k7 c body f
noncomputable def QA (nl:Nat)(cap:bS)(ρ:En):En:=List.replicate nl none++cap.map λi=>(ρ[i]?).join
theorem RE.gM {K:Frag}{ρ:En}{nl:Nat}(r:RE K φ H ρ σ):RE K φ H (QA nl cap ρ) (L2.gM nl cap σ):=by
 refine⟨by simp[QA,L2.gM],λi w e=>?_⟩
 unfold QA at e;unfold L2.gM
 by_cases hi:i<nl
 ·rw[ai (by simpa using hi),List.getElem?_replicate]at e
  split at e<;>cases e
 ·rw[az (by simpa using hi),length_replicate,ao]at e
  rw[az (by simpa using hi),length_replicate,ao]
  cases c:cap[i-nl]? with
  |none=>rw[c]at e;cases e|some k=>
   rw[c]at e;have E:(ρ[k]?).join=some w:=aD e;cases h:ρ[k]? with
   |none=>rw[h]at E;cases E|some o=>cases o with
    |none=>rw[h]at E;cases E|some d=>
     rw[h]at E;cases E;obtain⟨v,b,a⟩:=r.get k w h;exact⟨v,by simp[b],a⟩
abbrev Em:=En->List W->Hx->R (En×List W)
noncomputable def zT:Nat:=100000
def zH (elt:Ev):Em:=λρ acc A=>(elt ρ A).bind λy A1=>if acc.length<zT then .ok (ρ,acc++[y]) A1 else .bad
noncomputable def je (j:jo)(tw:Tg)(ifs:Ev)(em:Em):Nat->Nat->Em
 |0,i,ρ,acc,A=>match j.at_ A i with
  |some none=>.ok (ρ,acc) A|_=>.bad
 |f+1,i,ρ,acc,A=>match j.at_ A i with
  |some none=>.ok (ρ,acc) A|some (some w)=>match tw w ρ with
   |some ρ1=>(ifs ρ1 A).bind λc A1=>match c with
    |.bl true=>(em ρ1 acc A1).bind λp A2=>je j tw ifs em f (i+1) p.1 p.2 A2|.bl false=>je j tw ifs em f (i+1) ρ1 acc A1|_=>.bad
   |none=>.bad
  |none=>.bad
def yQ (mi:Ei)(tw:Tg)(ifs:Ev)(em:Em):Em:=λρ acc A=>(mi ρ A).bind λj A1=>je j tw ifs em j.len 0 ρ acc A1
abbrev jD:=En->Hx->R (List W)
def zN (nl:Nat)(cap:bS)(mi:Ei)(tw:Tg)(ifs:Ev)(em:Em):jD:=λρ A=>(mi ρ A).bind λj A1=>(je j tw ifs em j.len 0 (QA nl cap ρ) [] A1).nox.bind λp A2=>.ok p.2 A2
def X5 (K:Frag)(D:Addr)(φ:bQ)(H:Hp)(Q:St->Hp->Prop)(p:En×List W)(A1:Hx):Prop:=∀a H1 b zs,yo K D φ H a H1->(∀k:Nat,a[k]?≠some D)->zO K a A1 H1->RE K a H1 p.1 b->H1 D=some (.lst zs)->zF K a H1 p.2 zs->Q b H1
inductive ME (K:Frag)(em:Em)(D:Addr)(σ:St)(H:Hp)(Q:St->Hp->Prop):Prop
 |mk (φ:bQ) (A:Hx) (ρ:En) (acc:List W) (ys:List V) (S:zO K φ A H) (re:RE K φ H ρ σ) (hD:H D=some (.lst ys)) (nD:∀k:Nat,φ[k]?≠some D) (rv:zF K φ H acc ys)
  (h:(em ρ acc A).post (X5 K D φ H Q) gj)
noncomputable def tE (K:Frag)(em:Em):we:=λD σ H Q=>ME K em D σ H Q
noncomputable abbrev kS:XR:=λ_ _=>False
def SM (X:Cx)(elt:Expr)(gens:List Comprehension)(sc:Scope)(c:Pos)(d:Nat)(em:Em):Prop:=kR X elt gens sc c d (tE X.K em)
def kR.imp {d:Nat}{t t':we}(h:kR X elt gens sc pos d t)(i:∀D σ H Q,t' D σ H Q->t D σ H Q):kR X elt gens sc pos d t':=
 λpins s σ H D Q k Q' E I hw a=>h pins s σ H D Q k Q' E I (i D σ H Q hw) a
def Gv {K:Frag}{r:R α}{P:α->Hx->Prop}(h:r.post P gj):r.post P (EB K φ H kS):=qp h (λ_ _ z=>z) λ_ _ z=>z.elim
def Yx (X:Cx)(ifs:bV)(m:Ev):Prop:=Zk X ifs (tT X.K kS m)
inductive Oo (tw:Tg)(ifs:Ev)(em:Em)(j:jo)(K:Frag)(D:Addr)(φ:bQ)(H:Hp)(Q:St->Hp->Prop)(f i:Nat)(σ':St)(H':Hp):Prop
 |mk (φ2:bQ) (A2:Hx) (ρ2:En) (acc2:List W) (ys2:List V) (l:yo K D φ H φ2 H') (S:zO K φ2 A2 H') (re:RE K φ2 H' ρ2 σ') (hD:H' D=some (.lst ys2)) (nD:∀k:Nat,φ2[k]?≠some D) (ra:zF K φ2 H' acc2 ys2) (h:(je j tw ifs em f i ρ2 acc2 A2).post (X5 K D φ H Q) gj)
def je.read {tw:Tg}{ifs:Ev}{em:Em}{j:jo}{J:It}{K:Frag}{A:Hx}{ρ:En}{acc:List W}{Q:St->Hp->Prop}{f:Nat}
  (jr:Zr K φ H j J)
  (S:zO K φ A H)(re:RE K φ H ρ σ)(hD:H D=some (.lst ys))(nD:∀k:Nat,φ[k]?≠some D)(ra:zF K φ H acc ys)
  (h:(je j tw ifs em f 0 ρ acc A).post (X5 K D φ H Q) gj):
  Yf J (tG K tw) (tT K kS ifs) (tE K em) D σ H Q:=by
 refine⟨λi f b M=>Oo tw ifs em j K D φ H Q f i b M,
  ⟨f,φ,A,ρ,acc,ys,.refl,S,re,hD,nD,ra,h⟩,?_⟩
 rintro i f T H2 ⟨g,A2,q,e,Y,v,S2,s,I,t,m,a⟩
 obtain⟨j1,j2⟩:=jr i g H2 A2 ⟨v.ex,v.tp,v.fz⟩ S2;cases E:j.at_ A2 i with
 |none=>cases f<;>(unfold je at a;rw[E]at a;exact a.elim)|some o=>
  cases o with
  |none=>
   left
   refine⟨j2 E,?_⟩;cases f<;>(unfold je at a;rw[E]at a;exact a g H2 T Y v t S2 s I m)
  |some w=>
   right
   obtain⟨go,yl⟩:=j1 w E;cases f with
   |zero=>unfold je at a;rw[E]at a;exact a.elim|succ f=>
    unfold je at a;rw[E]at a;refine⟨go,λb M=>Oo tw ifs em j K D φ H Q f (i+1) b M,λb M z=>⟨f,br _,z⟩,λx H3 y=>?_⟩;obtain⟨u,S3,q3⟩:=yl x H3 y;obtain⟨Z,X⟩:=u.off I t;dsimp only at a;cases et:tw w q with
    |none=>rw[et]at a;exact a.elim|some l=>
     rw[et]at a;refine⟨g,A2,q,w,l,S3,s.mono u,q3,et,λσ3 r=>?_⟩;refine tT.go S3 r (Gv (zZ.mp a)) λc A4 d=>?_;cases c with
     |bl k=>
      refine⟨k,rfl,λn H4 L S4=>?_⟩;obtain⟨C,N⟩:=L.off Z X;have B:=(v.trans (u.trans L).toD);cases k with
      |true=>
       rw[ah rfl];refine⟨n,A4,l,e,Y,S4,r.mono L,C,N,m.mono (u.trans L),qp (zZ.mp d) (λp A5 h5 P H5 σ5 zs l5 n5 S5 U d5 r5=>?_) λ_ _ z=>z⟩;exact⟨P,A5,p.1,p.2,zs,B.trans l5,S5,U,d5,n5,r5,h5⟩
      |false=>
       rw[aq ax];exact⟨n,A4,l,e,Y,B,S4,r.mono L,C,N,m.mono (u.trans L),d⟩
     |non=>cases d|int _=>cases d|str _=>cases d|tup _=>cases d|ref _=>cases d|clo _ _ _=>cases d|xc _=>cases d
def Zr.mono {K:Frag}{b:bQ}{H1:Hp}{j:jo}{J:It}(h:Zr K φ H j J)(l:Zo K φ H b H1):Zr K b H1 j J:=
 λi c d A L=>h i c d A ⟨λn a e=>L.ex n a (l.ex n a e),λa vs e=>L.tp a vs (l.tp a vs e),λa o u e=>L.fz a o u (l.fz a o u e)⟩
inductive MF (K:Frag)(xr:XR)(mq:jD)(σ:St)(H:Hp)(Q:VK):Prop
 |mk (φ:bQ) (A:Hx) (ρ:En) (S:zO K φ A H) (re:RE K φ H ρ σ) (h:(mq ρ A).post (λws A1=>∀φ1 H1 D ys,Le K φ H φ1 H1->zO K φ1 A1 H1->H D=none->H1 D=some (.lst ys)->(∀k:Nat,φ1[k]?≠some D)->zF K φ1 H1 ws ys->Q (.ref D) H1) (EB K φ H xr))
noncomputable def tF (K:Frag)(x:XR)(m:jD):TE:=λσ H Q=>MF K x m σ H Q
def SF (X:Cx)(x:XR)(e:Expr)(m:jD):Prop:=PE X e (tF X.K x m)
theorem zN.read {mi:Ei}{tw:Tg}{m:Ev}{em:Em}{nl:Nat}:∀σ H Q,tF X.K xr (zN nl cap mi tw m em) σ H Q->Kw X.K (tI X.K xr mi) (tG X.K tw) (tT X.K kS m) (tE X.K em) nl cap σ H Q:=by
 rintro σ H Q ⟨φ,A,ρ,S,re,h⟩
 refine⟨φ,A,ρ,S,re,qp (zZ.mp h) (λj A1 u b H1 J l s q D c t=>?_) λ_ _ z=>z⟩;have ln:Le X.K b H1 b (upd H1 D (.lst [])):=Le.new c;have a:=zZ.mp u;refine je.read (q.mono ⟨ln.ex,ln.tp,ln.fz⟩) (s.lay c) ((re.mono (l.trans ln)).gM) jY (s.notin c t) .nil ?_ (f:=j.len) (acc:=[]);cases e:je j tw m em j.len 0 (QA nl cap ρ) [] A1 with
 |ok p A2=>
  rw[e]at a;intro d y g zs o n w r v i;have L:=l.trans (Le.ofD c o);exact a d y D zs L w (l.st D c) v n i
 |exc x A2=>rw[e]at a;exact a.elim|bad=>rw[e]at a;exact a.elim
noncomputable def qv (q:jD):Ev:=λρ A=>(q ρ A).bind λws A1=>.ok (.ref A1.length) (A1++[.lst ws])
def qv.read {q:jD}{K:Frag}:∀σ H Q,tM K xr (qv q) σ H Q->tF K xr q σ H Q:=by
 rintro σ H Q ⟨φ,A,ρ,S,re,h⟩
 refine⟨φ,A,ρ,S,re,qp (zZ.mp h) (λws A1 d b H1 D y L s h0 c N r=>?_) λ_ _ z=>z⟩;have l:Le K φ H (b++[D]) H1:=L.track h0;have lw:Zo K b H1 (b++[D]) H1:=⟨λn a h=>by
  have:=(b8.mp h).1
  rw[ai this];exact h,λ_ _ h=>h,λ_ _ _ h=>h⟩
 refine d _ _ _ l (s.track (o:=.lst ws) c N ⟨y,c,r.monoW lw⟩) ⟨D,rfl,?_⟩;rw[<- s.len];simp
inductive MQ (K:Frag)(xr:XR)(mq:jD)(σ:St)(H:Hp)(Q:VK):Prop
 |mk (φ:bQ) (A:Hx) (ρ:En) (S:zO K φ A H) (re:RE K φ H ρ σ) (h:(mq ρ A).post (λws A1=>∀φ1 H1 a ys,Le K φ H φ1 H1->zO K φ1 A1 H1->(qM K H1 a ys∨qE K H1 a ys)->zF K φ1 H1 ws ys->Q (.ref a) H1) (EB K φ H xr))
noncomputable def tQ (K:Frag)(x:XR)(m:jD):TE:=λσ H Q=>MQ K x m σ H Q
def SQ (X:Cx)(x:XR)(e:Expr)(m:jD):Prop:=PE X e (tQ X.K x m)
noncomputable def z0 (w:W)(A:Hx):Option (List W):=match w with
 |.tup ws=>some ws|.ref n=>match A[n]? with
  |some (.lst ws)=>some ws|some (.ro ws)=>some ws|_=>none
 |_=>none
def YU {K:Frag}{A:Hx}{w:W}{ws:List W}(S:zO K φ A H)(q:RV K φ H w v)(e:z0 w A=some ws):∃a y,v=.ref a/\(qM K H a y∨qE K H a y)/\zF K φ H ws y:=by
 unfold z0 at e;cases w with
 |tup xs=>cases e;obtain⟨a,y,b,f,E⟩:=q;exact⟨a,y,b,.inr f,E⟩|ref n=>
  obtain⟨a,b,f⟩:=q;dsimp only at e;cases d:A[n]? with
  |none=>rw[d]at e;cases e|some o=>
   rw[d]at e;obtain⟨g,E,r⟩:=S.ob n o d;rw[f]at E;cases E;cases o with
   |lst xs=>cases e;obtain⟨y,c,h⟩:=r;exact⟨a,y,b,.inl (qM.of c),h⟩|ro xs=>cases e;obtain⟨y,c,h⟩:=r;exact⟨a,y,b,.inl c.sq,h⟩|dct xs=>cases e|tab _ _=>cases e
 |non=>cases e|bl _=>cases e|clo _ _ _=>cases e|xc _=>cases e|int _=>cases e|str _=>cases e
def qi (m:Ev):jD:=λρ A=>(m ρ A).bind λw A1=>match z0 w A1 with
 |some ws=>.ok ws A1|none=>.bad
def K1 (w:W)(A:Hx):Option jo:=match z0 w A with
 |some ws=>some ⟨λA i=>(z0 w A).map λws=>ws[i]?,ws.length⟩|none=>none
def zY (m:Ev):Ei:=λρ A=>(m ρ A).bind λw A1=>match K1 w A1 with
 |some j=>.ok j A1|none=>.bad
def cB (K:Frag)(t:TE):TI:=λσ H r=>t σ H λx H1=>∃a,x=.ref a/\(((∃xs,qM K H1 a xs)/\r (Oh K a) H1)∨((∃xs,qE K H1 a xs)/\r (Od K a) H1))
def Cs {l:Expr}{t:TE}(j:PE X l t):PI X tg l (cB X.K t):=by
 intro pins s σ H n I h;refine zV (j pins s σ H _ I h) λv s1 ⟨x,H1,i,g,Q⟩=>?_;obtain⟨a,e,q⟩:=Q;subst e;cases g;have f:∀b∈[s1.heap.objs.size],ku X pins H1 b:=λb m=>by
  have e:b=s1.heap.objs.size:=by simpa using m
  subst e;exact i.fpOk (aj _) (i.hok.fresh (aj _))
 rcases q with ⟨⟨xs,d⟩,q⟩|⟨⟨xs,d⟩,q⟩
 ·obtain⟨c,r,p,z⟩:=i.list d
  refine wpAny_pyIter_list p.isList ?_;exact⟨s1.heap.objs.size,[s1.heap.objs.size],_,_,H1,rfl,i.kept (t':=s1.toks) λb o e=>ae _ e,Im a _,⟨_,ar _ rfl,rfl,rfl⟩,f,q⟩
 ·obtain⟨c,r,p,z⟩:=i.tuple d
  refine wpAny_pyIter_tuple (show s1.heap.IsTuple a c.toArray from p) ?_
  exact⟨s1.heap.objs.size,[s1.heap.objs.size],_,_,H1,rfl,i.kept (t':=s1.toks) λb o e=>ae _ e,MB a _,⟨_,ar _ rfl,rfl,rfl⟩,f,q⟩
noncomputable def yR (lo:Int)(n:Nat):jo:=⟨λ_ i=>if i<n then some (some (.int (lo+i))) else some none,n⟩
def R6 {K:Frag}{lo:Int}:Zr K φ H (yR lo n) (Yt lo n):=λi a h A lw S=>by
 unfold yR;dsimp only
 by_cases hi:i<n
 ·rw[ah hi]
  refine⟨λw e=>?_,λe=>by cases e⟩
  cases e;exact⟨hi,λx H1 ⟨b,E⟩=>by subst b;exact⟨.refl,S,E⟩⟩
 ·rw[aq hi]
  exact⟨λw e=>(by cases e),λ_=>Nat.le_of_not_lt hi⟩
noncomputable def q9 (i:Int):Bool:=decide (-(2 ^ 62)<=i)&&decide (i<2 ^ 62)
def gx {i:Int}(h:q9 i=true):-(2 ^ 62)<=i/\i<2 ^ 62:=by
 unfold q9 at h;rw[ak,ag,ag]at h;exact h
def jI (m:Ev):Ei:=λρ A=>(m ρ A).bind λw A1=>match w with
 |.int j=>if q9 j then .ok (yR 0 j.toNat) A1 else .bad|_=>.bad
def yT (m m':Ev):Ei:=λρ A=>(m ρ A).bind λw A1=>(m' ρ A1).bind λa A2=>match w,a with
 |.int i,.int j=>if q9 i&&q9 j then .ok (yR i (j-i).toNat) A2 else .bad|_,_=>.bad
end
abbrev Fn:=List W->Hx->R W
def BV (K:Frag)(x:Str)(C:Value):Prop:=nsIn K mainGlobals x=some (some C)
def XE (K:Frag)(E:XK)(x:Str)(H:Hp):Prop:=∀C d,BV K x C->E C d H
inductive Zt (K:Frag)(n:Nat)(f:Fn)(vs:List V)(H:Hp)(Q:VK)(E:XK):Prop
 |mk (len:vs.length=n) (φ:bQ) (A:Hx) (ws:List W) (S:zO K φ A H) (r:zF K φ H ws vs) (q:(f ws A).post (PB K φ H Q) (EB K φ H (XE K E)))
def Zt.len {K:Frag}{f:Fn}{vs:List V}{Q:VK}{E:XK}(h:Zt K n f vs H Q E):vs.length=n:=by cases h;assumption
inductive zL (P:Program)(w:World)(K:Frag)(mg:bY)(base:Heap)(k:Nat)(x:Str)(n:Nat)(f:Fn):Prop
 |mk (fa:Addr) (fd:FuncData) (ps:bT) (F:yC P w K mg base wM k fa fd ps (Zt K n f)) (at_:mg x=some (.ref fa)) (kp:keepIn K (.ref fa)=true) (bi:Binds K fd ps [])
noncomputable def zA (f:Fn)(a:Ea):Ev:=λρ A=>(a ρ A).bind λws A1=>f ws A1
section
variable {m ma:Ev}
def Jo (m:Ea)(n:Nat):Prop:=∀ρ A ws a,m ρ A=.ok ws a->ws.length=n
def qJ:Jo zq 0:=λ_ _ _ _ h=>by unfold zq at h;cases h;rfl
def zS {m:Ea}(h:Jo m n):Jo (zc ma m) (n+1):=λρ A ws a e=>by
 unfold zc at e;cases h1:ma ρ A with
 |ok x A1=>
  rw[h1,zM]at e;cases H:m ρ A1 with
  |ok xs A2=>rw[H,zM]at e;cases e;simp[h ρ A1 xs _ H]|exc x A2=>rw[H]at e;cases e|bad=>rw[H]at e;cases e
 |exc x A1=>rw[h1]at e;cases e|bad=>rw[h1]at e;cases e
end
noncomputable def qH (n:Nat)(m:Ex):Fn:=λws A=>(m (ws.map some++List.replicate (n-ws.length) none) A).nox.bind λf A1=>match f with
 |.rt w=>.ok w A1|.nx _=>.ok .non A1|_=>.bad
theorem RE.start {K:Frag}{ws:List W}{vs:List V}(h:zF K φ H ws vs):RE K φ H (ws.map some++List.replicate (N.length-ws.length) none) (L2.start N vs):=by
 unfold L2.start;refine⟨by simp[h.length],λi w e=>?_⟩
 by_cases hi:i<ws.length
 ·rw[ai (by simpa using hi),ao]at e
  cases hw:ws[i]? with
  |none=>rw[hw]at e;cases e|some c=>
   rw[hw]at e;cases e;obtain⟨v,b,a⟩:=h.get hw;refine⟨v,?_,a⟩;rw[ai (by rw[af,<- h.length];exact hi),ao,b];rfl
 ·rw[az (by simpa using hi),List.getElem?_replicate]at e
  split at e<;>cases e
section
variable {K:Frag}
theorem zL.mono {j k:Nat}{f:Fn}(F:zL P w K mg base j x n f)(h:j<=k):zL P w K mg base k x n f:=by cases F with|mk d fd p F a b c=>exact⟨d,fd,p,F.mono h,a,b,c⟩
end
section
variable {K:Frag}
def jE {a:α}{A:Hx}:qO (R.ok a A):=λ_ _ h=>by cases h
def qU:qO (R.bad:R α):=λ_ _ h=>by cases h
def Zc {c:Prop} [Decidable c] {a b:R α}(H:qO a)(h:qO b):qO (if c then a else b):=by split<;>assumption
noncomputable def gn (f:Int->Int->W):W->W->Hx->R W
 |.int i,.int j,A=>.ok (f i j) A|_,_,_=>.bad
def ZW {f:Int->Int->W}:∀x y A,qO (gn f x y A):=λx y A=>by
 unfold gn;split
 ·exact jE
 ·exact qU
noncomputable def Zx (c:Int->Int->Bool)(f:Int->Int->W):W->W->Hx->R W
 |.int i,.int j,A=>if c i j then .ok (f i j) A else .bad|_,_,_=>.bad
def XB {c:Int->Int->Bool}{f:Int->Int->W}:∀x y A,qO (Zx c f x y A):=λx y A=>by
 unfold Zx;split
 ·exact Zc jE qU
 ·exact qU
def ZT {f:Int->Int->W}{g:Int->Int->V}(h:∀i j φ H,RV K φ H (f i j) (g i j)):jX K (gq g) (gn f):=λφ A H x y u v Q S a q p=>by
 cases u with
 |int i=>cases v with
  |int j=>obtain rfl:=a;obtain rfl:=q;exact⟨i,j,rfl,rfl,p φ H _ .refl S (h i j φ H)⟩|_=>exact p.elim
 |_=>exact p.elim
def G4 {c:Int->Int->Bool}{C:Int->Int->Prop}{f:Int->Int->W}{g:Int->Int->V}(d:∀i j,c i j=true->C i j)(h:∀i j φ H,RV K φ H (f i j) (g i j)):jX K (rI C g) (Zx c f):=λφ A H x y u v Q S b q p=>by
 cases u with
 |int i=>cases v with
  |int j=>
   obtain rfl:=b;obtain rfl:=q;unfold Zx at p;dsimp only at p
   by_cases a:c i j=true
   ·rw[ah a]at p;exact⟨i,j,rfl,rfl,d i j a,p φ H _ .refl S (h i j φ H)⟩
   ·rw[aq a]at p;exact p.elim
  |_=>exact p.elim
 |_=>exact p.elim
noncomputable def QI (i j:Int):Bool:=(decide (-(2 ^ 64)<i)&&decide (i<2 ^ 64)) || (decide (-(2 ^ 64)<j)&&decide (j<2 ^ 64))
noncomputable def KS (_ j:Int):Bool:=decide (0<j)
def Dc (i j:Int)(h:QI i j=true):Yj i j:=by
 unfold QI at h;simp only[bI,ak,decide_eq_true_eq]at h;exact h
def FY (i j:Int)(h:KS i j=true):(λ_ j=>0<j) i j:=by
 unfold KS at h;simpa using h
def kq:=gn λi j=>.int (i-j)
def k5:=Zx KS λi j=>.int (i%j)
def XH:=gn λi j=>.int (Builtin.bitXor i j)
def yM:=gn λi j=>.bl (decide (i<j))
def jR:=gn λi j=>.bl (decide (i<=j))
def Yw:=gn λi j=>.bl (decide (j<i))
def Wn:=gn λi j=>.bl (decide (j<=i))
noncomputable def XD (i j:Int):Bool:=decide (0<=j)&&decide (j<=1000000)&&decide (i.natAbs<2 ^ 64)
def Ez (i j:Int)(h:XD i j=true):P4 i j:=by
 unfold XD at h;simp only[ak,decide_eq_true_eq]at h;exact⟨h.1.1,h.1.2,h.2⟩
def KO:=Zx XD λi j=>.int (i ^ j.toNat)
variable {a b c:Expr}
noncomputable def k6:W->Hx->R W
 |.int i,A=>.ok (.int (-i)) A|_,_=>.bad
structure kj (X:Cx)(op:CmpOp)(g:W->W->Hx->R W):Prop where
 ex:∃r:R2,qN X (compareOp op) r/\(∀x y A,qO (g x y A))/\jX X.K r g
 mks:∀b,op≠.In->op≠.NotIn->behindInMarks op b=false
def ZS {r:R2}{g:W->W->Hx->R W}(a:qN X (compareOp op) r)(H:∀x y A,qO (g x y A))(h:jX X.K r g):kj X op g:=⟨⟨r,a,H,h⟩,λb a1 a2=>IM b a1 a2⟩
def Jr:kj X .Lt yM:=ZS AA ZW (ZT λ_ _ _ _=>rfl)
def gK:kj X .LtE jR:=ZS BR ZW (ZT λ_ _ _ _=>rfl)
def XG:kj X .Gt Yw:=ZS Bn ZW (ZT λ_ _ _ _=>rfl)
def Oc:kj X .GtE Wn:=ZS Bl ZW (ZT λ_ _ _ _=>rfl)
end
inductive Ty where
 |non|bl|int|str|tup|lst|dct
 deriving DecidableEq
noncomputable def Ty.nm:Ty->String
 |.non => "NoneType" | .bl => "bool" | .int => "int" | .str => "str" | .tup => "tuple" | .lst => "list" | .dct => "dict"
noncomputable def ZA (w:W)(A:Hx):Option Ty:=match w with
 |.non=>some .non|.bl _=>some .bl|.int _=>some .int|.str _=>some .str|.tup _=>some .tup|.ref n=>match A[n]? with
  |some (.lst _)=>some .lst|some (.dct _)=>some .dct|_=>none
 |_=>none
noncomputable def Z0 (a b:Ty):Bool:=a==b || (a==.bl&&b==.int)
def Rb {K:Frag}(a b:Ty):kitOne K (.type a.nm) (.type b.nm)=some (Z0 a b):=by
 cases a<;>cases b<;>rfl
section
variable {xr:XR}{K:Frag}{a c:Expr}{es:bV}{m:Ev}
def Wa (K:Frag)(H:Hp)(x:V)(t:Ty):Prop:=wa K H x (.type t.nm)∨∃a xs,x=.ref a/\qE K H a xs/\t=.tup
def Hs {A:Hx}{w:W}{t:Ty}(S:zO K φ A H)(q:RV K φ H w v)(e:ZA w A=some t):Wa K H v t:=by
 cases w with
 |non=>cases e;obtain rfl:=q;exact .inl .non|bl k=>cases e;obtain rfl:=q;exact .inl (.bl k)|clo _ _ _=>cases e|xc _=>cases e|int k=>cases e;obtain rfl:=q;exact .inl (.int k)|str k=>cases e;obtain rfl:=q;exact .inl (.str k)|tup ws=>cases e;obtain⟨a,vs,rfl,h,_⟩:=q;exact .inr ⟨a,vs,rfl,h,rfl⟩|ref n=>
  obtain⟨a,rfl,c⟩:=q;unfold ZA at e;dsimp only at e;cases E:A[n]? with
  |none=>rw[E]at e;cases e|some o=>
   rw[E]at e;obtain⟨d,b,r⟩:=S.ob n o E;rw[c]at b;cases b;cases o with
   |lst ws=>cases e;obtain⟨vs,z,_⟩:=r;exact .inl (.lst z)|dct ws=>cases e;obtain⟨vs,z,_⟩:=r;exact .inl (.dK z)|tab _ _=>cases e|ro ws=>cases e
def Wa.kit {x:V}{t:Ty}(I:Inv X pins σ H s)(r:RelV x u)(h:Wa X.K H x t):
  (∀{Q:bU}{E:bU}{A:Around}{c:Ty},(∀tk,Q (.bool (Z0 t c)) { s with toks:=tk })->wpAny (model X.prog X.w) A (call (.builtin "isinstance") [u,.type c.nm]) Q E s):=by
 intro Q E A c q;rcases h with h|⟨a,xs,rfl,h,rfl⟩
 ·exact LU I r h (Rb t c) q
 ·cases (show u=Value.ref a from r)
  obtain⟨i,_,⟨o,d,b,_⟩,_⟩:=I.tuple h;exact bF kitx_tuple I.kIn ⟨o,d,b⟩ (Rb .tup c) (λz=>nomatch z) q
def cC (K:Frag):List V->Hp->VK->Prop:=λxs H Q=>∃x t c,xs=[x,.ty (Ty.nm c)]/\Wa K H x t/\Q (.bl (Z0 t c)) H
def Dm:jU X (.builtin "isinstance") (cC X.K):=by
 intro pins s σ H xs us Q I r h;obtain⟨x,t,c,rfl,d,q⟩:=h;obtain⟨u,U,rfl,b,a⟩:=vals2 r;cases (show U=Value.type c.nm from a)
 exact d.kit I b λtk=>⟨.bl (Z0 t c),H,I.tok tk,rfl,q⟩
def Zp (t:Ty)(m:Ev):Ev:=λρ A=>(m ρ A).bind λw A1=>match ZA w A1 with
 |some t'=>.ok (.bl (Z0 t' t)) A1|none=>.bad
def zI:W->W->Hx->R W:=λx y A=>match z0 x A,y with
 |some ws,.int i=>match yL ws i with
  |some w=>.ok w A|none=>.bad
 |_,_=>.bad
def B8:∀x y A,qO (zI x y A):=λx y A=>by
 unfold zI;split
 ·split
  ·exact jE
  ·exact qU
 ·exact qU
def Fq {ws:List W}{i:Int}{w:W}(r:zF K φ H ws ys)(e:yL ws i=some w):∃y,yL ys i=some y/\RV K φ H w y:=by
 unfold yL at e ⊢;rw[<- r.length];cases h:wb ws.length i with
 |none=>rw[h]at e;cases e|some j=>
  rw[h]at e;obtain⟨y,b,a⟩:=r.get (i:=j) e;exact⟨y,b,a⟩
def DY:jX K (Oe K) zI:=λφ A H x y u v Q S d q p=>by
 unfold zI at p;cases es:z0 u A with
 |none=>rw[es]at p;exact p.elim|some ws=>
  rw[es]at p;cases v with
  |int i=>
   obtain rfl:=q;dsimp only at p;cases e:yL ws i with
   |none=>rw[e]at p;exact p.elim|some w=>
    rw[e]at p;obtain⟨a,Y,rfl,z,r⟩:=YU S d es;obtain⟨b,c,h⟩:=Fq r e;rcases z with z|z
    ·exact .inl ⟨a,Y,i,b,rfl,rfl,z,c,p φ H _ .refl S h⟩
    ·exact .inr (.inl ⟨a,Y,i,b,rfl,rfl,z,c,p φ H _ .refl S h⟩)
  |non=>exact p.elim|bl _=>exact p.elim|str _=>exact p.elim|tup _=>exact p.elim|ref _=>exact p.elim|clo _ _ _=>exact p.elim|xc _=>exact p.elim
def Zv (K:Frag)(r:List V->Hp->VK->Prop)(g:List W->Hx->R W):Prop:=∀φ A H a y ws Q,zO K φ A H->(qM K H a y∨qE K H a y)->zF K φ H ws y->(g ws A).post (PB K φ H Q) gj->r [.ref a] H Q
noncomputable def mQ (g:List W->Hx->R W)(q:jD):Ev:=λρ A=>(q ρ A).bind λws A1=>g ws A1
def mQ.read {g:List W->Hx->R W}{q:jD}(hn:∀ws A,qO (g ws A))(c:Zv X.K r g):∀σ H Q,tM X.K xr (mQ g q) σ H Q->Wi r (Py (tQ X.K xr q) PY) σ H Q:=by
 rintro σ H Q ⟨φ,A,ρ,S,re,h⟩
 refine⟨φ,A,ρ,S,re,qp (zZ.mp h) (λws A1 d b H1 a y l s z r=>?_) λ_ _ z=>z⟩;exact c b A1 H1 a y ws Q s z r (qp (Q2 (hn _ _) d) (λ_ _ z=>z.mono l) λ_ _ z=>z)
def Kz {id:String}{g:List W->Hx->R W}{q:jD}(d:jU X (.builtin id) r)(hn:∀ws A,qO (g ws A))(a:Zv X.K r g)(hm:X.mg x=none)(v:bootBuiltins x=some (.builtin id))(f:SQ X xr e q)(c:Gl X x:=by rfl)
  (H:x ≠ "__name__":=by decide)(b:(x==("__debug__":Str))=false:=by decide)(he:starEach [e] X.env=(false,eval e X.env)::starEach [] X.env:=by rfl)(h:(backTo pos (starEach [] X.env)).any (·.1)=false:=by rfl):
  SE X xr (.Call (.Name x p) [e] [] pos) (mQ g q):=PE.imp (JS d c hm v (jv f j0 he) H b he h) (mQ.read hn a)
def BY {id:String}{g:List W->Hx->R W}{q:jD}(d:jU X (.type id) r)(hn:∀ws A,qO (g ws A))(a:Zv X.K r g)(hm:X.mg x=none)(v:bootBuiltins x=some (.type id))(f:SQ X xr e q)(c:Gl X x:=by rfl)
  (H:x ≠ "__name__":=by decide)(b:(x==("__debug__":Str))=false:=by decide)(he:starEach [e] X.env=(false,eval e X.env)::starEach [] X.env:=by rfl)(h:(backTo pos (starEach [] X.env)).any (·.1)=false:=by rfl):
  SE X xr (.Call (.Name x p) [e] [] pos) (mQ g q):=PE.imp (Qe d c hm v (jv f j0 he) H b he h) (mQ.read hn a)
noncomputable def qR:List W->Hx->R W:=λws A=>.ok (.int ws.length) A
def Ef:Zv K (λxs H Q=>∃p y,xs=[.ref p]/\(qM K H p y∨qE K H p y)/\Q (.int y.length) H) qR:=λφ A H a y ws Q S z r p=>
 ⟨a,y,rfl,z,by rw[<- r.length];exact p φ H _ .refl S rfl⟩
noncomputable def j4:List W->Hx->R W:=λws A=>.ok (.tup ws) A
def EL:Zv K (λxs H Q=>∃p y,xs=[.ref p]/\((qM K H p y/\∀l,H l=none->Q (.ref l) (upd H l (.tup y)))∨(qE K H p y/\Q (.ref p) H))) j4:=λφ A H a y ws Q S z r p=>by
 refine⟨a,y,rfl,?_⟩;rcases z with z|z
 ·refine .inl ⟨z,λl h=>?_⟩
  obtain⟨a1,a2,b⟩:=ZO S h r;exact p _ _ _ a1 a2 b
 ·exact .inr ⟨z,p φ H _ .refl S ⟨a,y,rfl,z,r⟩⟩
variable {b:Expr}
def YY {a:Addr}(I:Inv X pins σ H s)(l:X.calm=true)(z:qM X.K H a ys∨qE X.K H a ys)
  (h:∀(c:bP)(j:Addr)(fp wr:bQ)(S:Nat->Heap->Prop)(s2:Shared),Vals ys c->ys.length<=sizeLine->Walks X.prog X.w X.A.in1 j fp wr c.length (λi v=>c[i]? =some v) S->S 0 s2.heap->(∀b∈fp,b<s2.heap.objs.size)->
   (∀(h':Heap)(tk:Nat),(∀b o,b∉wr->s2.heap.get? b=some o->h'.get? b=some o)->Inv X pins σ H { s2 with heap:=h',toks:=tk })->Q (.ref j) s2):
  wpAny (model X.prog X.w) X.A.in1 (pyIter (.ref a)) Q E s:=by
 have g:X.A.in1.handled=none:=I.ok.hd l;have keep:∀(o:Obj)(h':Heap)(tk:Nat),(∀b u,b∉[s.heap.objs.size]->(s.heap.push o).get? b=some u->h'.get? b=some u)->Inv X pins σ H { s with heap:=h',toks:=tk }:=λo h' tk k=>I.kept λb u e=>k b u (by
  intro hm;have m:b=s.heap.objs.size:=by simpa using hm
  exact absurd (m ▸ aH e) (aW _)) (ae _ e)
 rcases z with z|z
 ·obtain⟨c,r,p,f⟩:=I.list z
  have t:a<s.heap.objs.size:=by obtain⟨o,n,e,_⟩:=p;exact aH e
  refine wpAny_pyIter_list p.isList ?_;have W:=Walks.list (prog:=X.prog) (w:=X.w) g s.heap.objs.size a (aJ t) c.toArray;rw[aA]at W;simp only[List.getElem?_toArray]at W;refine h c s.heap.objs.size _ _ _ _ r f W ⟨⟨_,ar _ rfl,rfl,rfl⟩,p.isList.at λo e=>ae _ e⟩ (λb d=>?_) λh' tk k=>keep _ h' tk k;show b<(s.heap.push _).objs.size;rw[bc];rcases b9.mp d with e|d
  ·rw[e];exact br _
  ·have e:b=a:=by simpa using d
   rw[e];exact a7 t
 ·obtain⟨c,r,p,f⟩:=I.tuple z
  have t:a<s.heap.objs.size:=p.lt;have P:s.heap.IsTuple a c.toArray:=p;refine wpAny_pyIter_tuple P ?_;have W:=Walks.tuple (prog:=X.prog) (w:=X.w) g s.heap.objs.size a (aJ t) c.toArray;rw[aA]at W;simp only[List.getElem?_toArray]at W;refine h c s.heap.objs.size _ _ _ _ r f W ⟨⟨_,ar _ rfl,rfl,rfl⟩,P.at λo e=>ae _ e⟩ (λb d=>?_) λh' tk k=>keep _ h' tk k;show b<(s.heap.push _).objs.size;rw[bc];rcases b9.mp d with e|d
  ·rw[e];exact br _
  ·have e:b=a:=by simpa using d
   rw[e];exact a7 t
noncomputable def Yo:V->Option Bool
 |.bl b=>some b|.int i=>some (i != 0)|.non=>some false|_=>none
noncomputable def Yl:W->Option Bool
 |.bl b=>some b|.int i=>some (i != 0)|.non=>some false|_=>none
def Hv {w:W}{k:Bool}(q:RV K φ H w v)(e:Yl w=some k):Yo v=some k:=by
 cases w<;>first
  |(cases e;done)
  |(obtain rfl:=q;exact e)
def LH {A:Around}{k:Bool}{Q:Bool->Shared->Prop}(r:RelV v u)(e:Yo v=some k)(h:Q k s):wpAny (model X.prog X.w) A (truthy u) Q E s:=by
 cases v with
 |bl b=>cases e;cases r;exact wpAny_truthy_bool h|int i=>
  cases e;obtain⟨t,rfl⟩:=r;exact PySem.P.truthy_int h
 |non=>cases e;cases r;exactλ_ _ _=>h|_=>cases e
def wZ:List W->Option (List Bool)
 |[]=>some []|w::ws=>match Yl w,wZ ws with
  |some k,some ks=>some (k::ks)|_,_=>none
theorem Ux:∀{ws:List W}{Y:List V}{ks:List Bool},zF K φ H ws Y->wZ ws=some ks->∀(i:Nat)(y:V),Y[i]? =some y->∃k,ks[i]? =some k/\Yo y=some k
 |[],_,_,r,e,i,y,h=>by cases r;simp at h|w::ws,_,ks,⟨v,r,g,q,t⟩,e,i,y,h=>by
  subst g;unfold wZ at e;cases E:Yl w with
  |none=>rw[E]at e;cases e|some k=>
   cases a:wZ ws with
   |none=>rw[E,a]at e;cases e|some b=>
    rw[E,a]at e;cases e;cases i with
    |zero=>simp at h;subst h;exact⟨k,by simp,Hv q E⟩|succ i=>simp at h;obtain⟨c,f,d⟩:=Ux t a i y h;exact⟨c,by simpa using f,d⟩
theorem UX:∀{ws:List W}{ks:List Bool},wZ ws=some ks->ks.length=ws.length
 |[],_,e=>by cases e;rfl|w::ws,ks,e=>by
  unfold wZ at e;cases a:Yl w with
  |none=>rw[a]at e;cases e|some k=>
   cases E:wZ ws with
   |none=>rw[a,E]at e;cases e|some K=>rw[a,E]at e;cases e;simp[UX E]
def range_all (ks:List Bool):(List.range ks.length).all (λi=>ks.getD i false)=ks.all id:=by
 rw[Bool.eq_iff_iff,bq,bq]
 constructor
 ·intro h x a
  obtain⟨i,hi,rfl⟩:=bo a
  have:=h i (b6.mpr hi)
  rw[ab,aa hi]at this;exact this
 ·intro h i hi
  have H:=b6.mp hi;rw[ab,aa H];exact h _ (aK H)
def Oa (K:Frag)(f:List Bool->Bool):List V->Hp->VK->Prop:=λxs H Q=>∃a Y ks,xs=[.ref a]/\(qM K H a Y∨qE K H a Y)/\ks.length=Y.length/\(∀(i:Nat)(y:V),Y[i]? =some y->∃k,ks[i]? =some k/\Yo y=some k)/\Q (.bl (f ks)) H
def Hy {ks:List Bool}{A:Around}(r:Vals ys its)(l:ks.length=ys.length)(t:∀(i:Nat)(y:V),ys[i]? =some y->∃k,ks[i]? =some k/\Yo y=some k):TruthOf X.prog X.w A (λi v=>its[i]? =some v) λi=>ks.getD i false:=by
 intro i v s Q E P H;have hi:i<its.length:=(b8.mp P).1;have h:i<ys.length:=by rw[r.length];exact hi
 obtain⟨u,a,d⟩:=r.get (i:=i) (x:=ys[i]) (by simp[h])
 rw[P]at a;cases a;obtain⟨k,c,b⟩:=t i ys[i] (by simp[h])
 dsimp only at H;rw[ab,c]at H;exact LH d b H
def FC (d:X.calm=true):jU X (.builtin "all") (Oa X.K λks=>ks.all id):=by
 intro pins s σ H xs us Q I r h;obtain⟨a,y,ks,rfl,z,l,t,q⟩:=h;obtain⟨u,rfl,c⟩:=vals1 r;cases c;refine call_all_walk (YY I d z λb f fp wr S s2 v g W st p back=>?_);refine⟨f,fp,wr,_,_,S,λi=>ks.getD i false,rfl,W,st,Hy v l t,λh' tk k=>?_⟩;have e:b.length=ks.length:=by rw[l,v.length]
 rw[e,range_all];exact⟨.bl _,H,back h' tk k,rfl,q⟩
def k9 (f:List Bool->Bool):List W->Hx->R W:=λws A=>match wZ ws with
 |some ks=>.ok (.bl (f ks)) A|none=>.bad
def Cf {f:List Bool->Bool}:∀ws A,qO (k9 f ws A):=λws A=>by
 unfold k9;split
 ·exact jE
 ·exact qU
def Ds {f:List Bool->Bool}:Zv K (Oa K f) (k9 f):=λφ A H a y ws Q S z r p=>by
 unfold k9 at p;cases e:wZ ws with
 |none=>rw[e]at p;exact p.elim|some ks=>
  rw[e]at p;exact⟨a,y,ks,rfl,z,by rw[UX e,r.length],Ux r e,p φ H _ .refl S rfl⟩
abbrev kQ:=k9 λks=>ks.all id
def DE:qN X (compareOp .Is) (λx y H Q=>∃i j,x=.bl i/\y=.bl j/\Q (.bl (i==j)) H):=by
 intro pins s σ H x y v u Q I a r h;obtain⟨i,j,rfl,rfl,q⟩:=h;cases a;cases r;exact is_bool ⟨.bl _,H,I,rfl,q⟩
def Iw:qN X (compareOp .IsNot) (λx y H Q=>∃i j,x=.bl i/\y=.bl j/\Q (.bl (!(i==j))) H):=by
 intro pins s σ H x y v u Q I a r h;obtain⟨i,j,rfl,rfl,q⟩:=h;cases a;cases r;exact isnot_bool ⟨.bl _,H,I,rfl,q⟩
noncomputable def Xo:W->Bool
 |.non=>true|_=>false
def U4 {w:W}(q:RV K φ H w v):decide (v=.non)=Xo w:=by
 cases w with
 |non=>obtain rfl:=q;rfl|bl b=>obtain rfl:=q;rfl|clo _ _ _=>obtain⟨a,_,_,_,_,_,_,rfl,_⟩:=q;rfl|xc _=>obtain⟨a,_,_,_,rfl,_⟩:=q;rfl|int b=>obtain rfl:=q;rfl|str b=>obtain rfl:=q;rfl|tup ws=>obtain⟨a,vs,rfl,_⟩:=q;rfl|ref n=>obtain⟨a,rfl,_⟩:=q;rfl
def jL (neg:Bool):W->W->Hx->R W:=λx y A=>match x,y with
 |.bl i,.bl j=>.ok (.bl (if neg then !(i==j) else i==j)) A|w,.non=>.ok (.bl (if neg then !Xo w else Xo w)) A|_,_=>.bad
def Pd {n:Bool}:∀x y A,qO (jL n x y A):=λx y A=>by
 unfold jL;split
 ·exact jE
 ·exact jE
 ·exact qU
def DR:jX K (λx y H Q=>(y=.non/\Q (.bl (decide (x=.non))) H)∨∃i j,x=.bl i/\y=.bl j/\Q (.bl (i==j)) H) (jL false):=λφ A H x y u v Q S b a p=>by
 cases v with
 |non=>
  have q:y=.non:=a;refine .inl ⟨q,?_⟩;rw[U4 b];cases u<;>exact p φ H _ .refl S rfl
 |bl j=>
  cases u with
  |bl i=>obtain rfl:=b;obtain rfl:=a;exact .inr ⟨i,j,rfl,rfl,p φ H _ .refl S rfl⟩|_=>exact p.elim
 |_=>cases u<;>exact p.elim
def IK:jX K (λx y H Q=>(y=.non/\Q (.bl (!decide (x=.non))) H)∨∃i j,x=.bl i/\y=.bl j/\Q (.bl (!(i==j))) H) (jL true):=λφ A H x y u v Q S b a p=>by
 cases v with
 |non=>
  have q:y=.non:=a;refine .inl ⟨q,?_⟩;rw[U4 b];cases u<;>exact p φ H _ .refl S rfl
 |bl j=>
  cases u with
  |bl i=>obtain rfl:=b;obtain rfl:=a;exact .inr ⟨i,j,rfl,rfl,p φ H _ .refl S rfl⟩|_=>exact p.elim
 |_=>cases u<;>exact p.elim
def A9:kj X .Is (jL false):=ZS (D1.or DE) Pd DR
def ZM:kj X .IsNot (jL true):=ZS (FO.or Iw) Pd IK
end
noncomputable def P9 (outer sc:Scope):Bool:=sc.kind==.function&&decide ((sc.names.map (·.1)).Nodup)&&sc.names.all λy=>y.2 != .free || (outer.names.lookup y.1==some .cell || outer.names.lookup y.1==some .free)
def cps (h:P9 X.env.scope sc=true):gB X sc:=by
 unfold P9 at h;rw[ak,ak,ag,a6,bq]at h;refine⟨h.1.1,h.1.2,λy H e=>?_⟩
 have:=h.2 y H
 rw[e]at this;simp only[bne_self_eq_false,Bool.false_or,bI,a6]at this;exact this
section
variable {xr:XR}{K:Frag}{a b:Expr}{ma mb:Ev}
theorem zO.lst {φ:bQ}{A:Hx}{H:Hp}{n:Nat}{ws:List W}{v:V}(S:zO K φ A H)(q:RV K φ H (.ref n) v)(e:A[n]? =some (.lst ws)):∃p vs,v=.ref p/\φ[n]? =some p/\H p=some (.lst vs)/\zF K φ H ws vs:=by
 obtain⟨p,rfl,a⟩:=q;obtain⟨P,h,vs,c,b⟩:=S.ob n _ e;rw[a]at h;cases h;exact⟨p,vs,rfl,a,c,b⟩
def HL {prog:Program}{A:Around}{t b:Addr}{ws:bP}(a:IsTup s.heap t ([]:bP).toArray)(e:IsTup s.heap b ws.toArray)(h0:Q (.ref b) s):
  wpAny (model prog w) A (binaryOp .Add (.ref t) (.ref b)) Q E s:=by
 obtain⟨⟨cls,D,data,sl⟩,o,c,n,hd⟩:=id a;obtain⟨⟨C,d,data2,S⟩,h,H,N,hd2⟩:=id e;simp only at c hd H hd2;subst c hd H hd2;exact concat_meets ⟨_,o,rfl⟩ ⟨_,h,rfl⟩ noFill_tuple_add seq_tuple_add slot_tuple_add entry_tuple_add (args_tuple_add_2 _ _)
   (tuple_addW0 t b ([]:bP).toArray ws.toArray n N D d sl S (by simp)) ⟨o,h,h0⟩
noncomputable def RJ (K:Frag):R2:=λx y H Q=>∃a b Y,x=.ref a/\y=.ref b/\qE K H a []/\qE K H b Y/\Q (.ref b) H
def Fv:qN X (binaryOp .Add) (RJ X.K):=by
 intro pins s σ H x y v u Q I c r h;obtain⟨a,b,Y,rfl,rfl,g,f,q⟩:=h;cases c;cases r;obtain⟨e,d,P,_⟩:=I.tuple g;obtain⟨i,j,p,_⟩:=I.tuple f;cases d;exact HL P p ⟨.ref b,H,I,rfl,q⟩
def qL:W->W->Hx->R W:=λx y A=>match x,y with
 |.int i,.int j=>.ok (.int (i+j)) A|.tup xs,.tup Y=>if xs.length+Y.length<=zT then .ok (.tup (xs++Y)) A else .bad|.ref n,.ref k=>match A[n]?,A[k]? with
  |some (.lst xs),some (.lst Y)=>if xs.length+Y.length<=zT then .ok (.ref A.length) (A++[.lst (xs++Y)]) else .bad|_,_=>.bad
 |_,_=>.bad
def Cw:∀x y A,qO (qL x y A):=λx y A=>by
 unfold qL
 split
 ·exact jE
 ·exact Zc jE qU
 ·split
  ·exact Zc jE qU
  ·exact qU
 ·exact qU
def gy (h:n<=zT):n<=sizeLine:=by
 have:sizeLine=16777216:=sizeLine_eq
 unfold zT at h;omega
def Ep:jX K (λx y H Q=>gq (λi j=>.int (i+j)) x y H Q∨PN K x y H Q∨RJ K x y H Q∨P8 x y H Q) qL:=λφ A H x y u v Q S f q p=>by
 cases u with
 |int i=>cases v with
  |int j=>obtain rfl:=f;obtain rfl:=q;exact .inl ⟨i,j,rfl,rfl,p φ H _ .refl S rfl⟩|_=>exact p.elim
 |tup xs=>cases v with
  |tup Y=>
   obtain⟨a1,b,rfl,t1,c⟩:=f;obtain⟨a2,a,rfl,t,r⟩:=q;unfold qL at p;dsimp only at p
   by_cases h:xs.length+Y.length<=zT
   ·rw[ah h]at p
    by_cases w:b=[]
    ·subst w
     have m:xs=[]:=by
      have:=c.length
      simpa using this
     subst m;exact .inr (.inr (.inl ⟨a1,a2,a,rfl,rfl,t1,t,p φ H _ .refl S ⟨a2,a,rfl,t,r⟩⟩))
    ·refine .inr (.inl ⟨a1,a2,b,a,rfl,rfl,t1,t,w,by rw[<- c.length,<- r.length];exact gy h,λe=>?_,λne l g=>?_⟩)
     ·subst e
      have m:Y=[]:=by
       have:=r.length
       simpa using this
      subst m;rw[append_nil]at p;exact p φ H _ .refl S ⟨a1,b,rfl,t1,c⟩
     ·obtain⟨s,o,B⟩:=ZO S g (c.append r)
      exact p _ _ _ s o B
   ·rw[aq h]at p;exact p.elim
  |_=>exact p.elim
 |ref n=>cases v with
  |ref k=>
   unfold qL at p;dsimp only at p;cases E:A[n]? with
   |none=>rw[E]at p;exact p.elim|some D=>cases D with
    |lst xs=>
     cases d:A[k]? with
     |none=>rw[E,d]at p;exact p.elim|some C=>cases C with
      |lst Y=>
       rw[E,d]at p;dsimp only at p;obtain⟨z,v1,rfl,f1,g1,c⟩:=S.lst f E;obtain⟨P,v2,rfl,f2,g2,r⟩:=S.lst q d
       by_cases h:xs.length+Y.length<=zT
       ·rw[ah h]at p
        refine .inr (.inr (.inr ⟨z,P,v1,v2,rfl,rfl,g1,g2,by rw[<- c.length,<- r.length];exact gy h,λl g=>?_⟩))
        obtain⟨s,o,B⟩:=ZR S g (c.append r);exact p _ _ _ s o B
       ·rw[aq h]at p;exact p.elim
      |_=>rw[E,d]at p;exact p.elim
    |_=>rw[E]at p;exact p.elim
  |_=>exact p.elim
 |_=>cases v<;>exact p.elim
def qw:W->W->Hx->R W:=λx y A=>match x,y with
 |.int i,.int j=>if QI i j then .ok (.int (i * j)) A else .bad|.ref n,.int k=>match A[n]? with
  |some (.lst xs)=>if q9 k&&decide (xs.length * k.toNat<=zT) then .ok (.ref A.length) (A++[.lst (List.replicate k.toNat xs).flatten]) else .bad|_=>.bad
 |_,_=>.bad
def CZ:∀x y A,qO (qw x y A):=λx y A=>by
 unfold qw
 split
 ·exact Zc jE qU
 ·split
  ·exact Zc jE qU
  ·exact qU
 ·exact qU
theorem zF.rep {ws:List W}{vs:List V}(r:zF K φ H ws vs):∀n:Nat,zF K φ H (List.replicate n ws).flatten (List.replicate n vs).flatten
 |0=>.nil|n+1=>by rw[bg,bg,aZ,aZ];exact r.append (zF.rep r n)
def E9:jX K (λx y H Q=>rI Yj (λi j=>.int (i * j)) x y H Q∨P7 x y H Q) qw:=λφ A H x y u v Q S a q p=>by
 cases v with
 |int j=>cases u with
  |int i=>
   obtain rfl:=a;obtain rfl:=q;unfold qw at p;dsimp only at p
   by_cases c:QI i j=true
   ·rw[ah c]at p;exact .inl ⟨i,j,rfl,rfl,Dc i j c,p φ H _ .refl S rfl⟩
   ·rw[aq c]at p;exact p.elim
  |ref n=>
   obtain rfl:=q;unfold qw at p;dsimp only at p;cases e:A[n]? with
   |none=>rw[e]at p;exact p.elim|some o=>cases o with
    |lst xs=>
     rw[e]at p;dsimp only at p;obtain⟨P,v1,rfl,f1,g1,r⟩:=S.lst a e
     by_cases h:(q9 j&&decide (xs.length * j.toNat<=zT))=true
     ·rw[ah h]at p
      rw[ak,ag]at h;obtain⟨g,B⟩:=gx h.1;refine .inr ⟨P,j,v1,rfl,rfl,g1,by omega,by omega,by rw[<- r.length];exact gy h.2,λl b=>?_⟩
      obtain⟨f,d,C⟩:=ZR S b (r.rep j.toNat);exact p _ _ _ f d C
     ·rw[aq h]at p;exact p.elim
    |_=>rw[e]at p;exact p.elim
  |_=>exact p.elim
 |_=>cases u<;>exact p.elim
def wY:W->W->Hx->R W:=λx y A=>match x with
 |.ref n=>match A[n]? with
  |some (.lst ws)=>if ws.length<zT then .ok .non (A.set n (.lst (ws++[y]))) else .bad|_=>.bad
 |_=>.bad
noncomputable def Ju (x:W)(A:Hx):Bool:=match x with
 |.ref n=>match A[n]? with
  |some (.lst _)=>true|_=>false
 |_=>false
def HD {A:Hx}{w:W}(S:zO K φ A H)(q:RV K φ H w v)(e:Ju w A=true):Wq K "list" v H:=by
 unfold Ju at e;cases w with
 |ref n=>
  dsimp only at e;cases E:A[n]? with
  |none=>rw[E]at e;cases e|some o=>cases o with
   |lst ws=>obtain⟨p,vs,rfl,_,h,_⟩:=S.lst q E;exact .inl ⟨rfl,_,qM.of h⟩|_=>rw[E]at e;cases e
 |_=>cases e
def ko (g:W->W->Hx->R W)(a b:Ev):Ev:=λρ A=>(a ρ A).bind λx A1=>if Ju x A1 then(b ρ A1).bind λy A2=>g x y A2 else .bad
def XC {nm:Str}{id:String}{r:V->List V->Hp->VK->Prop}{g:W->W->Hx->R W}{apos c:Pos}(slot:Slot "list" nm id)(m:typeOf (.builtin id)=pure (.type "method_descriptor"))(hm:X9 X id r)(hn:∀x y A,qO (g x y A))
  (D:∀φ A H x y u v Q,zO X.K φ A H->RV X.K φ H u x->RV X.K φ H v y->(g u v A).post (PB X.K φ H Q) gj->r x [y] H Q)(C:SE X xr a ma)(he:SE X xr b mb)
  (s:starEach [b] X.env=(false,eval b X.env)::starEach [] X.env)(d:attributeBase a nm X.env (eval a X.env)=eval a X.env)
  (f:((backTo c (starEach [b] X.env)).all (λx=>!x.1)&&(backToKw c (keywordEach [] X.env)).all (λx=>x.1.isSome)
   && decide ([b].length+([]:b1).length+(if ([]:b1).isEmpty then 0 else 1)<30))=true)(e:(apos.endLine==c.line)=true):
  SE X xr (.Call (.Attribute a nm apos) [b] [] c) (ko g ma mb):=
 PE.imp (Pl PySem.F.plainAttrs_list slot m hm C (jv he j0 s) d f e s (by rfl)) λσ H Q ⟨φ,A,ρ,S,re,h⟩=>by
  refine tM.go S re (zZ.mp h) λw A1 p H1 v i l o q=>?_
  by_cases n:Ju w A1=true
  ·rw[ah n]at i
   refine⟨HD o q n,?_⟩;refine tM.go o (re.mono l) (qp (zZ.mp i) (λ_ _ z=>z) λ_ _ z=>z.mono l) λt A2 j J v2 E L I B=>?_;exact D j A2 J v v2 w t Q I (q.mono L) B (qp (Q2 (hn _ _ _) E) (λ_ _ z=>z.mono (l.trans L)) λ_ _ z=>z)
  ·rw[aq n]at i;exact i.elim
def Ly:∀x y A,qO (wY x y A):=λx y A=>by
 unfold wY
 split
 ·split
  ·exact Zc jE qU
  ·exact qU
 ·exact qU
def gG:W->W->Hx->R W:=λx y A=>match x,y with
 |.ref n,.int i=>match A[n]? with
  |some (.lst ws)=>match (if q9 i then seqIndex? i ws.length else none) with
   |some k=>match ws[k]? with
    |some w=>.ok w (A.set n (.lst (ws.eraseIdx k)))|none=>.bad
   |none=>.bad
  |_=>.bad
 |_,_=>.bad
def HQ:∀x y A,qO (gG x y A):=λx y A=>by
 unfold gG
 split
 ·split
  ·split
   ·split
    ·exact jE
    ·exact qU
   ·exact qU
  ·exact qU
 ·exact qU
def kO:W->W->W->Hx->R Unit:=λo i v A=>match o,i with
 |.ref n,.int k=>match A[n]? with
  |some (.lst ws)=>match wb ws.length k with
   |some j=>.ok () (A.set n (.lst (ws.set j v)))|none=>.bad
  |_=>.bad
 |_,_=>.bad
def RZ:∀o i v A,qO (kO o i v A):=λo i v A=>by
 unfold kO
 split
 ·split
  ·split
   ·exact jE
   ·exact qU
  ·exact qU
 ·exact qU
def RB:Pm K Pr kO:=λφ A H o i v a w wv Q S f d q p=>by
 unfold kO at p;cases a with
 |ref n=>cases w with
  |int k=>
   obtain rfl:=d;dsimp only at p;cases e:A[n]? with
   |none=>rw[e]at p;exact p.elim|some g=>cases g with
    |lst ws=>
     rw[e]at p;dsimp only at p;cases E:wb ws.length k with
     |none=>rw[E]at p;exact p.elim|some j=>
      rw[E]at p;obtain⟨l,vs,rfl,f1,g1,r⟩:=S.lst f e;have ln:Le K φ H φ (upd H l (.lst (vs.set j v))):=Le.upd f1 (λxs z=>by rw[g1]at z;cases z) (λ_ _ z=>by rw[g1]at z;cases z)
      obtain⟨c,b⟩:=S.write (o:=.lst ws) (o':=.lst (ws.set j wv)) e rfl rfl f1 ⟨_,jY,(r.mono ln).set (q.mono ln) j⟩;exact⟨l,vs,k,j,rfl,rfl,g1,by rw[<- r.length];exact E,p _ _ c b⟩
    |_=>rw[e]at p;exact p.elim
  |_=>exact p.elim
 |_=>cases w<;>exact p.elim
variable {es:bV}{m:Ev}
def Br {id:String}{g:W->Hx->R W}(i:jU X (.builtin id) r)(hn:∀w A,qO (g w A))(f:Wo X.K (λv=>r [v]) g)(hm:X.mg x=none)(d:bootBuiltins x=some (.builtin id))(j:SE X xr e m)(b:Gl X x:=by rfl)
  (a:x ≠ "__name__":=by decide)(c:(x==("__debug__":Str))=false:=by decide)(he:starEach [e] X.env=(false,eval e X.env)::starEach [] X.env:=by rfl)(l:(backTo pos (starEach [] X.env)).any (·.1)=false:=by rfl):
  SE X xr (.Call (.Name x p) [e] [] pos) (jq g m):=PE.imp (JS i b hm d (jv j j0 he) a c he l) λσ H Q h=>jq.read (r:=λv=>r [v]) hn f σ H Q h
def Cz {id:String}{g:W->Hx->R W}(i:jU X (.type id) r)(hn:∀w A,qO (g w A))(f:Wo X.K (λv=>r [v]) g)(hm:X.mg x=none)(d:bootBuiltins x=some (.type id))(j:SE X xr e m)(b:Gl X x:=by rfl)
  (a:x ≠ "__name__":=by decide)(c:(x==("__debug__":Str))=false:=by decide)(he:starEach [e] X.env=(false,eval e X.env)::starEach [] X.env:=by rfl)(l:(backTo pos (starEach [] X.env)).any (·.1)=false:=by rfl):
  SE X xr (.Call (.Name x p) [e] [] pos) (jq g m):=PE.imp (Qe i b hm d (jv j j0 he) a c he l) λσ H Q h=>jq.read (r:=λv=>r [v]) hn f σ H Q h
def Xz {id:String}{g:W->W->Hx->R W}(o:jU X (.builtin id) r)(hn:∀w j A,qO (g w j A))(n:jX X.K (λv c=>r [v,c]) g)(hm:X.mg x=none)(m:bootBuiltins x=some (.builtin id))(s:SE X xr a ma)(q:SE X xr b mb)(e:Gl X x)
  (d:x ≠ "__name__")(f:(x==("__debug__":Str))=false)(i:starEach [a,b] X.env=(false,eval a X.env)::starEach [b] X.env)(t:starEach [b] X.env=(false,eval b X.env)::starEach [] X.env)(l:(backTo pos (starEach [b] X.env)).any (·.1)=false):
  SE X xr (.Call (.Name x p) [a,b] [] pos) (zi g ma mb):=PE.imp (JS o e hm m (jv s (jv q j0 t) i) d f i l) λσ H Q h=>zi.read (r:=λv c=>r [v,c]) hn n σ H Q h
noncomputable def Ym:W->Hx->R W
 |.int i,A=>.ok (.int (if i<0 then -i else i)) A|_,_=>.bad
noncomputable def QG:W->Hx->R W
 |.int i,A=>.ok (.int i) A|.bl k,A=>.ok (.int (if k then 1 else 0)) A|_,_=>.bad
def Xp:=gn λi j=>.int (if j > i then j else i)
def KL:=gn λi j=>.int (if j<i then j else i)
noncomputable def kH:W->Bool
 |.tup _=>false|.ref _=>false|.clo _ _ _=>false|.xc _=>false|_=>true
noncomputable def XY:W->W->Bool
 |.non,.non=>true|.bl a,.bl b=>a==b|.bl a,.int b=>(if a then 1 else 0)==b|.int a,.bl b=>a==(if b then 1 else 0)|.int a,.int b=>a==b|.str a,.str b=>a==b|_,_=>false
def gU (x:W)(xs:List W):Bool:=xs.any λy=>XY y x
def Ts {w:W}(q:RV K φ H w v)(e:kH w=true):gI v=true:=by
 cases w<;>first
  |(cases e;done)
  |(obtain rfl:=q;rfl)
def Ie {w a:W}{b:V}(q:RV K φ H w v)(Q:RV K φ H a b)(e:kH w=true)(E:kH a=true):Zq v b=XY w a:=by
 cases w<;>cases a<;>first
  |(cases e;done)
  |(cases E;done)
  |(obtain rfl:=q;obtain rfl:=Q;rfl)
theorem Sa {x:W}(q:RV K φ H x v)(e:kH x=true):∀{xs:List W}{vs:List V},zF K φ H xs vs->xs.all kH=true->vs.all gI=true/\Wg v vs=gU x xs
 |[],_,r,_=>by cases r;exact⟨rfl,rfl⟩|w::ws,_,⟨y,r,E,h,t⟩,a=>by
  subst E;rw[all_cons,ak]at a;obtain⟨I,i⟩:=Sa q e t a.2;refine⟨by rw[all_cons,Ts h a.1,I];rfl,?_⟩
  unfold Wg gU at i ⊢;rw[any_cons,any_cons,i,Ie h q a.1 e]
def gO (neg:Bool):W->W->Hx->R W:=λx y A=>match z0 y A with
 |some ws=>if kH x&&ws.all kH then .ok (.bl (if neg then !gU x ws else gU x ws)) A else .bad|none=>.bad
abbrev Jv:=gO false
abbrev Xh:=gO true
def RD {n:Bool}:∀x y A,qO (gO n x y A):=λx y A=>by
 unfold gO
 split
 ·exact Zc jE qU
 ·exact qU
def RY {n:Bool}:jX K (X2 K n) (gO n):=λφ A H x y u v Q S q b p=>by
 unfold gO at p;cases es:z0 v A with
 |none=>rw[es]at p;exact p.elim|some ws=>
  rw[es]at p;dsimp only at p
  by_cases hf:(kH u&&ws.all kH)=true
  ·rw[ah hf]at p
   rw[ak]at hf;obtain⟨a,Y,rfl,z,r⟩:=YU S b es;obtain⟨I,i⟩:=Sa q hf.1 r hf.2;exact⟨a,Y,rfl,z,Ts q hf.1,I,by rw[i];exact p φ H _ .refl S rfl⟩
  ·rw[aq hf]at p;exact p.elim
structure K2 (X:Cx)(op:CmpOp)(g:W->W->Hx->R W):Prop where
 ex:∃r:R2,qN X (compareOp op) r/\(∀x y A,qO (g x y A))/\jX X.K r g
def XW:K2 X .In Jv:=⟨_,Iy,RD,RY⟩
def F4:K2 X .NotIn Xh:=⟨_,N3,RD,RY⟩
end
noncomputable def jW (f:W->Option PyData):List W->Option (List PyData)
 |[]=>some []|w::ws=>match f w,jW f ws with
  |some d,some ds=>some (d::ds)|_,_=>none
def qd (A:Hx):Nat->W->Option PyData
 |_,.non=>some .none|_,.bl b=>some (.bool b)|_,.int i=>some (.int i)|_,.str x=>if PyData.strOk x then some (.str x) else none|_,.clo _ _ _=>none|_,.xc _=>none|0,.tup _=>none|0,.ref _=>none|n+1,.tup ws=>(jW (qd A n) ws).map .tuple|n+1,.ref k=>match z0 (.ref k) A with
  |some ws=>(jW (qd A n) ws).map .list|none=>none
def FF {K:Frag}{A:Hx}{us:List W}(S:zO K φ A H)(q:RV K φ H (.ref n) v)(e:z0 (.ref n) A=some us):∃a y,v=.ref a/\qM K H a y/\zF K φ H us y:=by
 obtain⟨a,rfl,d⟩:=q;unfold z0 at e;dsimp only at e;cases E:A[n]? with
 |none=>rw[E]at e;cases e|some o=>
  rw[E]at e;obtain⟨f,c,r⟩:=S.ob n o E;rw[d]at c;cases c;cases o with
  |lst xs=>cases e;obtain⟨y,b,h⟩:=r;exact⟨a,y,rfl,qM.of b,h⟩|ro xs=>cases e;obtain⟨y,b,h⟩:=r;exact⟨a,y,rfl,b.sq,h⟩|dct xs=>cases e|tab _ _=>cases e
section
variable {a:Expr}
theorem Gn {K:Frag}{f:W->Option PyData}(hf:∀w v u d,RV K φ H w v->RelV v u->f w=some d->∃as,Reads h u d as):
  ∀{ws:List W}{vs:List V}{us:bP}{ds:List PyData},zF K φ H ws vs->Vals vs us->jW f ws=some ds->∃as,ReadsAll h us ds as
 |[],_,_,_,r,a,e=>by cases r;cases a;cases e;exact⟨[],.nil⟩|w::ws,_,_,ds,⟨v,r,l,q,t⟩,a,e=>by
  subst l;cases a with
  |cons g c=>
   unfold jW at e;cases E:f w with
   |none=>rw[E]at e;cases e|some d=>
    cases b:jW f ws with
    |none=>rw[E,b]at e;cases e|some D=>
     rw[E,b]at e;cases e;obtain⟨as,j⟩:=hf w v _ d q g E;obtain⟨bs,i⟩:=Gn hf t c b;exact⟨_,.cons j i⟩
def Q3 {A:Hx}(I:Inv X pins σ H s)(S:zO X.K φ A H):∀(n:Nat)(w:W)(v:V)(u:Value)(d:PyData),RV X.K φ H w v->RelV v u->qd A n w=some d->∃as,Reads s.heap u d as:=by
 intro n
 induction n with
 |zero=>
  intro w v u d q r e;cases w with
  |non=>obtain rfl:=q;cases r;cases e;exact⟨_,.none⟩|bl k=>obtain rfl:=q;cases r;cases e;exact⟨_,.bool k⟩|int k=>obtain rfl:=q;obtain⟨t,rfl⟩:=r;cases e;exact⟨_,.int k t⟩|str k=>
   obtain rfl:=q;obtain⟨t,rfl⟩:=r;unfold qd at e
   split at e
   ·cases e;exact⟨_,.str k t⟩
   ·cases e
  |tup _=>cases e|ref _=>cases e|clo _ _ _=>unfold qd at e;cases e|xc _=>unfold qd at e;cases e
 |succ n p=>
  intro w v u d q r e;cases w with
  |non=>obtain rfl:=q;cases r;cases e;exact⟨_,.none⟩|bl k=>obtain rfl:=q;cases r;cases e;exact⟨_,.bool k⟩|clo _ _ _=>unfold qd at e;cases e|xc _=>unfold qd at e;cases e|int k=>obtain rfl:=q;obtain⟨t,rfl⟩:=r;cases e;exact⟨_,.int k t⟩|str k=>
   obtain rfl:=q;obtain⟨t,rfl⟩:=r;unfold qd at e
   split at e
   ·cases e;exact⟨_,.str k t⟩
   ·cases e
  |tup ws=>
   obtain⟨a,vs,rfl,h,c⟩:=q;cases r;unfold qd at e;cases E:jW (qd A n) ws with
   |none=>rw[E]at e;cases e|some ds=>
    rw[E]at e;cases e;obtain⟨i,b,⟨o,l,j,k,g⟩,_⟩:=I.tuple h;obtain⟨as,f⟩:=Gn p c b E;exact⟨_,.tuple l j g (by simpa using f)⟩
  |ref k=>
   unfold qd at e;cases E:z0 (.ref k) A with
   |none=>rw[E]at e;cases e|some ws=>
    rw[E]at e;dsimp only at e;obtain⟨a,y,rfl,h,c⟩:=FF S q E;cases r;cases m:jW (qd A n) ws with
    |none=>rw[m]at e;cases e|some ds=>
     rw[m]at e;cases e;obtain⟨i,b,⟨o,x,l,j,_,g⟩,_⟩:=I.list h;obtain⟨as,f⟩:=Gn p c b m;exact⟨_,.list l j g (by simpa using f)⟩
def YX {A:Hx}:∀(n:Nat)(w:W)(d:PyData),qd A n w=some d->d.canLay0=true/\d.depth<=n:=by
 intro n;have lst:∀{n:Nat},(∀(w:W)(d:PyData),qd A n w=some d->d.canLay0=true/\d.depth<=n)->∀(ws:List W)(ds:List PyData),jW (qd A n) ws=some ds->PyData.canLayAll0 ds=true/\PyData.depthAll ds<=n:=by
  intro n i ws
  induction ws with
  |nil=>intro ds e;cases e;exact⟨by simp[PyData.canLayAll0],by simp[PyData.depthAll]⟩|cons w ws I=>
   intro ds e;unfold jW at e;cases E:qd A n w with
   |none=>rw[E]at e;cases e|some d=>
    cases b:jW (qd A n) ws with
    |none=>rw[E,b]at e;cases e|some D=>
     rw[E,b]at e;cases e;obtain⟨h,c⟩:=i w d E;obtain⟨f,g⟩:=I D b;refine⟨by simp[PyData.canLayAll0,h,f],?_⟩
     simp only[PyData.depthAll];omega
 induction n with
 |zero=>
  intro w d e;cases w with
  |tup _=>cases e|ref _=>cases e|clo _ _ _=>unfold qd at e;cases e|xc _=>unfold qd at e;cases e|str x=>
   unfold qd at e
   split at e
   ·rename_i H;cases e;exact⟨by simp[PyData.canLay0,H],by simp[PyData.depth]⟩
   ·cases e
  |_=>cases e;exact⟨by simp[PyData.canLay0],by simp[PyData.depth]⟩
 |succ n i=>
  intro w d e;cases w with
  |clo _ _ _=>unfold qd at e;cases e|xc _=>unfold qd at e;cases e|tup ws=>
   unfold qd at e;cases a:jW (qd A n) ws with
   |none=>rw[a]at e;cases e|some ds=>
    rw[a]at e;cases e;obtain⟨h,c⟩:=lst i ws ds a;refine⟨by simp[PyData.canLay0,h],?_⟩
    simp only[PyData.depth];omega
  |ref k=>
   unfold qd at e;cases a:z0 (.ref k) A with
   |none=>rw[a]at e;cases e|some ws=>
    rw[a]at e;dsimp only at e;cases E:jW (qd A n) ws with
    |none=>rw[E]at e;cases e|some ds=>
     rw[E]at e;cases e;obtain⟨h,c⟩:=lst i ws ds E;refine⟨by simp[PyData.canLay0,h],?_⟩
     simp only[PyData.depth];omega
  |str x=>
   unfold qd at e
   split at e
   ·rename_i H;cases e;exact⟨by simp[PyData.canLay0,H],by simp[PyData.depth]⟩
   ·cases e
  |_=>cases e;exact⟨by simp[PyData.canLay0],by simp[PyData.depth]⟩
def yV (neg:Bool):W->W->Hx->R W:=λx y A=>match qd A 8 x,qd A 8 y with
 |some d,some d'=>.ok (.bl (if neg then !PyData.eqv d d' else PyData.eqv d d')) A|_,_=>.bad
abbrev jg:=yV false
abbrev qj:=yV true
def RP {n:Bool}:∀x y A,qO (yV n x y A):=λx y A=>by
 unfold yV
 split
 ·exact jE
 ·exact qU
def XS (K:Frag)(neg:Bool):R2:=λx y H Q=>∃φ A u v d d',zO K φ A H/\RV K φ H u x/\RV K φ H v y/\qd A 8 u=some d/\qd A 8 v=some d'/\Q (.bl (if neg then !PyData.eqv d d' else PyData.eqv d d')) H
def Ke {A:Hx}{w:W}{d:PyData}(h:qd A 8 w=some d):SeqAt.shaped d=true:=by
 obtain⟨H,a⟩:=YX 8 w d h;unfold SeqAt.shaped;rw[H,Bool.true_and,ag];omega
def Ci (g:X.A.units+64<cLine):qN X (compareOp .Eq) (XS X.K false):=by
 intro pins s σ H x y v u Q I b r h;obtain⟨φ,A,a,w,d,d',S,f,c,E,e,q⟩:=h;obtain⟨as,j⟩:=Q3 I S 8 a x v d f b E;obtain⟨bs,i⟩:=Q3 I S 8 w y u d' c r e;exact eq_dataH j i (Ke E) (Ke e) g ⟨.bl _,H,I,rfl,q⟩
def DH (g:X.A.units+64<cLine):qN X (compareOp .NotEq) (XS X.K true):=by
 intro pins s σ H x y v u Q I b r h;obtain⟨φ,A,a,w,d,d',S,f,c,E,e,q⟩:=h;obtain⟨as,j⟩:=Q3 I S 8 a x v d f b E;obtain⟨bs,i⟩:=Q3 I S 8 w y u d' c r e;exact ne_dataH j i (Ke E) (Ke e) g ⟨.bl _,H,I,rfl,q⟩
def RC {K:Frag}{n:Bool}:jX K (XS K n) (yV n):=λφ A H x y u v Q S a q p=>by
 unfold yV at p;cases e:qd A 8 u with
 |none=>rw[e]at p;exact p.elim|some d=>
  cases E:qd A 8 v with
  |none=>rw[e,E]at p;exact p.elim|some d'=>
   rw[e,E]at p;exact⟨φ,A,u,v,d,d',S,a,q,e,E,p φ H _ .refl S rfl⟩
def yS {k:Nat}(h:jK k X.A):kj X .Eq jg:=ZS (Ci h.units) RP RC
def ki {k:Nat}(h:jK k X.A):kj X .NotEq qj:=ZS (DH h.units) RP RC
end
mutual
noncomputable def W.nr:W->Bool
 |.tup ws=>qP ws|.ref _=>false|.clo _ ws _=>qP ws|_=>true
noncomputable def qP:List W->Bool
 |[]=>true|w::ws=>w.nr&&qP ws
end
def iso (f:Fn):Fn:=λus A=>if qP us then(match f us [] with
 |.ok w A1=>(match w with
  |.ref n=>(match A1[n]? with
   |some (.lst ws)=>if qP ws then .ok (.ref A.length) (A++[.lst ws]) else .bad|some (.dct kvs)=>if qP (kvs.map (·.2)) then .ok (.ref A.length) (A++[.dct kvs]) else .bad|_=>.bad)
  |w=>if w.nr then .ok w A else .bad)
 |_=>.bad) else .bad
def wI (f:Fn):Fn:=λus A=>match us with
 |.ref n::us=>(match A[n]? with
  |some (.lst ws)=>if qP ws&&qP us then(match f (.ref 0::us) [.lst ws] with
   |.ok w A1=>(match (List.head? A1:Option O) with
    |some (.lst a)=>if qP a&&w.nr then .ok w (A.set n (.lst a)) else .bad|_=>.bad)
   |_=>.bad) else .bad
  |_=>.bad)
 |_=>.bad
section
variable {K:Frag}{φ' φ1:bQ}{H' H1:Hp}{A A1:Hx}
mutual
theorem RV.nrm (tp:∀a vs,qE K H a vs->qE K H' a vs)(fz:∀a o u,H a=some (.frz o u)->H' a=some (.frz o u)):∀{w:W}{v:V},w.nr=true->RV K φ H w v->RV K φ' H' w v
 |.non,_,_,h=>h|.bl _,_,_,h=>h|.int _,_,_,h=>h|.str _,_,_,h=>h|.tup ws,_,n,⟨a,vs,e,t,r⟩=>⟨a,vs,e,tp _ _ t,zF.nrm tp fz n r⟩|.ref _,_,n,_=>nomatch n
 |.clo _ ws P,_,n,⟨a,ob,u,c,g,U,vs,e,d,b,i,r⟩=>⟨a,ob,u,c,g,U,vs,e,fz _ _ _ d,fz _ _ _ b,i,zF.nrm tp fz n r⟩|.xc _,_,_,⟨a,f,u,C,e,d,b⟩=>⟨a,f,u,C,e,fz _ _ _ d,b⟩
theorem zF.nrm (tp:∀a vs,qE K H a vs->qE K H' a vs)(fz:∀a o u,H a=some (.frz o u)->H' a=some (.frz o u)):∀{ws:List W}{vs:List V},qP ws=true->zF K φ H ws vs->zF K φ' H' ws vs
 |[],_,_,h=>h|w::ws,_,n,⟨v,r,e,h,t⟩=>by
  have N:(w.nr&&qP ws)=true:=n;rw[ak]at N;exact⟨v,r,e,RV.nrm tp fz N.1 h,zF.nrm tp fz N.2 t⟩
end
def zO.none:zO K [] [] H:=⟨rfl,λi j a o o' _ _ h=>by simp at h,λn o h=>by simp at h⟩
def zO.frame (S:zO K φ A H)(k:∀a o,H a=some o->H1 a=some o)(l:Le K φ H φ H1):zO K φ A H1:=
 ⟨S.len,S.inj,λn o e=>let ⟨a,h1,q⟩:=S.ob n o e;⟨a,h1,q.keep l λu h=>k a u h⟩⟩
def Le.apart (l:Le K [] H φ1 H1):Le K φ H φ H1/\∀a o,H a=some o->H1 a=some o:=
 have k:∀a o,H a=some o->H1 a=some o:=λa o h=>l.fr a o h λn e=>by simp at e
 ⟨⟨λ_ _ h=>h,l.tp,λa o h _=>k a o h,λ_ _ h=>.inl h,l.st,l.fz⟩,k⟩
def zO.trackN {u:HO}{o:O}(S:zO K φ A H)(w:H D=some u)(n:∀(k:Nat)(q:O),φ[k]? =some D->A[k]? =some q->q.mut=false)(new:OR K (φ++[D]) H D o):zO K (φ++[D]) (A++[o]) H:=by
 have l:Zo K φ H (φ++[D]) H:=⟨λn a h=>by
  have:=(b8.mp h).1
  rw[ai this];exact h,λ_ _ h=>h,λ_ _ _ h=>h⟩
 have old:∀(i:Nat) a,(φ++[D])[i]? =some a->i<A.length->φ[i]? =some a:=λi a e hi=>by
  rw[ai (by rw[S.len];exact hi)]at e;exact e
 have last:∀a,(φ++[D])[A.length]? =some a->a=D:=λa e=>by
  rw[az (by rw[S.len];exact aj _),S.len]at e
  simpa using e.symm
 refine⟨by simp[S.len],λi j a v t s p d b m1 m2=>?_,λk o' e=>?_⟩
 ·by_cases hi:i<A.length
  ·rw[ai hi]at d
   by_cases c:j<A.length
   ·rw[ai c]at b
    exact S.inj i j a v t (old i a s hi) (old j a p c) d b m1 m2
   ·exfalso
    have g:j=A.length:=by have:=(b8.mp b).1;simp at this;omega
    subst g;have z:=n i v (by rw[<- last a p];exact old i a s hi) d
    rw[m1]at z;cases z
  ·have m:i=A.length:=by have:=(b8.mp d).1;simp at this;omega
   by_cases c:j<A.length
   ·exfalso
    rw[ai c]at b;subst m;have z:=n j t (by rw[<- last a s];exact old j a p c) b
    rw[m2]at z;cases z
   ·have:=(b8.mp b).1;simp at this;omega
 ·by_cases hn:k<A.length
  ·rw[ai hn]at e
   obtain⟨a,E,q⟩:=S.ob k o' e;refine⟨a,l.ex _ _ E,?_⟩;cases o' with
   |lst ws=>obtain⟨vs,z,r⟩:=q;exact⟨vs,z,r.monoW l⟩|dct ws=>obtain⟨vs,z,Z,r⟩:=q;exact⟨vs,z,Z,r.monoW l⟩|tab _ _=>exact q|ro ws=>obtain⟨vs,z,r⟩:=q;exact⟨vs,z,r.monoW l⟩
  ·have f:k=A.length:=by have:=(b8.mp e).1;simp at this;omega
   subst f;rw[az (aj _)]at e;simp at e;subst e;exact⟨D,by rw[az (by rw[S.len];exact aj _),S.len];simp,new⟩
def zO.adopt {o:O}(S:zO K φ A H)(l:Le K [] H φ1 H1)(d:φ1[n]? =some a)(m:∃u,H1 a=some u)(new:OR K (φ++[a]) H1 a o):
  Le K φ H (φ++[a]) H1/\zO K (φ++[a]) (A++[o]) H1/\RV K (φ++[a]) H1 (.ref A.length) (.ref a):=by
 obtain⟨la,k⟩:=l.apart (φ:=φ);have h0:H a=Option.none:=by
  rcases l.nw n a d with e|e
  ·simp at e
  ·exact e
 obtain⟨u,b⟩:=m;have s:=S.frame k la;refine⟨la.track h0,s.trackN b (λk q g f=>?_) new,a,rfl,by rw[<- S.len];simp⟩
 cases c:q.mut with
 |false=>rfl|true=>
  obtain⟨i,E,r⟩:=S.ob k q f;rw[g]at E;cases E;obtain⟨z,h,_⟩:=r.there c;rw[h0]at h;cases h
def OR.nrL {ws:List W}(h:OR K φ H a (.lst ws))(n:qP ws=true):OR K φ' H a (.lst ws):=let ⟨vs,e,r⟩:=h;⟨vs,e,r.nrm (λ_ _ t=>t) (λ_ _ _ t=>t) n⟩
def OR.nrD {kvs:List (Key×W)}(h:OR K φ H a (.dct kvs))(n:qP (kvs.map (·.2))=true):OR K φ' H a (.dct kvs):=let ⟨vs,e,E,r⟩:=h;⟨vs,e,E,r.nrm (λ_ _ t=>t) (λ_ _ _ t=>t) n⟩
theorem zL.iso {k:Nat}{f:Fn}(F:zL P w K mg base k x n f):zL P w K mg base k x n (iso f):=by
 obtain⟨I,fd,C,F,a,b,c⟩:=F;refine⟨I,fd,C,F.imp λvs H Q E ⟨D,φ,A,ws,S,r,q⟩=>?_,a,b,c⟩;unfold Mi.iso at q
 by_cases hn:qP ws=true
 ·rw[ah hn]at q
  refine⟨D,[],[],ws,zO.none,r.nrm (λ_ _ t=>t) (λ_ _ _ t=>t) hn,?_⟩;cases hf:f ws [] with
  |ok w A1=>
   rw[hf]at q;dsimp only at q;intro z H1 v l J g;cases w with
   |ref m=>
    dsimp only at q;cases hm:A1[m]? with
    |none=>rw[hm]at q;exact q.elim|some o=>
     rw[hm]at q;obtain⟨L,j,d⟩:=J.ob m o hm;obtain⟨a2,rfl,e⟩:=g;rw[j]at e;cases e;cases o with
     |lst us=>
      dsimp only at q
      by_cases h:qP us=true
      ·rw[ah h]at q
       obtain⟨t,i,_⟩:=d.there rfl;obtain⟨s,p,B⟩:=S.adopt l j ⟨t,i⟩ (o:=.lst us) (d.nrL h);exact q _ _ _ s p B
      ·rw[aq h]at q;exact q.elim
     |dct us=>
      dsimp only at q
      by_cases h:qP (us.map (·.2))=true
      ·rw[ah h]at q
       obtain⟨t,i,_⟩:=d.there rfl;obtain⟨s,p,B⟩:=S.adopt l j ⟨t,i⟩ (o:=.dct us) (d.nrD h);exact q _ _ _ s p B
      ·rw[aq h]at q;exact q.elim
     |ro us=>exact q.elim|tab _ _=>exact q.elim
   |_=>
    all_goals
     dsimp only at q;obtain⟨la,u⟩:=l.apart (φ:=φ)
     first
      |exact q φ H1 v la (S.frame u la) g
      |(
        split at q
        ·rename_i hw
         exact q φ H1 v la (S.frame u la) (RV.nrm (λ_ _ t=>t) (λ_ _ _ t=>t) hw g)
        ·exact q.elim)
  |exc y A1=>rw[hf]at q;exact q.elim|bad=>rw[hf]at q;exact q.elim
 ·rw[aq hn]at q;exact q.elim
theorem zL.wI {k:Nat}{f:Fn}(F:zL P w K mg base k x n f):zL P w K mg base k x n (wI f):=by
 obtain⟨fa,fd,ps,F,a,b,c⟩:=F;refine⟨fa,fd,ps,F.imp λvs H Q E ⟨hl,φ,A,ws,S,r,q⟩=>?_,a,b,c⟩;unfold Mi.wI at q;cases ws with
 |nil=>exact q.elim|cons Z us=>cases Z with
  |ref n=>
   dsimp only at q;cases g:A[n]? with
   |none=>rw[g]at q;exact q.elim|some o=>cases o with
    |lst xs=>
     rw[g]at q;dsimp only at q
     by_cases hn:(qP xs&&qP us)=true
     ·rw[ah hn]at q
      rw[ak]at hn;obtain⟨v0,vr,rfl,q0,qr⟩:=r;obtain⟨p,Y,rfl,f1,g1,d⟩:=S.lst q0 g;have S0:zO K [p] [.lst xs] H:=by
       refine⟨rfl,λi j a o o' D C T N _ _=>?_,λm o e=>?_⟩
       ·have:=(b8.mp D).1
        have:=(b8.mp C).1
        simp at*;omega
       ·have:m=0:=by have:=(b8.mp e).1;simp at this;omega
        subst this;simp at e;subst e;exact⟨p,rfl,Y,g1,d.nrm (λ_ _ t=>t) (λ_ _ _ t=>t) hn.1⟩
      refine⟨hl,[p],[.lst xs],.ref 0::us,S0,.cons ⟨p,rfl,rfl⟩ (qr.nrm (λ_ _ t=>t) (λ_ _ _ t=>t) hn.2),?_⟩;cases hf:f (.ref 0::us) [.lst xs] with
      |ok w A1=>
       rw[hf]at q;dsimp only at q;intro s H1 v L S1 q1;cases h0:List.head? A1 with
       |none=>rw[h0]at q;exact q.elim|some o=>cases o with
        |lst zs=>
         rw[h0]at q;dsimp only at q
         by_cases hw:(qP zs&&w.nr)=true
         ·rw[ah hw]at q
          rw[ak]at hw;have apart:∀a o,a≠p->H a=some o->H1 a=some o:=λa o ne h=>L.fr a o h λm e=>by
           have:m=0:=by have:=(b8.mp e).1;simp at this;omega
           subst this;simp at e;exact ne e.symm
          have lf:Le K φ H φ H1:=⟨λ_ _ h=>h,L.tp,λa o h nn=>apart a o (λe=>nn n (by rw[e];exact f1)) h,λ_ _ h=>.inl h,L.st,L.fz⟩
          have hp:s[0]? =some p:=L.ex 0 p rfl;obtain⟨p',l,u,I,B⟩:=S1.ob 0 _ (by rw[<- List.head?_eq_getElem?];exact h0)
          rw[hp]at l;cases l;refine q φ H1 v lf ?_ (RV.nrm (λ_ _ t=>t) (λ_ _ _ t=>t) hw.2 q1);have mt:∀(i:Nat)(w:O),(A.set n (.lst zs))[i]? =some w->w.mut=true->∃J,A[i]? =some J/\J.mut=true:=λi w e mw=>by
           by_cases hi:i=n
           ·subst hi;exact⟨_,g,rfl⟩
           ·rw[aN (Ne.symm hi)]at e;exact⟨w,e,mw⟩
          refine⟨by simp[S.len],λi j a o1 o2 D C T N m1 m2=>?_,λi w e=>?_⟩
          ·obtain⟨X,l,k1⟩:=mt i o1 T m1
           obtain⟨U,I,k2⟩:=mt j o2 N m2;exact S.inj i j a X U D C l I k1 k2
          ·by_cases hi:i=n
           ·subst hi
            have:i<A.length:=(b8.mp g).1
            rw[aM this]at e;cases e;exact⟨p,f1,u,I,B.nrm (λ_ _ t=>t) (λ_ _ _ t=>t) hw.1⟩
           ·rw[aN (Ne.symm hi)]at e
            obtain⟨a,l,M⟩:=S.ob i w e;refine⟨a,l,?_⟩
            by_cases hm:w.mut=true
            ·have ne:a≠p:=λz=>hi (S.inj i n a w _ l (by rw[z];exact f1) e g hm rfl)
             exact M.keep lf λz hz=>apart a z ne hz
            ·cases w with
             |lst _=>exact absurd rfl hm|dct _=>exact absurd rfl hm|tab _ _=>exact absurd rfl hm|ro ws=>
              obtain⟨vs,d,B⟩:=M;refine⟨vs,?_,B.mono lf⟩;rcases d with ⟨ob,d⟩|d
              ·refine .inl ⟨ob,apart a _ ?_ d⟩
               intro z;subst z;rw[g1]at d;cases d
              ·exact .inr d
         ·rw[aq hw]at q;exact q.elim
        |_=>rw[h0]at q;exact q.elim
      |exc y A1=>rw[hf]at q;exact q.elim|bad=>rw[hf]at q;exact q.elim
     ·rw[aq hn]at q;exact q.elim
    |_=>rw[g]at q;exact q.elim
  |_=>exact q.elim
end
section
variable {K:Frag}{a b:Expr}{m:Ev}{st:Stmt}
noncomputable def ZZ:Ex:=λ_ _=>.bad
noncomputable def intsOf:List W->Option (bO)
 |[]=>some []|w::ws=>match w with
  |.int i=>match intsOf ws with
   |some is=>some (i::is)|none=>none
  |_=>none
theorem Gq:∀{ws:List W}{ns:bO},intsOf ws=some ns->ws=ns.map W.int
 |[],_,e=>by cases e;rfl|w::ws,ns,e=>by
  unfold intsOf at e;cases w with
  |int i=>
   dsimp only at e;cases E:intsOf ws with
   |none=>rw[E]at e;cases e|some is=>rw[E]at e;cases e;rw[Gq E];rfl
  |_=>cases e
noncomputable def jV:List Int->Int->Int
 |[],m=>m|i::is,m=>jV is (if i > m then i else m)
noncomputable def yw:List Int->Int->Int
 |[],m=>m|i::is,m=>yw is (m+i)
def preSum_eq (ns:bO):∀k,preSum (λi=>ns.getD i 0) k+yw (ns.drop k) 0=yw ns 0∨ns.length<k:=by
 have add:∀(l:bO)(m:Int),yw l m=m+yw l 0:=λl=>by
  induction l with
  |nil=>intro m;show m=m+0;omega|cons i is I=>intro m;show yw is (m+i)=m+yw is (0+i);rw[I (m+i),I (0+i)];omega
 intro k
 induction k with
 |zero=>left;show(0:Int)+yw ns 0=_;omega|succ k I=>
  rcases I with I|I
  ·by_cases h:k<ns.length
   ·left
    have e:ns.drop k=ns[k]::ns.drop (k+1):=bp h;rw[e]at I;have a:yw (ns[k]::ns.drop (k+1)) 0=ns[k]+yw (ns.drop (k+1)) 0:=by show yw (ns.drop (k+1)) (0+ns[k])=_;rw[add];omega
    rw[a]at I;show preSum _ k+ns.getD k 0+_=_;have E:ns.getD k 0=ns[k]:=by rw[ab,aa h];rfl
    rw[E];omega
   ·right;omega
  ·right;omega
def M1 (ns:bO):preSum (λi=>ns.getD i 0) ns.length=yw ns 0:=by
 rcases preSum_eq ns ns.length with h|h
 ·rw[drop_length]at h
  have:yw [] 0=0:=rfl
  omega
 ·omega
def IE (ns:bO):∀(k:Nat)(a:k<ns.length),jV (ns.drop (k+1)) (ns.getD (argBest (λi j=>decide (ns.getD i 0 > ns.getD j 0)) k) 0)=jV ns.tail (ns.getD 0 0):=by
 intro k
 induction k with
 |zero=>intro _;rw[show argBest _ 0=0 from rfl,List.drop_one]|succ k I=>
  intro a;have H:k<ns.length:=by omega
  rw[<- I H];have e:ns.drop (k+1)=ns[k+1]::ns.drop (k+1+1):=bp a;rw[e];have E:ns.getD (k+1) 0=ns[k+1]:=by rw[ab,aa a];rfl
  show jV _ (ns.getD (if decide (ns.getD (k+1) 0 > ns.getD (argBest _ k) 0)=true then k+1 else argBest _ k) 0)=jV _ (if ns[k+1] > ns.getD (argBest _ k) 0 then ns[k+1] else ns.getD (argBest _ k) 0);rw[E]
  by_cases h:ns[k+1] > ns.getD (argBest (λi j=>decide (ns.getD i 0 > ns.getD j 0)) k) 0
  ·rw[ah (by rw[ag];exact h),ah h,E]
  ·rw[aq (by rw[ag];exact h),aq h]
noncomputable def Yg (K:Frag)(C:List Int->Prop)(f:List Int->Int):List V->Hp->VK->Prop:=λxs H Q=>∃a ns,xs=[.ref a]/\(qM K H a (ns.map V.int)∨qE K H a (ns.map V.int))/\C ns/\Q (.int (f ns)) H
def Qj (r:Vals (ns.map V.int) its){v:Value}(h:its[i]? =some v):∃t,v=.int (ns.getD i 0) t:=by
 have hi:i<its.length:=(b8.mp h).1;have H:i<ns.length:=by have:=r.length;rw[af]at this;omega
 obtain⟨u,a,b⟩:=r.get (i:=i) (x:=V.int ns[i]) (by simp[H])
 rw[h]at a;cases a;obtain⟨t,rfl⟩:=b;exact⟨t,by rw[ab,aa H];rfl⟩
def Lx (f:X.calm=true):jU X (.builtin "sum") (Yg X.K (λ_=>True) λns=>yw ns 0):=by
 intro pins s σ H xs us Q I r h;obtain⟨a,ns,rfl,z,_,q⟩:=h;obtain⟨u,rfl,d⟩:=vals1 r;cases d;refine call_sum_walkG (YY I f z λb g fp wr S s2 c j W st p back=>?_);refine⟨g,fp,wr,_,_,S,λi=>ns.getD i 0,rfl,W,st,p,λi v h=>Qj c h,λh' tk t' k=>?_⟩;have e:b.length=ns.length:=by have:=c.length;rw[af]at this;omega
 rw[e,M1];exact⟨.int _,H,back h' tk k,⟨_,rfl⟩,q⟩
def ID (n:X.calm=true):jU X (.builtin "max") (Yg X.K (λns=>ns≠[]) λns=>jV ns.tail (ns.getD 0 0)):=by
 intro pins s σ H xs us Q I r h;obtain⟨a,ns,rfl,z,f,q⟩:=h;obtain⟨u,rfl,l⟩:=vals1 r;cases l;have M:0<ns.length:=List.length_pos_iff.mpr f;refine call_max_walk (YY I n z λd C fp wr S s2 c L W st p back=>?_);have e:d.length=ns.length:=by have:=c.length;rw[af]at this;omega
 refine⟨C,fp,wr,_,_,S,λi j=>decide (ns.getD i 0 > ns.getD j 0),rfl,W,st,p,by omega,?_,λv h' tk m k=>?_⟩
 ·intro i j J D g Q' E y x o
  obtain⟨t1,rfl⟩:=Qj c y;obtain⟨T,rfl⟩:=Qj c x;exact(PyProof.Rows.gt_int o:wpAny (model X.prog X.w) X.A.in1 (compareOp .Gt (.int (ns.getD i 0) t1) (.int (ns.getD j 0) T)) Q' E g)
 ·obtain⟨t,rfl⟩:=Qj c m
  rw[e];have b:=IE ns (ns.length-1) (by omega)
  rw[show ns.length-1+1=ns.length by omega,drop_length]at b
  have B:ns.getD (argBest (λi j=>decide (ns.getD i 0 > ns.getD j 0)) (ns.length-1)) 0=jV ns.tail (ns.getD 0 0):=b;rw[B];exact⟨.int _,H,back h' tk k,⟨_,rfl⟩,q⟩
def yf:List W->Hx->R W:=λws A=>match intsOf ws with
 |some (i::is)=>.ok (.int (jV is i)) A|_=>.bad
def kN:List W->Hx->R W:=λws A=>match intsOf ws with
 |some is=>.ok (.int (yw is 0)) A|none=>.bad
def DN:∀ws A,qO (yf ws A):=λws A=>by
 unfold yf;split
 ·exact jE
 ·exact qU
def DI:∀ws A,qO (kN ws A):=λws A=>by
 unfold kN;split
 ·exact jE
 ·exact qU
def Gk {ws:List W}{a:Addr}(z:qM K H a ys∨qE K H a ys)(r:zF K φ H ws ys)(e:intsOf ws=some ns):qM K H a (ns.map V.int)∨qE K H a (ns.map V.int):=by
 rw[Gq e]at r;rw[<- zF.ints.mp r];exact z
def Et:Zv K (Yg K (λns=>ns≠[]) λns=>jV ns.tail (ns.getD 0 0)) yf:=λφ A H a y ws Q S z r p=>by
 unfold yf at p;cases e:intsOf ws with
 |none=>rw[e]at p;exact p.elim|some ns=>cases ns with
  |nil=>rw[e]at p;exact p.elim|cons i is=>rw[e]at p;exact⟨a,i::is,rfl,Gk z r e,(by intro z;cases z),p φ H _ .refl S rfl⟩
def Dq:Zv K (Yg K (λ_=>True) λns=>yw ns 0) kN:=λφ A H a y ws Q S z r p=>by
 unfold kN at p;cases e:intsOf ws with
 |none=>rw[e]at p;exact p.elim|some ns=>rw[e]at p;exact⟨a,ns,rfl,Gk z r e,trivial,p φ H _ .refl S rfl⟩
def AQ (y:W):List W->Nat->Nat
 |[],n=>n|w::ws,n=>AQ y ws (if XY w y then n+1 else n)
noncomputable def cD (lo d:Int)(n:Nat):It:=⟨λi _=>i<n,λi H x h=>h=H/\x=.int (lo+i * d),λi _=>n<=i⟩
def zak (t:TA):TI:=λσ H R=>t σ H λvs H1=>∃i j:Int,vs=[.int i,.int j,.int (-1)]/\(-(2 ^ 62)<=i/\i<2 ^ 62/\-(2 ^ 62)<=j/\j<2 ^ 62)/\R (cD i (-1) (i-j).toNat) H1
noncomputable def AH (hi:Int)(n:Nat):jo:=⟨λ_ i=>if i<n then some (some (.int (hi-i))) else some none,n⟩
def zal (m m':Ev):Ei:=λρ A=>(m ρ A).bind λw A1=>(m' ρ A1).bind λa A2=>match w,a with
 |.int i,.int j=>if q9 i&&q9 j then .ok (AH i (i-j).toNat) A2 else .bad|_,_=>.bad
def BA (t:TA):TE:=λσ H Q=>t σ H λvs H1=>∃j:Int,vs=[.int j]/\∀p,H1 p=none->Q (.ref p) (upd H1 p (.rng 0 j))
def EN {T:TA}(g:Gl X "range")(hm:X.mg "range"=none)(e:PA X [a] T)(d:starEach [a] X.env=[(false,eval a X.env)]):PE X (.Call (.Name "range" p) [a] [] pos) (BA T):=by
 intro pins s σ H Q I h;refine Call_ (gD I g hm boot_range (PyProof.Rows.callWith_type1 (zV (e pos pins s σ H _ I h) λus s1 ⟨vs,H1,i,r,c⟩=>?_) d rfl));obtain⟨j,rfl,q⟩:=c;obtain⟨u,rfl,⟨t,rfl⟩⟩:=r.one;refine call_range_1 ⟨.ref _,_,i.laid (o:=.rng 0 j) (λb o E=>ae _ E) (aj _) ?_,rfl,q _ (i.hok.fresh (aj _))⟩;exact⟨_,_,_,ar _ rfl⟩
noncomputable def QE (n:Nat):List V:=(List.range n).map λ(i:Nat)=>V.int i
def MD (y:X.calm=true):jU X (.type "list") (λxs H Q=>∃(r:Addr) (j:Int),xs=[.ref r]/\H r=some (.rng 0 j)/\(-(2 ^ 62)<=j/\j<2 ^ 62)/\j.toNat<=sizeLine/\∀l,H l=none->Q (.ref l) (upd H l (.lst (QE j.toNat)))):=by
 intro pins s σ H xs us Q I r h;obtain⟨p,j,rfl,w,⟨A,B⟩,z,q⟩:=h;obtain⟨u,rfl,g⟩:=vals1 r;cases g;obtain⟨t1,T,t3,x⟩:=I.hok p _ w;have D:sizeLine=16777216:=sizeLine_eq;refine PySem.call_list_range (n:=j.toNat) (I.ok.hd y) (show IsRange s.heap p 0 j 1 t1 T t3 from x) (small_one (by omega) (by omega) A B) (by rw[rangeSize_one];split<;>omega) (by omega) λh' tk acc C K S ⟨hn,d⟩=>?_
 refine⟨.ref s.heap.objs.size,_,I.laid (t':=tk) (o:=.lst (QE j.toNat)) K (aj _) ?_,rfl,q _ (I.hok.fresh (aj _))⟩;refine⟨by unfold QE;simpa using z,acc.toList,C,?_,by simpa using S⟩
 have a:∀(l:bP)(k:Nat),(∀(i:Nat) v,l[i]? =some v->∃t,v=.int ((k+i:Nat):Int) t)->Vals ((List.range' k l.length).map λ(i:Nat)=>V.int i) l:=by
  intro l
  induction l with
  |nil=>intro k _;exact .nil|cons v l m=>
   intro k e;rw[aS,bK,aQ];refine .cons ?_ (m (k+1) λi f a=>?_)
   ·obtain⟨t,rfl⟩:=e 0 v rfl
    exact⟨t,rfl⟩
   ·obtain⟨t,rfl⟩:=e (i+1) f (by simpa using a)
    exact⟨t,by congr 1;omega⟩
 have b:acc.toList.length=j.toNat:=by simpa using hn
 have:=a acc.toList 0 λi v c=>by
  obtain⟨t,rfl⟩:=d i v (by simpa using c)
  exact⟨t,by congr 1;omega⟩
 rw[b]at this;unfold QE;rw[bE];exact this
def J0 (m:Ev):Ev:=λρ A=>(m ρ A).bind λw A1=>match w with
 |.int j=>if q9 j&&decide (j.toNat<=zT) then .ok (.ref A1.length) (A1++[.lst ((List.range j.toNat).map λ(i:Nat)=>W.int i)]) else .bad|_=>.bad
noncomputable def zan (i:Nat)(m:Ev):Ex:=λρ A=>match ρ[i]? with
 |some (some (.int x))=>(m ρ A).bind λw A1=>match w with
  |.int y=>.ok (.nx (ρ.set i (some (.int (x+y))))) A1|_=>.bad
 |_=>.bad
noncomputable def Ax:V->V->Hp->VK->Prop:=λo i H Q=>∃p xs k v,o=.ref p/\i=.int k/\0<=k/\H p=some (.lst xs)/\xs[k.toNat]? =some v/\Q v H
def IU:PZ X Ax:=by
 intro pins s σ H o i g j Q I ro d h;obtain⟨p,xs,k,v,rfl,rfl,h0,f,e,q⟩:=h;cases ro;obtain⟨t,rfl⟩:=d;obtain⟨a,r,P,z⟩:=I.list (qM.of f);obtain⟨u,b,c⟩:=r.get e;have hn:=Qv;have l:=r.length;have m:k.toNat<a.length:=(b8.mp b).1;exact wpAny_getItem_list P.isList h0 (by omega) (by simpa using b) ⟨v,H,I,c,q⟩
def wG (mo mi me:Ev):Ex:=λρ A=>(mo ρ A).bind λo A1=>(mi ρ A1).bind λi A2=>match o,i with
 |.ref n,.int k=>if 0<=k then(match (A2[n]?:Option O) with
  |some (.lst ws)=>match ws[k.toNat]? with
   |some (.int x)=>(me ρ A2).bind λy b=>match y with
    |.int y=>(kO (.ref n) (.int k) (.int (x+y)) b).bind λ_ a=>.ok (.nx ρ) a|_=>.bad
   |_=>.bad
  |_=>.bad) else .bad
 |_,_=>.bad
noncomputable def Ko (i j k:Nat):Tg:=λw ρ=>match w with
 |.tup [x,.tup [y,z]]=>some (((ρ.set i (some x)).set j (some y)).set k (some z))|_=>none
end
def jt (k:Bool)(h:Heap)(it a:Addr)(i:Nat):Prop:=if k=true then h.IsListIter it a i else h.IsTupleIter it a i
def jP (k:Bool)(h:Heap)(a:Addr)(items:Array Value):Prop:=if k=true then h.IsList a items else h.IsTuple a items
def yJ (k:Bool)(K:Frag)(H:Hp)(a:Addr)(xs:List V):Prop:=if k=true then qM K H a xs else qE K H a xs
noncomputable def QB (k:Bool):String:=if k then "list_iterator" else "tuple_iterator"
def jt.ob {k:Bool}{it:Addr}(x:jt k h it a i):∃o,h.get? it=some o/\o.cls=.type (QB k)/\o.data=.fields #[.ref a,.int i 0]:=by
 cases k<;>exact x
def jt.mk {k:Bool}{it:Addr}(x:∃o,h.get? it=some o/\o.cls=.type (QB k)/\o.data=.fields #[.ref a,.int i 0]):jt k h it a i:=by
 cases k<;>exact x
def jt.to {k:Bool}{h':Heap}{it:Addr}(x:jt k h it a i)(e:∀o,h.get? it=some o->h'.get? it=some o):jt k h' it a i:=let ⟨o,h1,r⟩:=x.ob;.mk ⟨o,e o h1,r⟩
def jP.ob {k:Bool}(x:jP k h a items):∃o,h.get? a=some o/\o.cls=.type (if k then "list" else "tuple")/\∃n,o.data=.seq items n:=by
 cases k<;>exact x
def jP.to {k:Bool}{h':Heap}(x:jP k h a items)(e:∀o,h.get? a=some o->h'.get? a=some o):jP k h' a items:=by
 cases k with
 |false=>exact let ⟨o,h1,r⟩:=x.ob;⟨o,e o h1,r⟩|true=>exact let ⟨o,h1,r⟩:=x.ob;⟨o,e o h1,r⟩
section
variable {prog:Program}{A:Around}{k:Bool}{it:Addr}
def S7 (h:jP k s.heap a items)(H:Q (.ref s.heap.objs.size) { s with heap:=s.heap.push { cls:=.type (QB k),data:=.fields #[.ref a,.int 0 0] } }):wpAny (model prog w) A (pyIter (.ref a)) Q E s:=by
 cases k with
 |true=>exact wpAny_pyIter_list h H|false=>exact wpAny_pyIter_tuple h H
def Y9 {x:Value}(hit:jt k s.heap it a i)(l:jP k s.heap a items)(f:items[i]? =some x)
  (g:∀h',jt k h' it a (i+1)->Heap.SameBut it s.heap h'->Q x { s with heap:=h' }):wpAny (model prog w) A (Builtin.SmallTypes.nextOf (.ref it)) Q E s:=by
 cases k with
 |true=>exact wpAny_nextOf_list_item hit l f g|false=>
  have h:s.heap.IsTupleIter it a i:=hit;obtain⟨o,b,e,H⟩:=id h;obtain⟨j,c,_,na,d⟩:s.heap.IsTuple a items:=l;unfold Builtin.SmallTypes.nextOf;refine b4 (wpAny_callSpecial?_slot (name:=Str.ofString "__next__") h.typeIs F.slot_tuple_iterator_next (wpAny_call_entry F.slot_tuple_iterator_next h.typeIs F.entry_tuple_iterator_next ?_ (F.args_tuple_iterator_next_1 _)));show wpAny _ _ (field (.ref it) 0 >>= _) _ _ s;refine b4 (wpAny_field b H (x:=.ref a) rfl ?_);show wpAny _ _ (if (Value.ref a==Value.none)=true then _ else _) _ _ s;rw[aq (show ¬((Value.ref a==Value.none)=true) from ax)]
  show wpAny _ _ (field (.ref it) 1 >>= _) _ _ s;refine b4 (wpAny_field b H (x:=.int i 0) rfl ?_);show wpAny _ _ (seqItems? (.ref a) >>= _) _ _ s;refine b4 (wpAny_seqItems c d ?_);simp only[aE,f];refine b4 (wpAny_setField b H (by simp) (b5 ⟨x,rfl,b5 (g _ (.mk ?_) (Heap.SameBut.update ..))⟩))
  exact⟨_,aX _ b (Obj.isFreed_of_fields (Obj.data_mapFields H _)),(Obj.cls_mapFields ..).trans e,by rw[Obj.data_mapFields H];simp[rawInt]⟩
def G9 (d:A.handled=none)(hit:jt k s.heap it a i)(l:jP k s.heap a items)(g:items[i]? =none)
  (j:∀h' e,Heap.ExtBut it s.heap h'->(∃o,h'.get? e=some o/\o.cls=.type "StopIteration")->E (.ref e) { s with heap:=h' }):wpAny (model prog w) A (Builtin.SmallTypes.nextOf (.ref it)) Q E s:=by
 cases k with
 |true=>exact wpAny_nextOf_list_end d hit l g j|false=>
  have h:s.heap.IsTupleIter it a i:=hit;obtain⟨p,H,n,b⟩:=id h;obtain⟨q,c,_,na,f⟩:s.heap.IsTuple a items:=l;unfold Builtin.SmallTypes.nextOf;refine b4 (wpAny_callSpecial?_slot (name:=Str.ofString "__next__") h.typeIs F.slot_tuple_iterator_next (wpAny_call_entry F.slot_tuple_iterator_next h.typeIs F.entry_tuple_iterator_next ?_ (F.args_tuple_iterator_next_1 _)));show wpAny _ _ (field (.ref it) 0 >>= _) _ _ s;refine b4 (wpAny_field H b (x:=.ref a) rfl ?_);show wpAny _ _ (if (Value.ref a==Value.none)=true then _ else _) _ _ s;rw[aq (show ¬((Value.ref a==Value.none)=true) from ax)]
  show wpAny _ _ (field (.ref it) 1 >>= _) _ _ s;refine b4 (wpAny_field H b (x:=.int i 0) rfl ?_);show wpAny _ _ (seqItems? (.ref a) >>= _) _ _ s;refine b4 (wpAny_seqItems c f ?_);simp only[aE,g];refine b4 (wpAny_rule (b4 (wpAny_setField H b (by simp) ?_)))
  show wpAny _ _ (newExc (.type "StopIteration") [] >>= _) _ _ _;refine b4 ?_;simp only[newExc,newTuple];refine b4 (wpAny_newObj_type ?_ (by size_fits))
  refine b4 (m:=firstArgMember _ _) (wpAny_of_eq (a:=Value.none) (by first|rfl|(simp only[firstArgMember];rfl)) ?_);refine wpAny_newObj_type ?_ (by size_fits)
  simp only[raiseNew];refine b4 (wpAny_handled ?_)
  first|rw[show A.in1.handled=none from d]|rw[d]
  refine b4 (b5 (wpAny_throw ?_));exact j _ _ (((Heap.SameBut.update ..).extBut.push _).push _) ⟨_,ar _ rfl,rfl⟩
def Sg (g:A.handled=none)(c:a≠it):Draws prog w A it [it,a] items.size (λi v=>items[i]? =some v) (λi h=>jt k h it a i/\jP k h a items) where
 live:=λ_ _ st=>let ⟨o,f,_⟩:=st.1.ob;⟨o,f⟩
 frame:=λ_ _ _ st d=>⟨st.1.to λo e=>d it (by simp) o e,st.2.to λo e=>d a (by simp) o e⟩
 item:=λi s Q E hi st j=>Y9 st.1 st.2 (x:=items[i]) (by simp[hi]) λh' b H=>j _ h' s.toks (by simp[hi]) ⟨b,st.2.to λo e=>H.extBut a o c e⟩ H
 done:=λs Q E st l=>G9 g st.1 st.2 (by simp) l
end
section
variable {h':Heap}
def _root_.L2.Inv.spun {T:Addr}{o:HO}(I:Inv X pins σ H s)(k:∀b u,b∉fp->s.heap.get? b=some u->h'.get? b=some u)(hf:∀b∈fp,ku X pins H b)(d:s.heap.objs.size<=T)
  (new:jy X.prog X.w (upd H T o) h' T o):Inv X pins σ (upd H T o) { s with heap:=h',toks:=t' }:=by
 have hn:H T=none:=I.hok.fresh d;have lt:∀b u,s.heap.get? b=some u->b≠T:=λb u e=>aJ (aI (aH e) d);have N:∀b u,H b=some u->b∉fp:=λb u e z=>by rw[(hf b z).1]at e;cases e
 refine I.step (g':=s.gens) (d':=s.drawn) (ch:=fp) (λb a=>let ⟨_,f1,_,i,f4,g⟩:=hf b a;⟨i,f1,f4,g⟩) (λb o _ _ h e _=>k b o h e) (λb o _ _ h e _=>⟨o.slots,k b o h e⟩)
  (λb o _ e n=>by rw[qC (lt b o e)];exact n) (λb o h e=>⟨o,k b o h e⟩) (λb xs e=>by rw[qC (wj e hn)];exact e) (λb u xs e=>by rw[qC (wj e hn)];exact e)
  (λb P e=>⟨#[],by rw[qC (wj e hn),e];simp⟩) (λm hm=>?_) (λb u e=>?_) I.bare
 ·obtain⟨o,E,p,f,r⟩:=hm
  exact⟨o,E,p,k _ o (λz=>(hf _ z).2.1 rfl) f,r⟩
 ·by_cases a:b=T
  ·subst a;rw[jY]at e;cases e;exact new
  ·rw[qC a]at e
   refine(I.hok b u e).stay (λc v h q=>k c v ?_ q) (λc q=>by rw[qC (wj q hn)];exact q) λc xs q=>by rw[qC (wj q hn)];exact q
   rcases h with z|z
   ·rw[z];exact N b u e
   ·exact N c _ z
def _root_.L2.Inv.spun0 (I:Inv X pins σ H s)(k:∀b u,b∉fp->s.heap.get? b=some u->h'.get? b=some u)(hf:∀b∈fp,ku X pins H b):Inv X pins σ H { s with heap:=h',toks:=t' }:=by
 have N:∀b u,H b=some u->b∉fp:=λb u e z=>by rw[(hf b z).1]at e;cases e
 refine I.step (g':=s.gens) (d':=s.drawn) (ch:=fp) (λb d=>let ⟨_,f1,_,g,f4,f⟩:=hf b d;⟨g,f1,f4,f⟩) (λb o _ _ h e _=>k b o h e) (λb o _ _ h e _=>⟨o.slots,k b o h e⟩)
  (λb o _ e n=>n) (λb o h e=>⟨o,k b o h e⟩) (λb xs e=>e) (λb u xs e=>e) (λb P e=>⟨#[],by rw[e];simp⟩) (λm hm=>?_) (λb u e=>?_) I.bare
 ·obtain⟨o,E,p,a,r⟩:=hm
  exact⟨o,E,p,k _ o (λz=>(hf _ z).2.1 rfl) a,r⟩
 ·refine(I.hok b u e).stay (λc v h q=>k c v ?_ q) (λc q=>q) λc xs q=>q
  rcases h with z|z
  ·rw[z];exact N b u e
  ·exact N c _ z
def _root_.L2.Inv.sq {k:Bool}(I:Inv X pins σ H s)(h:yJ k X.K H a xs):∃i:bP,Vals xs i/\jP k s.heap a i.toArray/\xs.length<=sizeLine:=by
 cases k with
 |true=>obtain⟨i,r,p,z⟩:=I.list h;exact⟨i,r,p.isList,z⟩|false=>obtain⟨i,r,p,z⟩:=I.tuple h;exact⟨i,r,(show s.heap.IsTuple a i.toArray from p),z⟩
def _root_.L2.Inv.sq_inj {k:Bool}(I:Inv X pins σ H s)(h:yJ k X.K H a xs)(h':yJ k X.K H a ys):xs=ys:=by
 cases k with
 |true=>exact I.list_inj h h'|false=>exact I.tuple_inj h h'
end
def X7 (k:Bool)(K:Frag)(a:Addr):It:=
 ⟨λi H=>∃xs x,yJ k K H a xs/\xs[i]? =some x,λi H x h=>∃p y,(∀xs,yJ k K H a xs->xs[i]? =some y)/\H p=none/\x=.ref p/\h=upd H p (.tup [.int i,y]),λi H=>∃xs,yJ k K H a xs/\xs.length=i⟩
def LY {K:Frag}(k:Bool)(a n it:Addr):Turn P w K (.Tuple elts kk tpos) (X7 k K a) [n,it] n (λi h=>(∃old,IsEnum h n it i old)/\jt k h it a i/\n≠it) where
 mem:=by simp
 obj:=λi h st b f=>by
  obtain⟨⟨old,he⟩,hi,_⟩:=st;rcases b9.mp f with rfl|f
  ·exact⟨_,he,λv z=>nomatch z⟩
  ·rw[cb.mp f]
   obtain⟨o,N,_,hd⟩:=hi.ob;exact⟨o,N,λv z=>by rw[hd]at z;cases z⟩
 keep:=λi h h' ⟨⟨old,he⟩,hi,ne⟩ kp=>⟨⟨old,kp n (by simp) _ he⟩,hi.to λo m=>kp it (by simp) o m,ne⟩
 item:=by
  intro X hP hw hK Z i pins s σ H E I hf st S;subst hP hw hK;obtain⟨⟨old,he⟩,hi,ne⟩:=st;obtain⟨xs,x,B,t⟩:=S;obtain⟨d,C,p,hz⟩:=I.sq B;obtain⟨u,hu,ru⟩:=C.get t;have Q:i<d.toArray.size:=by simpa using (b8.mp hu).1
  obtain⟨oa,g,Y,na,e⟩:=p.ob;have A:a≠it:=λz=>by
   obtain⟨oi,c,U,l⟩:=hi.ob;rw[<- z,g]at c;cases c;rw[l]at e;cases e
  have ane:n≠a:=λz=>by
   have r:s.heap.get? a=_:=z ▸ he;rw[g]at r;cases r;cases e
  refine wpAny_pyNext_enum_itemD (Sg (k:=k) (items:=d.toArray) (I.ok.hd Z) A) he ⟨hi,p⟩ Q ne (by simp[ne,ane]) λy h1 tk D N M hT hsz hk=>?_
  have ey:y=u:=by
   have:d[i]? =some y:=by simpa using D
   rw[hu]at this;exact(aD this).symm
  subst ey;refine⟨_,rfl,wpAny_letOwnedTupleGo_enum N λh2 T j=>?_⟩;have L:n<s.heap.objs.size:=aH he;have hT2:h2.get? s.heap.objs.size=some { cls:=.type "tuple",data:=.seq #[.int i tk,y] }:=j.extBut _ _ (bj L) hT;refine⟨.ref s.heap.objs.size,upd H s.heap.objs.size (.tup [.int i,x]),?_,rfl,⟨s.heap.objs.size,x,λys D=>by rw[I.sq_inj D B];exact t,I.hok.fresh (aj _),rfl,rfl⟩,⟨⟨_,by simpa using T⟩,?_,ne⟩,λb f=>?_⟩
  ·refine I.spun (fp:=[n,it]) (t':=tk+1) (λb o f m=>?_) hf (aj _) ?_
   ·exact j.extBut _ _ (λz=>f (by simp[z])) (hk b o (λz=>f (by simp[z])) (λz=>f (by simp[z])) m)
   ·exact⟨by show 2<=sizeLine;decide,[.int i tk,y],.cons ⟨tk,rfl⟩ (.cons ru .nil),_,hT2,⟨rfl,rfl⟩,0,rfl⟩
  ·exact M.1.to λo m=>j.extBut _ _ (λz=>ne z.symm) m
  ·have bn:b≠s.heap.objs.size:=λz=>by
    rcases b9.mp f with q|q
    ·exact absurd L (by rw[<- q,z];exact aW _)
    ·obtain⟨oi,c,_⟩:=hi.ob
     exact absurd (aH c) (by rw[<- cb.mp q,z];exact aW _)
   show upd H s.heap.objs.size _ b=none;rw[qC bn];exact(hf b f).1
 done:=by
  intro X hP hw hK Z i pins s σ H E I hf st S;subst hP hw hK;obtain⟨⟨old,he⟩,hi,ne⟩:=st;obtain⟨xs,B,t⟩:=S;obtain⟨d,C,p,hz⟩:=I.sq B;have en':d.toArray.size=i:=by rw[aA,<- C.length];exact t
  obtain⟨oa,g,Y,na,e⟩:=p.ob;have A:a≠it:=λz=>by
   obtain⟨oi,c,U,l⟩:=hi.ob;rw[<- z,g]at c;cases c;rw[l]at e;cases e
  refine wpAny_pyNext_enum_endD (Sg (k:=k) (items:=d.toArray) (I.ok.hd Z) A) he ⟨by rw[en'];exact hi,p⟩ λh1 J=>⟨rfl,?_⟩
  exact I.spun0 (fp:=[n,it]) (t':=s.toks) (λb o f m=>J b o (λz=>f (by simp[z])) m) hf
 self:=λ_ _ _ _ _ ⟨⟨_,he⟩,_⟩ h=>wpAny_pyIter_enum he h
open AutoSeq1 (wpAny_loadPart')
abbrev K4 (h:Heap)(k:Bool)(a:Addr):Heap:=h.push { cls:=.type (QB k),data:=.fields #[.ref a,.int 0 0] }
abbrev P6 (h:Heap)(k:Bool)(a:Addr):Heap:=(K4 h k a).push { cls:=.type "enumerate",data:=.fields #[.none,.bool false,.ref h.objs.size,rawInt 0,.none,.none] }
def Mt (a:Addr)(items:Array Value)(n:Nat)(D:b2)(sl:Array (Option Value)):
  Meets (Builtin.«enumerate.__new__» ⟨[.type "enumerate",.ref a],[]⟩) (λ_ R s=>s.heap.get? a=some { cls:=.type "tuple",dict:=D,data:=.seq items n,slots:=sl }/\R (.ok (.ret (.ref (K4 s.heap false a).objs.size))) { s with heap:=P6 s.heap false a }):=
 .of_wp λprog w A R s h=>by
  obtain⟨p,g,d,tk,os⟩:=s;obtain⟨H,h⟩:=h;have b:=sub_enumerate;have T:Heap.IsTuple (Shared.heap ⟨p,g,d,tk,os⟩) a items:=⟨_,H,rfl,n,rfl⟩
  wp_walk using wpAny_loadPart' H
  refine wpAny_stack_any λst=>b5 ?_;split
  ·rename_i c _ _ _ _ _
   cases (c==Value.type "enumerate")<;>(wp_walk using wpAny_loadPart' H,wpAny_pyIter_tuple T;exact⟨_,rfl,h⟩)
  ·wp_walk using wpAny_loadPart' H,wpAny_pyIter_tuple T
   exact⟨_,rfl,h⟩
section
variable {prog:Program}{A:Around}
def IH {k:Bool}(l:jP k s.heap a items)
  (h:∀h',IsEnum h' (s.heap.objs.size+1) s.heap.objs.size 0 .none->jt k h' s.heap.objs.size a 0->(∀b o,s.heap.get? b=some o->h'.get? b=some o)->Q (.ref (s.heap.objs.size+1)) { s with heap:=h' }):
  wpAny (model prog w) A (call (.type "enumerate") [.ref a]) Q E s:=by
 cases k with
 |true=>exact call_enumerate_list l λh' g f _ e=>h h' g f e|false=>
  obtain⟨⟨c,D,dt,sl⟩,d,H,n,hd⟩:=(show s.heap.IsTuple a items from l)
  replace H:c=.type "tuple":=H
  replace hd:dt=.seq items n:=hd
  subst H hd;refine callType_new F.called_enumerate (by decide) (F.typeCall_enumerate_1 _) (F.newCall_enumerate_1 _) (λobj=>F.args_object_init_2 obj _) F.entry_enumerate_new (Mt a items n D sl) ⟨d,?_⟩
  have z:(K4 s.heap false a).objs.size=s.heap.objs.size+1:=bc ..;have he:IsEnum (P6 s.heap false a) (K4 s.heap false a).objs.size s.heap.objs.size 0 .none:=ar _ rfl;show _/\_;rw[z]at he ⊢;exact⟨⟨_,he,rfl⟩,h _ he (.mk ⟨_,ae _ (ar _ rfl),rfl,rfl⟩) λb o x=>ae _ (ae _ x)⟩
end
section
variable {a b:Expr}{m:Ev}
def By (K:Frag)(t:TA):TI:=λσ H R=>t σ H λvs H1=>∃p k xs,vs=[.ref p]/\yJ k K H1 p xs/\R (X7 k K p) H1
def boot_enumerate:bootBuiltins "enumerate"=some (.type "enumerate"):=by rfl
def boot_zip:bootBuiltins "zip"=some (.type "zip"):=by rfl
def E8 {t:TA}(l:Gl X "enumerate")(hm:X.mg "enumerate"=none)(n:PA X [a] t)(g:starEach [a] X.env=[(false,eval a X.env)]):
  PI X (.Tuple elts kk tpos) (.Call (.Name "enumerate" p) [a] [] pos) (By X.K t):=by
 intro pins s σ H R I h;refine Call_ (gD I l hm boot_enumerate (PyProof.Rows.callWith_type1 (zV (n pos pins s σ H _ I h) λus s1 ⟨vs,H1,i,d,Q⟩=>?_) g rfl));obtain⟨p,k,xs,rfl,j,q⟩:=Q;obtain⟨u,rfl,r⟩:=d.one;cases r;obtain⟨f,v,sq,w⟩:=i.sq j;refine IH sq λh' e o E=>wpAny_pyIter_enum e ?_;refine⟨s1.heap.objs.size+1,[s1.heap.objs.size+1,s1.heap.objs.size],_,_,H1,rfl,i.kept (t':=s1.toks) E,LY k p _ _,⟨⟨_,by simpa using e⟩,o,Nat.succ_ne_self _⟩,λb m=>?_,q⟩
 have c:s1.heap.objs.size<=b:=by
  rcases b9.mp m with z|z
  ·rw[z];exact le_succ _
  ·rw[cb.mp z];exact aj _
 exact i.fpOk c (i.hok.fresh c)
noncomputable def atEnd (ws:List W)(i:Nat)(f:W->W):Option (Option W):=match ws[i]? with
 |some x=>some (some (f x))|none=>if ws.length=i then some none else none
def yB (w:W)(n:Nat):jo:=⟨λA i=>match z0 w A with
 |some ws=>atEnd ws i λx=>.tup [.int i,x]|none=>none,n⟩
noncomputable def ZX (w:W):Bool:=match w with
 |.tup _=>false|_=>true
def Y3 {K:Frag}{A:Hx}{w:W}{ws:List W}(S:zO K φ A H)(q:RV K φ H w v)(e:z0 w A=some ws):∃p Y,v=.ref p/\yJ (ZX w) K H p Y/\zF K φ H ws Y:=by
 cases w with
 |tup us=>cases e;obtain⟨a,vs,E,t,r⟩:=q;exact⟨a,vs,E,t,r⟩|ref n=>
  obtain⟨a,E,f⟩:=q;unfold z0 at e;dsimp only at e;cases c:A[n]? with
  |none=>rw[c]at e;cases e|some o=>
   rw[c]at e;obtain⟨g,d,r⟩:=S.ob n o c;rw[f]at d;cases d;cases o with
   |lst xs=>cases e;obtain⟨y,b,h⟩:=r;exact⟨a,y,E,qM.of b,h⟩|ro xs=>cases e;obtain⟨y,b,h⟩:=r;exact⟨a,y,E,b.sq,h⟩|dct xs=>cases e|tab _ _=>cases e
 |non=>cases e|bl _=>cases e|clo _ _ _=>cases e|xc _=>cases e|int _=>cases e|str _=>cases e
def Gb {K:Frag}{a:bQ}{A:Hx}{h:Hp}{w:W}{b:List W}{p:Addr}(q:RV K φ H w (.ref p))(lw:Zo K φ H a h)(S:zO K a A h)(E:z0 w A=some b):∃y,yJ (ZX w) K h p y/\zF K a h b y:=by
 obtain⟨P,Y,e,d,c⟩:=Y3 S (RV.monoW lw q) E;cases e;exact⟨Y,d,c⟩
def Ay {K:Frag}{w:W}{p:Addr}(q:RV K φ H w (.ref p)):Zr K φ H (yB w n) (X7 (ZX w) K p):=λi c o l lw S=>by
 unfold yB;dsimp only;cases es:z0 w l with
 |none=>exact⟨λ_ z=>(by cases z),λz=>(by cases z)⟩|some ws=>
  dsimp only;obtain⟨Y,a,b⟩:=Gb q lw S es;unfold atEnd;cases E:ws[i]? with
  |none=>
   dsimp only
   by_cases h:ws.length=i
   ·rw[ah h]
    exact⟨λ_ z=>(by cases z),λ_=>⟨Y,a,by rw[<- b.length];exact h⟩⟩
   ·rw[aq h]
    exact⟨λ_ z=>(by cases z),λz=>(by cases z)⟩
  |some x=>
   dsimp only;refine⟨λu z=>?_,λz=>(by cases z)⟩
   cases z;obtain⟨y,e,j⟩:=b.get E;refine⟨⟨Y,y,a,e⟩,λX H1 ⟨t,m,d,f,ex,g⟩=>?_⟩;subst ex g
   have:=d Y a
   rw[e]at this;cases this;obtain⟨a1,a2,A⟩:=ZO S f (.cons (w:=.int i) (v:=.int i) rfl (.one j));exact⟨a1,a2,A⟩
def yA (m:Ev):Ei:=λρ A=>(m ρ A).bind λw A1=>match z0 w A1 with
 |some ws=>.ok (yB w ws.length) A1|none=>.bad
end
section
variable {prog:Program}{A:Around}{z TI TO i1 i2 l1 l2:Addr}{n1 n2:Nat}{c1 c2:Bool}{xs ys:Array Value}{x y a b:Value}
def EC (D:ZipApart z TI TO i1 i2 l1 l2)(H:IsZip s.heap z TI TO .none)(I:IsPair s.heap TI (.ref i1) (.ref i2))(u:IsPair s.heap TO a b)
  (g1:jt c1 s.heap i1 l1 n1)(g2:jt c2 s.heap i2 l2 n2)(s1:jP c1 s.heap l1 xs)(s2:jP c2 s.heap l2 ys)(hx:xs[n1]? =some x)(Y:ys[n2]? =some y)
  (hQ:∀h',IsZip h' z TI TO (rawInt s.heap.objs.size)->IsPair h' TI (.ref i1) (.ref i2)->IsPair h' TO x y->jt c1 h' i1 l1 (n1+1)->jt c2 h' i2 l2 (n2+1)->IsPair h' s.heap.objs.size x y->
   (∀c o,c≠z->c≠TO->c≠i1->c≠i2->s.heap.get? c=some o->h'.get? c=some o)->Q (.ref s.heap.objs.size) { s with heap:=h' }):
  wpAny (model prog w) A (Builtin.«zip.__next__» ⟨[.ref z],[]⟩) (λfin X=>∃v,fin=.done (.ret v)/\Q v X) E s:=by
 show wpAny _ _ (field (.ref z) 2 >>= _) _ _ _;refine b4 (wpAny_field H rfl (x:=.bool false) rfl ?_);show wpAny _ _ (field (.ref z) 3 >>= _) _ _ _;refine b4 (wpAny_field H rfl (x:=.ref TI) rfl (b4 (wpAny_seqItems I rfl ?_)));show wpAny _ _ (Builtin.SmallTypes.ownedTupleIsFree (.ref z) >>= _) _ _ _;refine b4 ?_;unfold Builtin.SmallTypes.ownedTupleIsFree;refine b4 (wpAny_field H rfl (x:=.none) rfl (b5 ?_));simp only[if_true];refine b4 (wpAny_rule (b4 (wpAny_field H rfl (x:=.ref TO) rfl ?_)));refine b4 (wpAny_setField_rec H (by simp) λha p sa=>?_);replace p:IsZip ha z TI TO .ellipsis:=p
 refine b4 ?_;simp only[List.zipIdx_cons,List.zipIdx_nil,forIn_cons,forIn_nil];refine b4 (b4 (wpAny_onRaise ?_));show wpAny _ _ (Builtin.SmallTypes.nextOf (.ref i1) >>= _) _ _ _;refine b4 (Y9 (g1.to λo e=>sa.extBut _ _ D.i1z e) (s1.to λo e=>sa.extBut _ _ D.l1z e) hx λhb gb l=>b5 ?_);have K:IsPair hb TO a b:=l.extBut _ _ D.TOi1 (sa.extBut _ _ D.TOz u);refine b4 (wpAny_seqItems K rfl (b4 (wpAny_updateSeq_pair K λP T sc=>b4 (wpAny_letGo (b5 ?_)))));replace T:IsPair P TO x b:=T;refine b4 (b4 (wpAny_onRaise ?_));show wpAny _ _ (Builtin.SmallTypes.nextOf (.ref i2) >>= _) _ _ _;have up:∀c o,c≠z->c≠i1->c≠TO->s.heap.get? c=some o->P.get? c=some o:=λc o f d h e=>sc.extBut _ _ h (l.extBut _ _ d (sa.extBut _ _ f e));refine b4 (Y9 (g2.to λo e=>up _ o D.i2z D.i12.symm D.TOi2.symm e) (s2.to λo e=>up _ o D.l2z D.l2i1 D.l2TO e) Y λhd gd g=>b5 ?_);have J:IsPair hd TO x b:=g.extBut _ _ D.TOi2 T;refine b4 (wpAny_seqItems J rfl (b4 (wpAny_updateSeq_pair J λhe t S=>b4 (wpAny_letGo (b5 (b5 ?_))))));replace t:IsPair he TO x y:=t;refine b4 (wpAny_seqItems t rfl (b4 (wpAny_newTuple ?_)));have i:he.objs.size=s.heap.objs.size:=by rw[S.1,g.1,sc.1,l.1,sa.1]
 have C:IsZip he z TI TO .ellipsis:=S.extBut _ _ D.TOz.symm (g.extBut _ _ D.i2z.symm (sc.extBut _ _ D.TOz.symm (l.extBut _ _ D.i1z.symm p)));have N:∀c o,c≠z->c≠TO->c≠i1->c≠i2->s.heap.get? c=some o->he.get? c=some o:=λc o f d h r e=>S.extBut _ _ d (g.extBut _ _ r (up c o f h d e));have ge1:jt c1 he i1 l1 (n1+1):=((gb.to λo e=>sc.extBut _ _ D.TOi1.symm e).to λo e=>g.extBut _ _ D.i12 e).to λo e=>S.extBut _ _ D.TOi1.symm e;have B:jt c2 he i2 l2 (n2+1):=gd.to λo e=>S.extBut _ _ D.TOi2.symm e;have Z:z<he.objs.size:=aH C;show wpAny _ _ (Builtin.SmallTypes.ownedTupleHandOut (.ref z) (.ref he.objs.size) >>= _) _ _ _;refine b4 ?_;unfold Builtin.SmallTypes.ownedTupleHandOut;have U:IsZip (he.push { cls:=.type "tuple",data:=.seq #[x,y] }) z TI TO .ellipsis:=ae _ C;refine b4 (wpAny_setField_rec U (by simp) λhg n M=>?_);replace n:IsZip hg z TI TO (rawInt he.objs.size):=n
 refine wpAny_setField_rec n (by simp) λm j L=>?_;replace j:IsZip m z TI TO (rawInt he.objs.size):=j
 have fin:∀c o,c≠z->he.get? c=some o->m.get? c=some o:=λc o q e=>L.extBut _ _ q (M.extBut _ _ q (ae _ e));have tk:IsPair m he.objs.size x y:=L.extBut _ _ (bj Z) (M.extBut _ _ (bj Z) (ar _ rfl));rw[i]at j tk;refine b5 ⟨_,rfl,?_⟩;show Q (.ref he.objs.size) _;rw[i];exact hQ m j (fin _ _ D.TIz (N _ _ D.TIz D.TITO D.TIi1 D.TIi2 I)) (fin _ _ D.TOz t) (ge1.to λo e=>fin _ o D.i1z e) (B.to λo e=>fin _ o D.i2z e) tk λc o f d h r e=>fin c o f (N c o f d h r e)
def Cy {Q:Fin->Shared->Prop}(J:A.handled=none)(D:ZipApart z TI TO i1 i2 l1 l2)(i:IsZip s.heap z TI TO .none)(I:IsPair s.heap TI (.ref i1) (.ref i2))(u:IsPair s.heap TO a b)
  (g1:jt c1 s.heap i1 l1 n1)(g2:jt c2 s.heap i2 l2 n2)(s1:jP c1 s.heap l1 xs)(s2:jP c2 s.heap l2 ys)(j:xs[n1]? =none∨ys[n2]? =none)
  (K:∀h' e,(∀c o,c≠z->c≠TO->c≠i1->c≠i2->s.heap.get? c=some o->h'.get? c=some o)->(∃o,h'.get? e=some o/\o.cls=.type "StopIteration")->E (.ref e) { s with heap:=h' }):
  wpAny (model prog w) A (Builtin.«zip.__next__» ⟨[.ref z],[]⟩) Q E s:=by
 show wpAny _ _ (field (.ref z) 2 >>= _) _ _ _;refine b4 (wpAny_field i rfl (x:=.bool false) rfl ?_);show wpAny _ _ (field (.ref z) 3 >>= _) _ _ _;refine b4 (wpAny_field i rfl (x:=.ref TI) rfl (b4 (wpAny_seqItems I rfl ?_)));show wpAny _ _ (Builtin.SmallTypes.ownedTupleIsFree (.ref z) >>= _) _ _ _;refine b4 ?_;unfold Builtin.SmallTypes.ownedTupleIsFree;refine b4 (wpAny_field i rfl (x:=.none) rfl (b5 ?_));simp only[if_true];refine b4 (wpAny_rule (b4 (wpAny_field i rfl (x:=.ref TO) rfl ?_)));refine b4 (wpAny_setField_rec i (by simp) λt Z sa=>?_);replace Z:IsZip t z TI TO .ellipsis:=Z
 refine b4 ?_;simp only[List.zipIdx_cons,List.zipIdx_nil,forIn_cons,forIn_nil];refine b4 (b4 (wpAny_onRaise ?_));show wpAny _ _ (Builtin.SmallTypes.nextOf (.ref i1) >>= _) _ _ _;have ga:=g1.to (h':=t) λo e=>sa.extBut _ _ D.i1z e;have Y:=s1.to (h':=t) λo e=>sa.extBut _ _ D.l1z e;cases n:xs[n1]? with
 |none=>
  refine b4 (G9 J ga Y n λr e S he=>?_);obtain⟨m,h,H⟩:=he;have y:IsZip r z TI TO .ellipsis:=S _ _ D.i1z.symm Z;have f:e≠z:=λq=>by subst q;rw[y]at h;cases h;simp at H
  exact wpAny_setField_rec y (by simp) λp _ sc=>K p e (λc o d _ g _ q=>sc.extBut _ _ d (S _ _ g (sa.extBut _ _ d q))) ⟨m,sc.extBut _ _ f h,H⟩
 |some x=>
  have M:ys[n2]? =none:=by
   rcases j with q|q
   ·rw[n]at q;cases q
   ·exact q
  refine b4 (Y9 ga Y n λr P S=>b5 ?_);have T:IsPair r TO a b:=S.extBut _ _ D.TOi1 (sa.extBut _ _ D.TOz u);refine b4 (wpAny_seqItems T rfl (b4 (wpAny_updateSeq_pair T λp N sc=>b4 (wpAny_letGo (b5 ?_)))));refine b4 (b4 (wpAny_onRaise ?_));show wpAny _ _ (Builtin.SmallTypes.nextOf (.ref i2) >>= _) _ _ _;have up:∀c o,c≠z->c≠i1->c≠TO->s.heap.get? c=some o->p.get? c=some o:=λc o d l g e=>sc.extBut _ _ g (S.extBut _ _ l (sa.extBut _ _ d e));refine b4 (G9 J (g2.to λo e=>up _ o D.i2z D.i12.symm D.TOi2.symm e) (s2.to λo e=>up _ o D.l2z D.l2i1 D.l2TO e) M λhd e C he=>?_);obtain⟨m,h,H⟩:=he;have v:IsZip hd z TI TO .ellipsis:=C _ _ D.i2z.symm (sc.extBut _ _ D.TOz.symm (S.extBut _ _ D.i1z.symm Z));have f:e≠z:=λq=>by subst q;rw[v]at h;cases h;simp at H
  exact wpAny_setField_rec v (by simp) λhf _ B=>K hf e (λc o d l g L q=>B.extBut _ _ d (C _ _ L (up c o d g l q))) ⟨m,B.extBut _ _ f h,H⟩
def EG {Q:Option Value->Shared->Prop}(D:ZipApart z TI TO i1 i2 l1 l2)(d:IsZip s.heap z TI TO .none)(H:IsPair s.heap TI (.ref i1) (.ref i2))(h:IsPair s.heap TO a b)
  (g1:jt c1 s.heap i1 l1 n1)(g2:jt c2 s.heap i2 l2 n2)(s1:jP c1 s.heap l1 xs)(s2:jP c2 s.heap l2 ys)(n:xs[n1]? =some x)(m:ys[n2]? =some y)
  (p:∀h',IsZip h' z TI TO (rawInt s.heap.objs.size)->IsPair h' TI (.ref i1) (.ref i2)->IsPair h' TO x y->jt c1 h' i1 l1 (n1+1)->jt c2 h' i2 l2 (n2+1)->IsPair h' s.heap.objs.size x y->
   (∀c o,c≠z->c≠TO->c≠i1->c≠i2->s.heap.get? c=some o->h'.get? c=some o)->Q (some (.ref s.heap.objs.size)) { s with heap:=h' }):wpAny (model prog w) A (pyNext (.ref z)) Q E s:=by
 have T:s.TypeIs (.ref z) "zip":=⟨_,d,rfl⟩;unfold pyNext;exact b4 (wpAny_attempt (wpAny_callSpecial?_slot (name:=Str.ofString "__next__") T F.slot_zip_next (wpAny_call_entry F.slot_zip_next T F.entry_zip_next
  (EC D d H h g1 g2 s1 s2 n m λh' l j i g f e q=>b5 (p h' l j i g f e q)) (F.args_zip_next_1 _))))
def FN {Q:Option Value->Shared->Prop}(j:A.handled=none)(D:ZipApart z TI TO i1 i2 l1 l2)(d:IsZip s.heap z TI TO .none)(I:IsPair s.heap TI (.ref i1) (.ref i2))(H:IsPair s.heap TO a b)
  (g1:jt c1 s.heap i1 l1 n1)(g2:jt c2 s.heap i2 l2 n2)(s1:jP c1 s.heap l1 xs)(s2:jP c2 s.heap l2 ys)(h:xs[n1]? =none∨ys[n2]? =none)
  (m:∀h',(∀c o,c≠z->c≠TO->c≠i1->c≠i2->s.heap.get? c=some o->h'.get? c=some o)->Q none { s with heap:=h' }):wpAny (model prog w) A (pyNext (.ref z)) Q E s:=by
 have f:s.TypeIs (.ref z) "zip":=⟨_,d,rfl⟩;unfold pyNext;refine b4 (wpAny_attempt (wpAny_callSpecial?_slot (name:=Str.ofString "__next__") f F.slot_zip_next (wpAny_call_entry F.slot_zip_next f F.entry_zip_next (Cy j D d I H g1 g2 s1 s2 h λh' e i he=>?_) (F.args_zip_next_1 _))));obtain⟨o,g,l⟩:=he;exact b4 (wpAny_isInstance (T := "StopIteration") (b:=true) ⟨o,g,l⟩ isSubtype_stop (b5 (m _ i)))
end
abbrev K0 (h:Heap)(c:Bool)(l:Addr):Heap:=h.push { cls:=.type (QB c),data:=.fields #[.ref l,.int 0 0] }
abbrev K8 (h:Heap)(C c:Bool)(L l:Addr):Heap:=(K0 h C L).push { cls:=.type (QB c),data:=.fields #[.ref l,.int 0 0] }
abbrev K7 (h:Heap)(c C:Bool)(l L:Addr):Heap:=(K8 h c C l L).push { cls:=.type "tuple",data:=.seq #[.ref h.objs.size,.ref (K0 h c l).objs.size] }
abbrev K5 (h:Heap)(C c:Bool)(L l:Addr):Heap:=(K7 h C c L l).push { cls:=.type "tuple",data:=.seq #[.none,.none] }
abbrev Js (h:Heap)(C c:Bool)(L l:Addr):Heap:=(K5 h C c L l).push { cls:=.type "zip",data:=.fields #[.none,.bool false,.bool false,.ref (K8 h C c L l).objs.size,.ref (K7 h C c L l).objs.size] }
def Ib (c C:Bool)(l L:Addr)(xs y:Array Value):
  Meets (Builtin.«zip.__new__» ⟨[.type "zip",.ref l,.ref L],[]⟩) (λ_ R s=>jP c s.heap l xs/\jP C s.heap L y/\R (.ok (.ret (.ref (K5 s.heap c C l L).objs.size))) { s with heap:=Js s.heap c C l L }):=
 .of_wp λprog w A R s h=>by
  obtain⟨p,g,d,tk,os⟩:=s;obtain⟨Q,q,h⟩:=h;have H:=sub_zip;have a:jP c (Shared.heap ⟨p,g,d,tk,os⟩) l xs:=Q;have K:jP C (Shared.heap ⟨p.push { cls:=.type (QB c),data:=.fields #[.ref l,.int 0 0] },g,d,tk,os⟩) L y:=q.to λo e=>ae _ e
  wp_walk using S7 a,S7 K
  exact⟨_,rfl,h⟩
section
variable {prog:Program}{A:Around}{c1 c2:Bool}{l1 l2:Addr}{xs ys:Array Value}
def Fo (s1:jP c1 s.heap l1 xs)(s2:jP c2 s.heap l2 ys)
  (h:∀h' n,n=s.heap.objs.size->IsZip h' (n+4) (n+2) (n+3) .none->IsPair h' (n+2) (.ref n) (.ref (n+1))->IsPair h' (n+3) .none .none->jt c1 h' n l1 0->jt c2 h' (n+1) l2 0->
   (∀c o,s.heap.get? c=some o->h'.get? c=some o)->Q (.ref (n+4)) { s with heap:=h' }):wpAny (model prog w) A (call (.type "zip") [.ref l1,.ref l2]) Q E s:=by
 refine callType_new F.called_zip (by decide) (F.typeCall_zip_2 _ _) (F.newCall_zip_2 _ _) (λobj=>F.args_object_init_3 obj _ _) F.entry_zip_new (Ib c1 c2 l1 l2 xs ys) ⟨s1,s2,?_⟩
 have a:(K0 s.heap c1 l1).objs.size=s.heap.objs.size+1:=bc ..;have Z:(K8 s.heap c1 c2 l1 l2).objs.size=s.heap.objs.size+2:=by rw[bc,a]
 have z:(K7 s.heap c1 c2 l1 l2).objs.size=s.heap.objs.size+3:=by rw[bc,Z]
 have b:(K5 s.heap c1 c2 l1 l2).objs.size=s.heap.objs.size+4:=by rw[bc,z]
 have y:(Js s.heap c1 c2 l1 l2).get? (K5 s.heap c1 c2 l1 l2).objs.size=some _:=ar _ rfl;have Y:(Js s.heap c1 c2 l1 l2).get? (K7 s.heap c1 c2 l1 l2).objs.size=some _:=ae _ (ar _ rfl);have d:(Js s.heap c1 c2 l1 l2).get? (K8 s.heap c1 c2 l1 l2).objs.size=some _:=ae _ (ae _ (ar _ rfl));have e:(Js s.heap c1 c2 l1 l2).get? (K0 s.heap c1 l1).objs.size=some _:=ae _ (ae _ (ae _ (ar _ rfl)));have f:(Js s.heap c1 c2 l1 l2).get? s.heap.objs.size=some _:=ae _ (ae _ (ae _ (ae _ (ar _ rfl))));show _/\_;rw[Z,z,b]at y;rw[a,Z]at d;rw[z]at Y;rw[a]at e;rw[b];exact⟨⟨_,y,rfl⟩,h _ _ rfl y d Y (.mk ⟨_,f,rfl,rfl⟩) (.mk ⟨_,e,rfl,rfl⟩) λc o q=>
  ae _ (ae _ (ae _ (ae _ (ae _ q))))⟩
end
def Va (C c:Bool)(K:Frag)(p q:Addr):It:=
 ⟨λi H=>∃xs Y x y,yJ C K H p xs/\yJ c K H q Y/\xs[i]? =some x/\Y[i]? =some y,
  λi H v h=>∃t x y,(∀xs,yJ C K H p xs->xs[i]? =some x)/\(∀Y,yJ c K H q Y->Y[i]? =some y)/\H t=none/\v=.ref t/\h=upd H t (.tup [x,y]),
  λi H=>∃xs Y,yJ C K H p xs/\yJ c K H q Y/\(xs[i]? =none∨Y[i]? =none)⟩
def Fs {K:Frag}(c1 c2:Bool)(p q z TI TO r n:Addr)(D:ZipApart z TI TO r n p q):
  Turn P w K (.Tuple elts kk tpos) (Va c1 c2 K p q) [z,TI,TO,r,n] z (λi h=>IsZip h z TI TO .none/\IsPair h TI (.ref r) (.ref n)/\(∃a b,IsPair h TO a b)/\jt c1 h r p i/\jt c2 h n q i) where
 mem:=by simp
 obj:=λi h st b d=>by
  obtain⟨j,g,⟨Q,N,f⟩,g1,g2⟩:=st;simp only[mem_cons,not_mem_nil,or_false]at d;rcases d with rfl|rfl|rfl|rfl|rfl
  ·exact⟨_,j,λv e=>nomatch e⟩
  ·exact⟨_,g,λv e=>nomatch e⟩
  ·exact⟨_,f,λv e=>nomatch e⟩
  ·obtain⟨o,A,_,hd⟩:=g1.ob;exact⟨o,A,λv e=>by rw[hd]at e;cases e⟩
  ·obtain⟨o,A,_,hd⟩:=g2.ob;exact⟨o,A,λv e=>by rw[hd]at e;cases e⟩
 keep:=λi h h' ⟨j,g,⟨Q,N,f⟩,g1,g2⟩ k=>⟨k z (by simp) _ j,k TI (by simp) _ g,⟨Q,N,k TO (by simp) _ f⟩,g1.to λo e=>k r (by simp) o e,g2.to λo e=>k n (by simp) o e⟩
 item:=by
  intro X hP hw hK hc i pins s σ H E I hf st hg;subst hP hw hK;obtain⟨j,g,⟨Q,N,f⟩,g1,g2⟩:=st;obtain⟨xs,ys,x,y,M,L,ex,ey⟩:=hg;obtain⟨m,r1,t,_⟩:=I.sq M;obtain⟨l,r2,S,_⟩:=I.sq L;obtain⟨T,eu1,Z⟩:=r1.get ex;obtain⟨U,eu2,Y⟩:=r2.get ey;refine EG D j g f g1 g2 t S (x:=T) (y:=U) (by simpa using eu1) (by simpa using eu2) λhh z1 z2 z3 z4 z5 z6 kp=>?_
  refine⟨_,rfl,wpAny_letOwnedTupleGo_zip z1 λhk zk C=>?_⟩;have lt:∀{c o},s.heap.get? c=some o->c≠s.heap.objs.size:=λe=>aJ (aH e);have T2:IsPair hk s.heap.objs.size T U:=C.extBut _ _ (lt j).symm z6;have fre:∀b∈[z,TI,TO,r,n],b≠s.heap.objs.size:=λb d=>by
   simp only[mem_cons,not_mem_nil,or_false]at d;rcases d with rfl|rfl|rfl|rfl|rfl
   ·exact lt j
   ·exact lt g
   ·exact lt f
   ·obtain⟨o,A,_⟩:=g1.ob;exact lt A
   ·obtain⟨o,A,_⟩:=g2.ob;exact lt A
  refine⟨.ref s.heap.objs.size,upd H s.heap.objs.size (.tup [x,y]),?_,rfl,⟨s.heap.objs.size,x,y,λzs u=>by rw[I.sq_inj u M];exact ex,λzs u=>by rw[I.sq_inj u L];exact ey,I.hok.fresh (aj _),rfl,rfl⟩,
   ⟨zk,C.extBut _ _ D.TIz z2,⟨_,_,C.extBut _ _ D.TOz z3⟩,z4.to λo e=>C.extBut _ _ D.i1z e,z5.to λo e=>C.extBut _ _ D.i2z e⟩,λb d=>?_⟩
  ·refine I.spun (fp:=[z,TI,TO,r,n]) (t':=s.toks) (λb o d eo=>?_) hf (aj _) ?_
   ·exact C.extBut _ _ (λe=>d (by simp[e])) (kp b o (λe=>d (by simp[e])) (λe=>d (by simp[e])) (λe=>d (by simp[e])) (λe=>d (by simp[e])) eo)
   ·exact⟨by show 2<=sizeLine;decide,[T,U],.cons Z (.cons Y .nil),_,T2,⟨rfl,rfl⟩,0,rfl⟩
  ·show upd H s.heap.objs.size _ b=none
   rw[qC (fre b d)];exact(hf b d).1
 done:=by
  intro X hP hw hK hc i pins s σ H E I hf st hg;subst hP hw hK;obtain⟨j,g,⟨Q,N,f⟩,g1,g2⟩:=st;obtain⟨xs,ys,M,L,J⟩:=hg;obtain⟨m,r1,t,_⟩:=I.sq M;obtain⟨l,r2,S,_⟩:=I.sq L;have B:m.toArray[i]? =none∨l.toArray[i]? =none:=by
   rcases J with e|e
   ·exact .inl (by simpa using r1.none_of e)
   ·exact .inr (by simpa using r2.none_of e)
  exact FN (I.ok.hd hc) D j g f g1 g2 t S B λhh kp=>⟨rfl,I.spun0 (fp:=[z,TI,TO,r,n]) (t':=s.toks) (λb o d eo=>kp b o (λe=>d (by simp[e])) (λe=>d (by simp[e])) (λe=>d (by simp[e])) (λe=>d (by simp[e])) eo) hf⟩
 self:=λ_ _ _ _ _ st h=>wpAny_pyIter_zip st.1 h
section
variable {a b:Expr}{m:Ev}
def AW (K:Frag)(t:TA):TI:=λσ H R=>t σ H λvs H1=>∃p q C c xs y,vs=[.ref p,.ref q]/\yJ C K H1 p xs/\yJ c K H1 q y/\R (Va C c K p q) H1
def CK {T:TA}(P:Gl X "zip")(hm:X.mg "zip"=none)(U:PA X [a,b] T)(M:starEach [a,b] X.env=(false,eval a X.env)::starEach [b] X.env)(N:(backTo pos (starEach [b] X.env)).any (·.1)=false):
  PI X (.Tuple elts kk tpos) (.Call (.Name "zip" p) [a,b] [] pos) (AW X.K T):=by
 intro pins s σ H R I h;refine Call_ (gD I P hm boot_zip (PyProof.Rows.callWith_type1 (zV (U pos pins s σ H _ I h) λus s1 ⟨vs,H1,g,J,Q⟩=>?_) M N));obtain⟨p,q,c1,c2,xs,ys,rfl,h1,h2,Y⟩:=Q;obtain⟨u1,u2,rfl,m,r⟩:=J.two;cases m;cases r;obtain⟨v,C,d,_⟩:=g.sq h1;obtain⟨u,B,S,_⟩:=g.sq h2;obtain⟨op,t,_⟩:=d.ob;obtain⟨oq,o,_⟩:=S.ob;have L:p<s1.heap.objs.size:=aH t;have l:q<s1.heap.objs.size:=aH o;refine Fo d S λh' n E z A y x Z kp=>wpAny_pyIter_zip z ?_;rw[<- E]at L l;have ne1:∀(i j:Nat),i≠j->n+i≠n+j:=λi j h e=>h (Nat.add_left_cancel e);have ne2:∀(c:Nat)(i:Nat),c<n->c≠n+i:=λc i h e=>absurd h (by rw[e];exact Nat.not_lt.mpr (le_add_right n i))
 have D:ZipApart (n+4) (n+2) (n+3) (n+0) (n+1) p q:=⟨ne1 2 4 (by decide),ne1 3 4 (by decide),ne1 0 4 (by decide),ne1 1 4 (by decide),ne1 2 3 (by decide),ne1 2 0 (by decide),ne1 2 1 (by decide),ne1 3 0 (by decide),ne1 3 1 (by decide),ne1 0 1 (by decide),
  ne2 p 4 L,ne2 p 3 L,ne2 p 0 L,ne2 p 1 L,ne2 q 4 l,ne2 q 3 l,ne2 q 0 l,ne2 q 1 l⟩
 refine⟨n+4,[n+4,n+2,n+3,n,n+1],_,_,H1,rfl,g.kept (t':=s1.toks) kp,Fs c1 c2 p q _ _ _ _ _ D,⟨z,A,⟨_,_,y⟩,x,Z⟩,λc w=>?_,Y⟩;have f:s1.heap.objs.size<=c:=by
  rw[<- E];simp only[mem_cons,not_mem_nil,or_false]at w;rcases w with rfl|rfl|rfl|rfl|rfl
  ·exact le_add_right _ _
  ·exact le_add_right _ _
  ·exact le_add_right _ _
  ·exact aj _
  ·exact le_add_right _ _
 exact g.fpOk f (g.hok.fresh f)
noncomputable def zip2:Option W->Option W->Option W
 |some x,some y=>some (.tup [x,y])|_,_=>none
def kM (w a:W)(n:Nat):jo:=⟨λA i=>match z0 w A,z0 a A with
 |some us,some vs=>some (zip2 us[i]? vs[i]?)|_,_=>none,n⟩
def BP {K:Frag}{w a:W}{p P:Addr}(q:RV K φ H w (.ref p))(Q:RV K φ H a (.ref P)):Zr K φ H (kM w a n) (Va (ZX w) (ZX a) K p P):=λi c D A lw S=>by
 unfold kM;dsimp only;cases es:z0 w A with
 |none=>exact⟨λ_ z=>(by cases z),λz=>(by cases z)⟩|some us=>
  cases es':z0 a A with
  |none=>exact⟨λ_ z=>(by cases z),λz=>(by cases z)⟩|some vs=>
   dsimp only;obtain⟨xs,b,f⟩:=Gb q lw S es;obtain⟨Y,h,d⟩:=Gb Q lw S es';have non:∀{us:List W}{xs:List V},zF K c D us xs->us[i]? =none->xs[i]? =none:=λr e=>by
    rw[List.getElem?_eq_none_iff]at e ⊢;rw[<- r.length];exact e
   cases j:us[i]? with
   |none=>exact⟨λ_ z=>(by cases z),λ_=>⟨xs,Y,b,h,.inl (non f j)⟩⟩|some x=>
    cases E:vs[i]? with
    |none=>exact⟨λ_ z=>(by cases z),λ_=>⟨xs,Y,b,h,.inr (non d E)⟩⟩|some y=>
     refine⟨λu z=>?_,λz=>(by cases z)⟩
     cases z;obtain⟨l,f1,f2⟩:=f.get j;obtain⟨v,g,f4⟩:=d.get E;refine⟨⟨xs,Y,l,v,b,h,f1,g⟩,λX H1 ⟨t,J,I,o,m,s,ex,B⟩=>?_⟩;subst ex B;have g1:=o xs b;have g2:=m Y h;rw[f1]at g1;cases g1;rw[g]at g2;cases g2;obtain⟨a1,a2,C⟩:=ZO S s (.cons f2 (.one f4));exact⟨a1,a2,C⟩
def wJ (m m':Ev):Ei:=λρ A=>(m ρ A).bind λw A1=>(m' ρ A1).bind λa A2=>match z0 w A2,z0 a A2 with
 |some us,some _=>.ok (kM w a us.length) A2|_,_=>.bad
variable {K:Frag}{c:Expr}
noncomputable def P5:Ev:=λ_ A=>.ok (.ref A.length) (A++[.dct []])
noncomputable def K6:W->Option Key
 |.int i=>some (.inl i)|_=>none
noncomputable def jQ (k:Key):List (Key×W)->Option W
 |[]=>none|(j,w)::r=>if j=k then some w else jQ k r
theorem Gs (k:Key):∀{kvs:List (Key×W)}{us:List (Key×V)},us.map (·.1)=kvs.map (·.1)->zF K φ H (kvs.map (·.2)) (us.map (·.2))->
  (∀w,jQ k kvs=some w->∃v,yE us k=some v/\RV K φ H w v)/\(jQ k kvs=none->yE us k=none)
 |[],[],_,_=>⟨λw h=>(by cases h),λ_=>rfl⟩|[],_::_,h,_=>by simp at h|_::_,[],h,_=>by simp at h|(j,w)::kvs,(J,v)::us,h,r=>by
  simp only[aQ,List.cons.injEq]at h;obtain⟨g,l,e,d,c⟩:=r;simp only[aQ,List.cons.injEq]at e;obtain⟨rfl,rfl⟩:=e;have i:=Gs k h.2 c;have b:J=j:=h.1;subst b
  by_cases a:J=k
  ·refine⟨λf hw=>⟨v,Y2 a,?_⟩,λhn=>?_⟩
   ·unfold jQ at hw;rw[ah a]at hw;cases hw;exact d
   ·unfold jQ at hn;rw[ah a]at hn;cases hn
  ·unfold jQ
   rw[aq a,YZ (p:=(J,v)) a];exact i
theorem zO.dct {A:Hx}{kvs:List (Key×W)}(S:zO K φ A H)(q:RV K φ H (.ref n) v)(e:A[n]? =some (.dct kvs)):∃p us,v=.ref p/\φ[n]? =some p/\H p=some (.dK us)/\us.map (·.1)=kvs.map (·.1)/\zF K φ H (kvs.map (·.2)) (us.map (·.2)):=by
 obtain⟨p,rfl,a⟩:=q;obtain⟨P,h,us,d,c,b⟩:=S.ob n _ e;rw[a]at h;cases h;exact⟨p,us,rfl,a,d,c,b⟩
def KH:W->W->Hx->R W:=λd k A=>match d,K6 k with
 |.ref n,some k=>match A[n]? with
  |some (.dct kvs)=>match jQ k kvs with
   |some w=>.ok w A|none=>.bad
  |_=>.bad
 |_,_=>.bad
def EJ:V->List V->Hp->VK->Prop:=λx vs H Q=>∃p us k d,x=.ref p/\vs=[kV k,d]/\H p=some (.dK us)/\us.length<sizeLine/\(∀v,yE us k=some v->Q v H)/\(yE us k=none->Q d (upd H p (.dK (putK us k d))))
def Ig:X9 X "dict.setdefault" EJ:=by
 intro pins s σ H x vs v us Q I i j h;obtain⟨p,kvs,k,d,rfl,rfl,f,A,n,m⟩:=h;cases i;obtain⟨U,u,rfl,l,c⟩:=j.two;obtain⟨z,hd,ws,rel,g⟩:=PH I.hok f;refine call_meetsIn PySem.F.slot_dict_setdefault g.typeIs PySem.F.entry_dict_setdefault (PySem.F.args_dict_setdefault_3 _ _ _) (kt_meets_setdefault (yu X.prog X.w) p (Xu l) hd u) ⟨ws,g,by rw[<- rel.length];exact z,λv o=>?_,λhn h' D t=>?_⟩
 ·have r:=rel.val k
  rw[o]at r;cases e:yE kvs k with
  |none=>rw[e]at r;exact r.elim|some a=>rw[e]at r;exact⟨a,H,I.tok _,r,n a e⟩
 ·have r:=rel.val k
  rw[hn]at r;cases e:yE kvs k with
  |some a=>rw[e]at r;exact r.elim|none=>
   have b:(putK kvs k d).length<=sizeLine:=by have:=Mb kvs k d;omega
   have he:∃q,h'.get? p=some q:=let ⟨q,_,_,y,_⟩:=D;⟨q,y⟩
   exact⟨d,_,FK I (by rw[f];exact True.intro) t he (CI b hd (rel.put k c) D),c,m e⟩
noncomputable def Wm (x:W)(A:Hx):Bool:=match x with
 |.ref n=>match A[n]? with
  |some (.dct _)=>true|_=>false
 |_=>false
def g0:W->W->W->Hx->R W:=λd k v A=>match d,K6 k with
 |.ref n,some k=>match A[n]? with
  |some (.dct kvs)=>if kvs.length<zT then(match jQ k kvs with
   |some w=>.ok w A|none=>.ok v (A.set n (.dct (kvs++[(k,v)])))) else .bad
  |_=>.bad
 |_,_=>.bad
def Jk (g:W->W->W->Hx->R W)(a b c:Ev):Ev:=λρ A=>(a ρ A).bind λx A1=>if Wm x A1 then(b ρ A1).bind λy A2=>(c ρ A2).bind λz d=>g x y z d else .bad
def IP {A:Hx}{w:W}(S:zO K φ A H)(q:RV K φ H w v)(e:Wm w A=true):Wq K "dict" v H:=by
 unfold Wm at e;cases w with
 |ref n=>
  dsimp only at e;cases E:A[n]? with
  |none=>rw[E]at e;cases e|some o=>cases o with
   |dct ws=>obtain⟨p,us,rfl,_,h,_⟩:=S.dct q E;exact .inr (.inr (.inl ⟨rfl,.inl ⟨us,h⟩⟩))|_=>rw[E]at e;cases e
 |_=>cases e
end
def X0 (d:Addr)(o:Obj)(us:List (Key×V)):It:=
 ⟨λi H=>H d=some (.frz o (.dK us))/\i<us.length,λi H x h=>∃t p,us[i]? =some p/\H t=none/\x=.ref t/\h=upd H t (.tup [kV p.1,p.2]),λi H=>H d=some (.frz o (.dK us))/\us[i]? =none⟩
def Ca {k:Key}(h:(yu P w).is k u=true):RelV (kV k) u:=by
 rw[ML]at h;rcases gw h with ⟨i,t,rfl,rfl⟩|⟨x,t,rfl,rfl⟩
 ·exact⟨t,rfl⟩
 ·exact⟨t,rfl⟩
theorem KV.at:∀{us:List (Key×V)}{vs:List (Key×Value)}{i:Nat}{p:Key×V},KV us vs->us[i]? =some p->∃u,vs[i]? =some (p.1,u)/\RelV p.2 u
 |[],_,_,_,_,e=>by simp at e|q::us,_,0,p,.cons (b:=b) r t,e=>by
  simp at e;subst e;exact⟨b.2,by simp only[List.getElem?_cons_zero];rw[r.1],r.2⟩
 |q::us,_,i+1,p,.cons r t,e=>by
  obtain⟨u,H,h⟩:=KV.at (i:=i) (p:=p) t (by simpa using e)
  exact⟨u,by simpa using H,h⟩
section
def _root_.L2.Inv.frzD {d:Addr}{o:Obj}{us:List (Key×V)}{f:Nat}(I:Inv X pins σ H s)(h:H d=some (.frz o (.dK us)))(p:∃E,o.data=.dict E f):∃vs,KV us vs/\s.heap.DictAt (yu X.prog X.w) d vs f:=by
 obtain⟨a,z,hd,vs,rel,D⟩:=I.hok d _ h;obtain⟨i,o',es',e,g,c,r⟩:=D.dictAt;rw[a]at e;cases e;obtain⟨E,he⟩:=p;have b:=c;rw[he]at b;injection b with l j
 subst j;exact⟨vs,rel,o,es',a,g,c,r⟩
end
def Hm:entryFor table "dict_itemiterator.__iter__"=some Builtin.«dict_keyiterator.__iter__»:=entryFor_alias (id' := "dict_keyiterator.__iter__") (by kernel_rfl)
 (by first|rfl|decide +kernel|(unfold String.splitOn;simp +decide [String.splitOnAux])) (by decide +kernel) (by kernel_rfl)
def MK {K:Frag}(d it:Addr)(o:Obj)(us:List (Key×V))(j:Nat)(g:∃U,o.data=.dict U j):
  Turn P w K (.Tuple elts kk tpos) (X0 d o us) [it] it (λi h=>∃ok a,IsItemIter h it d i us.length j ok a) where
 mem:=by simp
 obj:=λi h ⟨ok,a,st⟩ b c=>by
  rw[cb.mp c];exact⟨_,st,λv e=>nomatch e⟩
 keep:=λi h h' ⟨ok,a,st⟩ k=>⟨ok,a,k it (by simp) _ st⟩
 item:=by
  intro X n hw q t i pins s σ H E I hf st l;subst n hw q;obtain⟨ok,a,st⟩:=st;obtain⟨hd,hi⟩:=l;obtain⟨vs,rel,D⟩:=I.frzD hd g;obtain⟨u,C,x⟩:=KV.at rel (i:=i) (p:=us[i]) (by simp[hi])
  have S:IsItemIter s.heap it d i vs.length j ok a:=by rw[<- rel.length];exact st
  refine wpAny_pyNext_items_item S D C λkey N y L T J kp=>⟨_,rfl,wpAny_letOwnedTupleGo_items L λM m f=>?_⟩;have lt:it<s.heap.objs.size:=aH st;have Y:M.get? s.heap.objs.size=some { cls:=.type "tuple",data:=.seq #[key,u] }:=f.extBut _ _ (bj lt) T;refine⟨.ref s.heap.objs.size,upd H s.heap.objs.size (.tup [kV us[i].1,us[i].2]),?_,rfl,⟨s.heap.objs.size,us[i],by simp[hi],I.hok.fresh (aj _),rfl,rfl⟩,⟨_,_,by rw[rel.length];exact m⟩,λb c=>?_⟩
  ·refine I.spun (fp:=[it]) (t':=s.toks) (λb ob c r=>?_) hf (aj _) ?_
   ·exact f.extBut _ _ (λz=>c (by simp[z])) (kp b ob (λz=>c (by simp[z])) r)
   ·exact⟨by show 2<=sizeLine;decide,[key,u],.cons (Ca y) (.cons x .nil),_,Y,⟨rfl,rfl⟩,0,rfl⟩
  ·show upd H s.heap.objs.size _ b=none
   have bn:b≠s.heap.objs.size:=λz=>by rw[cb.mp c]at z;exact absurd lt (by rw[z];exact aW _)
   rw[qC bn];exact(hf b c).1
 done:=by
  intro X n hw q t i pins s σ H E I hf st l;subst n hw q;obtain⟨ok,a,st⟩:=st;obtain⟨hd,hi⟩:=l;obtain⟨vs,rel,D⟩:=I.frzD hd g;have S:IsItemIter s.heap it d i vs.length j ok a:=by rw[<- rel.length];exact st
  have hn:vs[i]? =none:=by
   rw[List.getElem?_eq_none_iff]at hi ⊢;rw[<- rel.length];exact hi
  exact wpAny_pyNext_items_end (I.ok.hd t) S D hn λN B=>⟨rfl,I.spun0 (fp:=[it]) (t':=s.toks) (λb ob c r=>B b ob (λz=>c (by simp[z])) r) hf⟩
 self:=λA i s Q E ⟨ok,a,st⟩ h=>by
  have T:s.TypeIs (.ref it) "dict_itemiterator":=⟨_,st,rfl⟩;refine wpAny_pyIter_slot T F.slot_dict_itemiterator_iter (wpAny_call_entry F.slot_dict_itemiterator_iter T Hm ?_ (F.args_dict_itemiterator_iter_1 _));show wpAny _ _ (ret (.ref it)) _ _ s;exact b5 ⟨_,rfl,"dict_itemiterator",_,T,F.slot_dict_itemiterator_next.lookup,h⟩
section
variable {a b:Expr}{m:Ev}
def CQ (t:TE):TI:=λσ H R=>t σ H λx H1=>∃d us,x=.ref d/\H1 d=some (.dK us)/\∀o,R (X0 d o us) (upd H1 d (.frz o (.dK us)))
def Fb {apos C:Pos}{T:TE}(u:PE X a T)(i:attributeBase a "items" X.env (eval a X.env)=eval a X.env)(g:(apos.endLine==C.line)=true):
  PI X (.Tuple elts kk tpos) (.Call (.Attribute a "items" apos) [] [] C) (CQ T):=by
 intro pins s σ H R I h;refine wpAny_Call_method0_late i g (zV (u pins s σ H _ I h) λv s1 ⟨x,H1,m,n,d,us,ex,hd,q⟩=>?_);subst ex;cases n;obtain⟨z,f,vs,rel,D⟩:=PH m.hok hd;obtain⟨o,l,p,c,hex,t,r⟩:=id D;refine⟨"dict","dict.items",PySem.F.plainAttrs_dict,PySem.F.slot_dict_items,PySem.F.type_dict_items,D.typeIs,λb E=>by cases E;exact⟨o,c,hex.2.1⟩,Calls.callWith_builtin rfl (PySem.evalArgs_none ?_)⟩
 refine call_meetsIn PySem.F.slot_dict_items D.typeIs PySem.F.entry_dict_items (PySem.F.args_dict_items_1 _) (meets_dict_items (yu X.prog X.w) d f) ⟨⟨vs,D⟩,?_⟩;have B:Inv X pins σ (upd H1 d (.frz o (.dK us))) { s1 with heap:=s1.heap,toks:=s1.toks }:=m.write (x:=d) (e:=d) (o:=.frz o (.dK us)) (t':=s1.toks) (h':=s1.heap) (by rw[hd];exact True.intro) (.inl rfl) (λ_ _ _ q=>q) ⟨o,c⟩ ⟨c,z,f,vs,rel,D⟩
 have j:Inv X pins σ (upd H1 d (.frz o (.dK us))) { s1 with heap:=s1.heap.push { cls:=.type "dict_items",data:=.fields #[.ref d] } }:=B.kept (t':=s1.toks) λb ob q=>ae _ q
 have A:(s1.heap.push { cls:=.type "dict_items",data:=.fields #[.ref d] }).DictAt (yu X.prog X.w) d vs p:=⟨o,l,ae _ c,hex,t,r⟩;refine wpAny_pyIter_items (s:={ s1 with heap:=s1.heap.push { cls:=.type "dict_items",data:=.fields #[.ref d] } }) ⟨_,ar _ rfl,rfl,rfl⟩ A ?_
 refine⟨_,[_],_,_,_,rfl,j.kept (t':=s1.toks) λb ob q=>ae _ q,MK d _ o us p ⟨l,t⟩,⟨.none,.none,?_⟩,λb y=>?_,q o⟩
 ·rw[rel.length];exact ar _ rfl
 ·have E:=cb.mp y
  subst E;exact j.fpOk (aj _) (j.hok.fresh (aj _))
noncomputable def kW:Key->W
 |.inl i=>.int i|.inr x=>.str x
def Yk (kvs:List (Key×W)):jo:=⟨λ_ i=>some (kvs[i]?.map λp=>.tup [kW p.1,p.2]),kvs.length⟩
def Ya (m:Ev):Ei:=λρ A=>match A with
 |[]=>(m ρ []).bind λw A1=>match w,A1 with
  |.ref 0,[.dct kvs]=>if qP (kvs.map (·.2)) then .ok (Yk kvs) [] else .bad|_,_=>.bad
 |_=>.bad
def B9 {K:Frag}{d:Addr}{o:Obj}{us:List (Key×V)}{kvs:List (Key×W)}(hd:H d=some (.frz o (.dK us)))(f:us.map (·.1)=kvs.map (·.1))(A:zF K φ H (kvs.map (·.2)) (us.map (·.2)))(n:qP (kvs.map (·.2))=true):
  Zr K φ H (Yk kvs) (X0 d o us):=λi a g I lw S=>by
 unfold Yk;dsimp only;have h:=lw.fz d o _ hd;have E:zF K a g (kvs.map (·.2)) (us.map (·.2)):=A.nrm lw.tp lw.fz n;have l:us.length=kvs.length:=by have:=congrArg List.length f;simpa using this
 cases e:kvs[i]? with
 |none=>
  refine⟨λ_ z=>(by cases z),λ_=>⟨h,?_⟩⟩
  rw[List.getElem?_eq_none_iff]at e ⊢;rw[l];exact e
 |some p=>
  have hi:i<kvs.length:=(b8.mp e).1;refine⟨λu z=>?_,λz=>(by cases z)⟩
  cases z;refine⟨⟨h,by rw[l];exact hi⟩,λx H1 ⟨t,q,b,m,ex,y⟩=>?_⟩
  subst ex y;have j:q.1=p.1:=by
   have a1:(us.map (·.1))[i]? =some q.1:=by simp[b]
   rw[f]at a1;simp[e]at a1;exact a1.symm
  have a2:(kvs.map (·.2))[i]? =some p.2:=by simp[e]
  obtain⟨v,c,w⟩:=E.get a2;have s:v=q.2:=by simp[b]at c;exact c.symm
  subst s;rw[j];have r:RV K a g (kW p.1) (kV p.1):=by cases p.1<;>rfl
  obtain⟨D,C,B⟩:=ZO S m (.cons r (.one w));exact⟨D,C,B⟩
end
mutual
noncomputable def W.beq:W->W->Bool
 |.non,.non=>true|.bl a,.bl b=>a==b|.int a,.int b=>decide (a=b)|.str a,.str b=>decide (a=b)|.tup a,.tup b=>Yn a b|_,_=>false
noncomputable def Yn:List W->List W->Bool
 |[],[]=>true|a::as,b::bs=>a.beq b&&Yn as bs|_,_=>false
end
mutual
theorem W.eq_of:∀{a b:W},a.beq b=true->a=b
 |.non,.non,_=>rfl|.bl a,.bl b,h=>by have h':(a==b)=true:=h;rw[a6]at h';rw[h']|.int a,.int b,h=>by have h':decide (a=b)=true:=h;rw[ag]at h';rw[h']|.str a,.str b,h=>by have h':decide (a=b)=true:=h;rw[ag]at h';rw[h']|.tup a,.tup b,h=>by have h':Yn a b=true:=h;rw[R9 h']|.non,.bl _,h=>nomatch h|.non,.int _,h=>nomatch h|.non,.str _,h=>nomatch h|.non,.tup _,h=>nomatch h|.non,.ref _,h=>nomatch h
 |.bl _,.non,h=>nomatch h|.bl _,.int _,h=>nomatch h|.bl _,.str _,h=>nomatch h|.bl _,.tup _,h=>nomatch h|.bl _,.ref _,h=>nomatch h
 |.int _,.non,h=>nomatch h|.int _,.bl _,h=>nomatch h|.int _,.str _,h=>nomatch h|.int _,.tup _,h=>nomatch h|.int _,.ref _,h=>nomatch h
 |.str _,.non,h=>nomatch h|.str _,.bl _,h=>nomatch h|.str _,.int _,h=>nomatch h|.str _,.tup _,h=>nomatch h|.str _,.ref _,h=>nomatch h
 |.tup _,.non,h=>nomatch h|.tup _,.bl _,h=>nomatch h|.tup _,.int _,h=>nomatch h|.tup _,.str _,h=>nomatch h|.tup _,.ref _,h=>nomatch h
 |.ref _,.non,h=>nomatch h|.ref _,.bl _,h=>nomatch h|.ref _,.int _,h=>nomatch h|.ref _,.str _,h=>nomatch h|.ref _,.tup _,h=>nomatch h|.ref _,.ref _,h=>nomatch h
theorem R9:∀{a b:List W},Yn a b=true->a=b
 |[],[],_=>rfl|a::as,b::bs,h=>by
  have h':(a.beq b&&Yn as bs)=true:=h;rw[ak]at h';rw[W.eq_of h'.1,R9 h'.2]
 |[],_::_,h=>nomatch h
 |_::_,[],h=>nomatch h
end
section
variable {K:Frag}
def FD (K:Frag)(x:Str)(st:Stmt):Prop:=∃f fd,gT K x x st f fd/\nsIn K mainGlobals x=some (some (.ref f))
def BX {st:Stmt}{f:Addr}{b:Value}{o an:b2}{kV doc pm C ct:Value}(a:nsIn K mainGlobals x=some (some (.ref f)))
  (l:K.lookup f=some ⟨b,o,.func (fnOf x x (Ja st) (g9 st) (qm st) .none kV doc pm an C ct),osl⟩)(c:codeIn K C x=true)(k:keepIn K (.ref f)=true):FD K x st:=⟨f,_,Cm l c k,a⟩
def CD (K:Frag)(x:Str)(i:Int):Prop:=∃t,nsIn K mainGlobals x=some (some (.int i t))
def BH {i:Int}{t:Tok}(a:nsIn K mainGlobals x=some (some (.int i t))):CD K x i:=⟨t,a⟩
def Pn (f:Fn):Prop:=∀ns:bO,ns.length<=63->∃A,f [.ref 0] [.ro (ns.map W.int)]=.ok (.bl true) A
def II (c:K9 H)(S:qM K H a (ns.map V.int)):zO K [a] [.ro (ns.map W.int)] H:=by
 refine⟨rfl,λi j b o o' l g e d m1 _=>?_,λn o h=>?_⟩
 ·have hi:i=0:=by have:=(b8.mp e).1;simp at this;omega
  have f:j=0:=by have:=(b8.mp d).1;simp at this;omega
  omega
 ·have hn:n=0:=by have:=(b8.mp h).1;simp at this;omega
  subst hn;simp at h;subst h;refine⟨a,rfl,ns.map V.int,?_,zF.ints.mpr rfl⟩;rcases S with (z|z)|z
  ·rcases c a with q|⟨ob,xs,q⟩
   ·rw[z]at q;cases q
   ·rw[z]at q;cases q
  ·exact .inl z
  ·exact .inr z
def BJ {l:PySem.W.OpenLaw}{k:Nat}{q:Program}{loose:bT}{d:DefRec}{Kp:Params->Frag}{f:Fn}(ok:Pn f)
  (hn:l.most=some 63)(b:d.params.defaults=[])(i:jK k callerA)(Y:∀(w:World)(h:Heap),YP w h->(Kp w.params).In h)
  (F:∀(w:World)(mg:bY)(c:Addr)(h:Heap),(Kp w.params).In h->h.Ns mainGlobals mg->mg d.name=some (.ref c)->
   ∃fd:FuncData,(∀(s:Shared)(u:Value),BindsTo s fd ⟨[u],[]⟩ [(x,u)])/\∀base:Heap,(Kp w.params).In base->base.Ns mainGlobals mg->yC l.prog w (Kp w.params) mg base wM k c fd [x] (Zt (Kp w.params) 1 f)):
  PySem.W.WalkO q loose XP YP l.row.toRowW d [] (λf vs=>PySem.call f vs):=
 L2.F5 (n:=63) (k:=k) (x:=x) (CX:=λ_=>wM) (sp:=λw=>Zt (Kp w.params) 1 f) hn (by decide) b i Y F (λw H a ns j m S=>by
  refine⟨rfl,[a],[.ro (ns.map W.int)],[.ref 0],II m S,.one ⟨a,rfl,rfl⟩,?_⟩;obtain⟨A,e⟩:=ok ns j;rw[e];exactλg o v _ _ r=>r) λ_ _ _ _ _ z=>z
end
open PySem PySem.Spec PyProof.Rows L2 Mi
@[irreducible] noncomputable def zx (X:Cx)(x:XR)(e:Expr)(m:Ev):Prop:=Mi.SE X x e m
def Xn:@zx=@Mi.SE:=by
 funext X xr e m
 unfold zx
 rfl
@[irreducible] noncomputable def gp (X:Cx)(x:XR)(e:bV)(m:Ea):Prop:=Mi.SA X x e m
def G3:@gp=@Mi.SA:=by
 funext X xr es m
 unfold gp
 rfl
@[irreducible] noncomputable def yh (X:Cx)(x:XR)(e:Expr)(m:Ev):Prop:=Mi.ST X x e m
def Xa:@yh=@Mi.ST:=by
 funext X xr e m
 unfold yh
 rfl
@[irreducible] noncomputable def wL (X:Cx)(x:XR)(e:Expr)(m:Ev):Prop:=Mi.SW X x e m
def Xc:@wL=@Mi.SW:=by
 funext X xr e m
 unfold wL
 rfl
@[irreducible] noncomputable def yN (X:Cx)(x:XR)(st:Stmt)(m:Ex):Prop:=Mi.SS X x st m
def GX:@yN=@Mi.SS:=by
 funext X xr st m
 unfold yN
 rfl
@[irreducible] noncomputable def kP (X:Cx)(x:XR)(st:b3)(m:Ex):Prop:=Mi.Yv X x st m
def GC:@kP=@Mi.Yv:=by
 funext X xr st m
 unfold kP
 rfl
@[irreducible] noncomputable def yX (X:Cx)(x:XR)(t e:Expr)(m:Ei):Prop:=Mi.SI X x t e m
def Xe:@yX=@Mi.SI:=by
 funext X xr tg e m
 unfold yX
 rfl
@[irreducible] noncomputable def kT (X:Cx)(t:Expr)(m:Tg):Prop:=Mi.SG X t m
def GY:@kT=@Mi.SG:=by
 funext X tg m
 unfold kT
 rfl
@[irreducible] noncomputable def Zs (X:Cx)(x:XR)(e:Expr)(m:jD):Prop:=Mi.SF X x e m
def Xl:@Zs=@Mi.SF:=by
 funext X xr e m
 unfold Zs
 rfl
@[irreducible] noncomputable def kU (X:Cx)(x:XR)(e:Expr)(m:jD):Prop:=Mi.SQ X x e m
def Xi:@kU=@Mi.SQ:=by
 funext X xr e m
 unfold kU
 rfl
@[irreducible] noncomputable def w9 (X:Cx)(e:bV)(m:Ev):Prop:=Mi.Yx X e m
def GP:@w9=@Mi.Yx:=by
 funext X es m
 unfold w9
 rfl
@[irreducible] noncomputable def wN (X:Cx)(elt:Expr)(gens:List Comprehension)(sc:Scope)(c:Pos)(d:Nat)(em:Em):Prop:=Mi.SM X elt gens sc c d em
def G2:@wN=@Mi.SM:=by
 funext X elt gens sc cpos d em
 unfold wN
 rfl
section
variable {xr:XR}{K:Frag}{a b c:Expr}{es:bV}{m ma mb mc:Ev}{m1 m2:Ex}{st:Stmt}{rest:b3}
def zX:@zx=@Mi.SE/\@gp=@Mi.SA/\@yh=@Mi.ST/\@wL=@Mi.SW/\@yN=@Mi.SS/\@kP=@Mi.Yv/\@yX=@Mi.SI/\@kT=@Mi.SG/\@Zs=@Mi.SF/\@kU=@Mi.SQ/\@w9=@Mi.Yx/\@wN=@Mi.SM:=⟨Xn,G3,Xa,Xc,GX,GC,Xe,GY,Xl,Xi,GP,G2⟩
def zo {m:Ea}(d:zx X xr e ma)(r:gp X xr es m)(s:starEach (e::es) X.env=(false,eval e X.env)::starEach es X.env:=by rfl):gp X xr (e::es) (zc ma m):=by
 try simp only[zX]at*
 exact PA.imp (jv d r s) λσ H Q ⟨φ,A,ρ,S,re,h⟩=>by
   refine tM.go S re (zZ.mp h) λw A1 b H1 v g l j c=>?_;refine Wr.go j (re.mono l) (qp (zZ.mp g) (λ_ _ z=>z) λ_ _ z=>z.mono l) λo A2 a n v2 f L i q=>?_;exact f a n _ (l.trans L) i (.cons (c.mono L) q)
def zC:gp X xr [] zq:=by
 try simp only[zX]at*
 exact PA.imp j0 λσ H Q ⟨φ,A,ρ,S,re,h⟩=>h φ H [] .refl S .nil
def yP (H:zx X xr a ma)(h:zx X xr b mb):zx X xr (.BinOp a .Add b pos) (zi qL ma mb):=by
 try simp only[zX]at*
 exact Qq (Cd.or (Es.or (Fv.or CJ))) Cw Ep H h
def gC {q:jD}(H:X.calm=true)(hm:X.mg "all"=none)(a:kU X xr e q)(h:Gl X "all":=by rfl)(he:starEach [e] X.env=(false,eval e X.env)::starEach [] X.env:=by rfl):
  zx X xr (.Call (.Name "all" p) [e] [] pos) (mQ kQ q):=by
 try simp only[zX]at*
 exact Kz (FC H) Cf Ds hm (by rfl) a h (by decide) (by decide) he (by rfl)
def ZL {rest:bV}(f:zx X xr a ma)(e:zx X xr (.BoolOp .And (b::rest) pos) mb):zx X xr (.BoolOp .And (a::b::rest) pos) (jl ma mb):=by
 try simp only[zX]at*
 exact PE.imp (C0 f e) λσ H Q ⟨φ,A,ρ,S,re,h⟩=>by
   refine tM.go S re (zZ.mp h) λw A1 d H1 v c l s q=>?_;cases w with
   |bl k=>
    refine⟨k,q,?_⟩;cases k with
    |true=>rw[ah rfl];exact⟨d,A1,ρ,s,re.mono l,qp c (λ_ _ z=>z.mono l) λ_ _ z=>z.mono l⟩|false=>rw[aq ax];exact c d H1 _ l s rfl
   |non=>cases c|int _=>cases c|str _=>cases c|tup _=>cases c|ref _=>cases c|clo _ _ _=>cases c|xc _=>cases c
def yk {i j}:zx X xr (.Constant (.bool i) j pos) (z7 (.bl i)):=by
 try simp only[zX]at*
 exact PE.imp BB λσ H Q ⟨φ,A,ρ,S,r,h⟩=>h φ H _ .refl S rfl
def wH {g:W->W->Hx->R W}(h:kj X op g)(c:zx X xr a ma)(H:zx X xr b mb)(e:op≠.In:=by decide)(d:op≠.NotIn:=by decide):zx X xr (.Compare a [op] [b] pos) (zi g ma mb):=by
 try simp only[zX]at*
 exact let ⟨r,a1,a2,A⟩:=h.ex;R0 a1 a2 A c H (h.mks b e d)
def GZ {o:CmpOp}{g g':W->W->Hx->R W}(h:kj X op g)(h':kj X o g')(e:zx X xr a ma)(d:zx X xr b mb)(H:zx X xr c mc)(hm:lastMarks [op,o] [b,c]=false:=by with_unfolding_all rfl):
  zx X xr (.Compare a [op,o] [b,c] pos) (jZ g g' ma mb mc):=by
 try simp only[zX]at*
 exact let ⟨r,a1,a2,A⟩:=h.ex;let ⟨j,i,f,B⟩:=h'.ex;IW a1 a2 A i f B e d H hm
def zR {k:Nat}{f:Fn}{m:Ea}(F:zL X.prog X.w X.K X.mg X.base k x n f)(r:jK k X.A)(s:gp X kS (e::es) m)(g:Jo m n:=by repeat' (first|exact qJ|refine zS ?_))(j:Gl X x:=by rfl)
  (c:(x==("__debug__":Str))=false:=by decide)(he:starEach (e::es) X.env=(false,eval e X.env)::starEach es X.env:=by rfl)(l:(backTo pos (starEach es X.env)).any (·.1)=false:=by rfl):
  zx X kS (.Call (.Name x p) (e::es) [] pos) (zA f m):=by
 try simp only[zX]at*
 obtain⟨B,fd,P,F,hm,i,o⟩:=F;refine PE.imp (EE F r j hm i o .nil Am s c he l) λσ H Q ⟨φ,A,ρ,S,re,h⟩=>?_;have h':=zZ.mp h;refine⟨φ,A,ρ,S,re,?_⟩;cases E:m ρ A with
 |ok ws A1=>
  rw[E]at h';intro b H1 vs L u q;have v:vs.length=n:=by rw[<- q.length];exact g ρ A ws A1 E
  rw[append_nil];exact⟨v,b,A1,ws,u,q,qp h' (λ_ _ z=>z.mono L) λx A2 z a y d t=>(z a y (L.trans d) t).elim⟩
 |exc x A1=>rw[E]at h';exact h'|bad=>rw[E]at h';exact h'
def Pg {g:W->W->Hx->R W}(h:K2 X op g)(c:zx X xr a ma)(H:zx X xr b mb)(hm:behindInMarks op b=false:=by rfl):zx X xr (.Compare a [op] [b] pos) (zi g ma mb):=by
 try simp only[zX]at*
 exact let ⟨r,a1,a2,A⟩:=h.ex;R0 a1 a2 A c H hm
def De:zx X xr (.Dict [] [] pos) P5:=by
 try simp only[zX]at*
 exact PE.imp He λσ H Q ⟨φ,A,ρ,S,re,h⟩ p a=>by
  obtain⟨l,s⟩:=S.alloc (o:=.dct []) a (u:=.dK []) ⟨[],jY,rfl,.nil⟩;exact h _ _ _ l s ⟨p,rfl,by rw[<- S.len];simp⟩
def Ia {k:Nat}(u:jK k X.A)(y:zx X xr a ma)(x:zx X xr b mb)(t:XQ b:=by intro _ _;rfl):zx X xr (.Subscript a b pos) (zi KH ma mb):=by
 try simp only[zX]at*
 exact PE.imp (F0 (Ah u) y x t) λσ H Q ⟨φ,A,ρ,S,re,h⟩=>by
   refine tM.go S re (zZ.mp h) λw A1 f H1 v B l C j=>?_;refine tM.go C (re.mono l) (qp (zZ.mp B) (λ_ _ z=>z) λ_ _ z=>z.mono l) λg A2 d D v2 c L s q=>?_;unfold KH at c;cases w with
   |ref n=>
    cases g with
    |int i=>
     obtain rfl:=q;dsimp only[K6]at c;cases e:A2[n]? with
     |none=>rw[e]at c;exact c.elim|some o=>cases o with
      |dct kvs=>
       rw[e]at c;dsimp only at c;obtain⟨p,us,rfl,f1,g1,g2,g3⟩:=s.dct (j.mono L) e;cases E:jQ (.inl i) kvs with
       |none=>rw[E]at c;exact c.elim|some w=>
        rw[E]at c;obtain⟨v,m,r⟩:=(Gs (.inl i) g2 g3).1 w E;refine⟨p,v,rfl,?_,c d D v (l.trans L) s r⟩;rw[<- m];exact Jq.k (k:=.inl i) g1
      |_=>rw[e]at c;exact c.elim
    |_=>exact c.elim
   |_=>exact c.elim
def Qf {i:Int}{t:Tok}(g:Gl X x)(hm:X.mg x=some (.int i t))(hd:(x==("__debug__":Str))=false:=by decide):zx X xr (.Name x pos) (z7 (.int i)):=by
 try simp only[zX]at*
 exact PE.imp (ED g hm (v:=.int i) ⟨t,rfl⟩ hd) λσ H Q ⟨φ,A,ρ,S,r,h⟩=>h φ H _ .refl S rfl
def Bb {c:Expr}(f:yh X xr c mc)(i:zx X xr a ma)(g:zx X xr b mb):zx X xr (.IfExp c a b pos) (Oi mc ma mb):=by
 try simp only[zX]at*
 exact PE.imp (FH f i g) λσ H Q ⟨φ,A,ρ,S,re,h⟩=>by
   refine tT.go S re (zZ.mp h) λw A1 d=>?_;cases w with
   |bl k=>
    refine⟨k,rfl,λe H1 l s=>?_⟩;cases k with
    |true=>rw[ah rfl];exact⟨e,A1,ρ,s,re.mono l,qp d (λ_ _ z=>z.mono l) λ_ _ z=>z.mono l⟩|false=>rw[aq ax];exact⟨e,A1,ρ,s,re.mono l,qp d (λ_ _ z=>z.mono l) λ_ _ z=>z.mono l⟩
   |non=>cases d|int _=>cases d|str _=>cases d|tup _=>cases d|ref _=>cases d|clo _ _ _=>cases d|xc _=>cases d
def zB {i j}:zx X xr (.Constant (.int i) j pos) (z7 (.int i)):=by
 try simp only[zX]at*
 exact PE.imp CO λσ H Q ⟨φ,A,ρ,S,r,h⟩=>h φ H _ .refl S rfl
def Ji (t:Ty){P:Pos}(hm:X.mg "isinstance"=none)(c:X.mg x=none)(f:bootBuiltins x=some (.type t.nm))(i:zx X xr e m)(g:Gl X "isinstance":=by rfl)(d:Gl X x:=by rfl)
  (hn:x ≠ "__name__":=by decide)(hd:(x==("__debug__":Str))=false:=by decide)
  (a:starEach [e,.Name x P] X.env=(false,eval e X.env)::starEach [.Name x P] X.env:=by rfl)(j:(backTo pos (starEach [.Name x P] X.env)).any (·.1)=false:=by rfl):
  zx X xr (.Call (.Name "isinstance" p) [e,.Name x P] [] pos) (Zp t m):=by
 try simp only[zX]at*
 exact PE.imp (JS Dm g hm (by rfl) (jv i (jv (E4 d c f (v:=.ty t.nm) rfl hn hd) j0) a) (by decide) (by decide) a j) λσ H Q ⟨φ,A,ρ,S,re,h⟩=>by
   refine tM.go S re (zZ.mp h) λw A1 b H1 v a l s q=>?_;cases E:ZA w A1 with
   |none=>rw[E]at a;exact a.elim|some t'=>
    rw[E]at a;exact⟨v,t',t,rfl,Hs s q E,a b H1 _ l s rfl⟩
def ja (c:zx X xr a ma)(H:zx X xr b mb)(h:Rx b:=by intro _ _;rfl):zx X xr (.Subscript a b pos) (zi zI ma mb):=by
 try simp only[zX]at*
 exact PE.imp (BF DX c H h) (zi.read B8 DY)
def yG {q:jD}(hm:X.mg "len"=none)(H:kU X xr e q)(h:Gl X "len":=by rfl)(he:starEach [e] X.env=(false,eval e X.env)::starEach [] X.env:=by rfl):
  zx X xr (.Call (.Name "len" p) [e] [] pos) (mQ qR q):=by
 try simp only[zX]at*
 exact Kz N2 (λ_ _=>jE) Ef hm (by rfl) H h (by decide) (by decide) he (by rfl)
def j6 {q:jD}(h:Zs X xr e q):zx X xr e (qv q):=by
 try simp only[zX]at*
 exact PE.imp h qv.read
def M5 {P pos':Pos}(t:X.calm=true)(hm:X.mg "list"=none)(f:X.mg "range"=none)(u:zx X xr a ma)(o:Gl X "list":=by rfl)(g:Gl X "range":=by rfl)(s:starEach [a] X.env=[(false,eval a X.env)]:=by rfl)
  (d:starEach [.Call (.Name "range" P) [a] [] pos'] X.env=(false,eval (.Call (.Name "range" P) [a] [] pos') X.env)::starEach [] X.env:=by rfl):
  zx X xr (.Call (.Name "list" p) [.Call (.Name "range" P) [a] [] pos'] [] pos) (J0 ma):=by
 try simp only[zX]at*
 exact PE.imp (Qe (MD t) o hm (by rfl) (jv (EN g f (jv u j0 (by rw[s];rfl)) s) j0 d) (by decide) (by decide) d (by rfl)) λσ H Q ⟨φ,A,ρ,S,re,h⟩=>by
   refine tM.go S re (zZ.mp h) λw A1 b H1 v c L z q=>?_;cases w with
   |int j=>
    obtain rfl:=q;dsimp only at c
    by_cases e:(q9 j&&decide (j.toNat<=zT))=true
    ·rw[ah e]at c
     rw[ak,ag]at e;refine⟨j,rfl,λp m=>⟨p,j,rfl,jY,gx e.1,gy e.2,λl n=>?_⟩⟩;have ln:Le X.K b H1 b (upd H1 p (.rng 0 j)):=Le.new m;have r:zF X.K b (upd H1 p (.rng 0 j)) ((List.range j.toNat).map λ(i:Nat)=>W.int i) (QE j.toNat):=by
      have:=(zF.ints (K:=X.K) (φ:=b) (H:=upd H1 p (.rng 0 j)) (ns:=(List.range j.toNat).map λ(i:Nat)=>(i:Int)) (vs:=QE j.toNat)).mpr (by unfold QE;simp)
      rw[aL]at this;exact this
     obtain⟨y,x,B⟩:=ZR (z.lay m) n r;exact c _ _ _ ((L.trans ln).trans y) x B
    ·rw[aq e]at c;exact c.elim
   |_=>exact c.elim
def yc {m:Ea}(h:gp X xr es m)(H:Jo m n)(hn:n<=zT:=by decide):zx X xr (.List es pos) (qW m):=by
 try simp only[zX]at*
 exact DL h λρ A ws a e=>by rw[H ρ A ws a e];exact gy hn
def JX {q:jD}(H:X.calm=true)(hm:X.mg "max"=none)(a:kU X xr e q)(h:Gl X "max":=by rfl)(he:starEach [e] X.env=(false,eval e X.env)::starEach [] X.env:=by rfl):
  zx X xr (.Call (.Name "max" p) [e] [] pos) (mQ yf q):=by
 try simp only[zX]at*
 exact Kz (ID H) DN Et hm (by rfl) a h (by decide) (by decide) he (by rfl)
def TR (e:X.calm=true)(hm:X.mg "min"=none)(n:zx X xr a ma)(m:zx X xr b mb)(l:Gl X "min":=by rfl)(r:starEach [a,b] X.env=(false,eval a X.env)::starEach [b] X.env:=by rfl)(o:starEach [b] X.env=(false,eval b X.env)::starEach [] X.env:=by rfl)(h:(backTo pos (starEach [b] X.env)).any (·.1)=false:=by rfl):
  zx X xr (.Call (.Name "min" p) [a,b] [] pos) (zi KL ma mb):=by
 try simp only[zX]at*
 exact Xz (IB e) ZW (λφ A H x y u v Q S d c p=>by
   obtain⟨i,j,s,E,q⟩:=ZT (K:=X.K) (f:=λi j=>.int (if j<i then j else i)) (g:=λi j=>.int (if j<i then j else i)) (λ_ _ _ _=>rfl) φ A H x y u v Q S d c p;subst s;subst E;exact⟨i,j,rfl,q⟩) hm (by rfl) n m l (by decide) (by decide) r o h
def Ql (H:zx X xr a ma)(h:zx X xr b mb):zx X xr (.BinOp a .Mod b pos) (zi k5 ma mb):=by
 try simp only[zX]at*
 exact Qq DJ XB (G4 FY λ_ _ _ _=>rfl) H h
def yx (H:zx X xr a ma)(h:zx X xr b mb):zx X xr (.BinOp a .Mult b pos) (zi qw ma mb):=by
 try simp only[zX]at*
 exact Qq (DG.or CT) CZ E9 H h
def Kf (h:zx X xr a ma):zx X xr (.UnaryOp .USub a pos) (jq k6 ma):=by
 try simp only[zX]at*
 exact BW DB (λx A=>by unfold k6;split;exact jE;exact qU) (λφ A H x u Q S q p=>by
  cases u with
  |int i=>obtain rfl:=q;exact⟨i,rfl,p φ H _ .refl S rfl⟩|_=>exact p.elim) h
def gA {j}:zx X xr (.Constant .none j pos) (z7 .non):=by
 try simp only[zX]at*
 exact PE.imp DC λσ H Q ⟨φ,A,ρ,S,r,h⟩=>h φ H _ .refl S rfl
def ES (d:zx X xr a ma):zx X xr (.UnaryOp .Not a pos) (yD ma):=by
 try simp only[zX]at*
 exact PE.imp (CY d) λσ H Q ⟨φ,A,ρ,S,re,h⟩=>by
   refine tM.go S re (zZ.mp h) λw A1 c H1 v b l s q=>?_;cases w with
   |bl k=>exact⟨k,q,b c H1 _ l s rfl⟩|non=>cases b|int _=>cases b|str _=>cases b|tup _=>cases b|ref _=>cases b|clo _ _ _=>cases b|xc _=>cases b
def ZN {op}(h:zx X xr a ma):zx X xr (.BoolOp op [a] pos) ma:=by
 try simp only[zX]at*
 exact D9 h
def Lo {apos C:Pos}(ho:zx X xr a ma)(he:zx X xr b mb)(hf:zx X xr c mc)(m:starEach [b,c] X.env=(false,eval b X.env)::starEach [c] X.env:=by rfl)(P:starEach [c] X.env=(false,eval c X.env)::starEach [] X.env:=by rfl)
  (j:attributeBase a "setdefault" X.env (eval a X.env)=eval a X.env:=by rfl)
  (r:((backTo C (starEach [b,c] X.env)).all (λx=>!x.1)&&(backToKw C (keywordEach [] X.env)).all (λx=>x.1.isSome)
   && decide ([b,c].length+([]:b1).length+(if ([]:b1).isEmpty then 0 else 1)<30))=true:=by rfl)(g:(apos.endLine==C.line)=true:=by rfl)(N:(backTo C (starEach [c] X.env)).any (·.1)=false:=by rfl):
  zx X xr (.Call (.Attribute a "setdefault" apos) [b,c] [] C) (Jk g0 ma mb mc):=by
 try simp only[zX]at*
 exact PE.imp (Pl PySem.F.plainAttrs_dict PySem.F.slot_dict_setdefault PySem.F.type_dict_setdefault Ig ho (jv he (jv hf j0 P) m) j r g m N) λσ H Q ⟨φ,A,ρ,S,re,h⟩=>by
   refine tM.go S re (zZ.mp h) λw A1 φ1 H1 v m I S1 q1=>?_
   by_cases hd:Wm w A1=true
   ·rw[ah hd]at m
    refine⟨IP S1 q1 hd,?_⟩;refine tM.go S1 (re.mono I) (qp (zZ.mp m) (λ_ _ z=>z) λ_ _ z=>z.mono I) λt A2 φ2 H2 v2 P l2 S2 q2=>?_;have l:=I.trans l2;refine tM.go S2 (re.mono l) (qp (zZ.mp P) (λ_ _ z=>z) λ_ _ z=>z.mono l) λw3 A3 f U q d l3 T q3=>?_;have L:=l.trans l3;unfold g0 at d;cases w with
    |ref n=>cases t with
     |int i=>
      obtain rfl:=q2;dsimp only[K6]at d;cases s:A3[n]? with
      |none=>rw[s]at d;exact d.elim|some o=>cases o with
       |dct kvs=>
        rw[s]at d;dsimp only at d;obtain⟨p,us,rfl,f1,g1,g2,g3⟩:=T.dct ((q1.mono l2).mono l3) s;have hlen:us.length=kvs.length:=by have:=congrArg List.length g2;simpa using this
        by_cases J:kvs.length<zT
        ·rw[ah J]at d
         have D:=Gs (.inl i) g2 g3;refine⟨p,us,.inl i,q,rfl,rfl,g1,?_,λv' M=>?_,λhn=>?_⟩
         ·rw[hlen]
          have:sizeLine=16777216:=sizeLine_eq
          unfold zT at J;omega
         ·cases E:jQ (.inl i) kvs with
          |none=>rw[D.2 E]at M;cases M|some y=>
           rw[E]at d;obtain⟨B,e,Z⟩:=D.1 y E;rw[M]at e;cases e;exact d f U _ L T Z
         ·cases E:jQ (.inl i) kvs with
          |some y=>obtain⟨B,e,Z⟩:=D.1 y E;rw[hn]at e;cases e|none=>
           rw[E]at d;dsimp only at d;rw[FE q hn];have ln:Le X.K f U f (upd U p (.dK (us++[(.inl i,q)]))):=Le.upd f1 (λxs z=>by rw[g1]at z;cases z) (λ_ _ z=>by rw[g1]at z;cases z)
           obtain⟨Y,t⟩:=T.write (o:=.dct kvs) (o':=.dct (kvs++[(.inl i,w3)])) s rfl rfl f1 (u:=.dK (us++[(.inl i,q)])) ⟨us++[(.inl i,q)],jY,by simp[g2],by
            rw[aG,aG];exact(g3.mono ln).append (.one (q3.mono ln))⟩
           exact d _ _ _ (L.trans Y) t (q3.mono Y)
        ·rw[aq J]at d;exact d.elim
       |_=>rw[s]at d;exact d.elim
     |_=>exact d.elim
    |_=>exact d.elim
   ·rw[aq hd]at m;exact m.elim
def g7 (H:zx X xr a ma)(h:zx X xr b mb):zx X xr (.BinOp a .Sub b pos) (zi kq ma mb):=by
 try simp only[zX]at*
 exact Qq CV ZW (ZT λ_ _ _ _=>rfl) H h
def GH {q:jD}(H:X.calm=true)(hm:X.mg "sum"=none)(a:kU X xr e q)(h:Gl X "sum":=by rfl)(he:starEach [e] X.env=(false,eval e X.env)::starEach [] X.env:=by rfl):
  zx X xr (.Call (.Name "sum" p) [e] [] pos) (mQ kN q):=by
 try simp only[zX]at*
 exact Kz (Lx H) DI Dq hm (by rfl) a h (by decide) (by decide) he (by rfl)
def jN {x1}{m:Ea}(h:gp X xr es m)(d:Jo m n)(hn:n<=zT:=by decide):zx X xr (.Tuple es x1 pos) (qz m):=by
 try simp only[zX]at*
 exact PE.imp (Cr h) λσ H Q ⟨φ,A,ρ,S,re,h⟩=>by
   have h':=zZ.mp h;cases e:m ρ A with
   |ok ws a=>
    rw[e]at h';refine⟨φ,A,ρ,S,re,?_⟩;rw[e];intro b H1 vs l s q;refine⟨by rw[<- q.length,d ρ A ws a e];exact gy hn,λp c=>?_⟩
    obtain⟨a1,a2,f⟩:=ZO s c q;exact h' _ _ _ (l.trans a1) a2 f
   |exc x a=>rw[e]at h';refine⟨φ,A,ρ,S,re,?_⟩;rw[e];exact h'|bad=>rw[e]at h';exact h'.elim
def gz {q:jD}(hm:X.mg "tuple"=none)(H:kU X xr e q)(h:Gl X "tuple":=by rfl)(he:starEach [e] X.env=(false,eval e X.env)::starEach [] X.env:=by rfl):
  zx X xr (.Call (.Name "tuple" p) [e] [] pos) (mQ j4 q):=by
 try simp only[zX]at*
 exact BY NF (λ_ _=>jE) EL hm (by rfl) H h (by decide) (by decide) he (by rfl)
def zh (i:Nat)(b:X.N[i]? =some x:=by rfl)(a:Wc X.env.scope x:=by first|exact Or.inl rfl|exact Or.inr (Or.inl rfl)|exact Or.inr (Or.inr rfl))(hd:(x==("__debug__":Str))=false:=by decide)
  (d:(x==("__classdict__":Str))=false:=by decide):zx X xr (.Name x pos) (qx i):=by
 try simp only[zX]at*
 exact PE.imp (C7 b a hd d) λσ H Q ⟨φ,A,ρ,S,r,h⟩=>by
  unfold qx at h;cases e:ρ[i]? with
  |none=>rw[e]at h;cases h|some o=>cases o with
   |none=>rw[e]at h;cases h|some w=>
    rw[e]at h;obtain⟨v,f,c⟩:=r.get i w e;exact⟨v,f,h φ H v .refl S c⟩
def Fy {iter:Expr}{mi:Ei}{tw:Tg}{m:Ev}{em:Em}(nl:Nat)(cap:bS)(c:X.calm=true)(S:gB X sc)(p:ZY X.N N sc nl cap=true)(hw:yX X xr tg iter mi)
  (n:∀s H fp,kT (jG X N sc s H fp yn) tg tw/\w9 (jG X N sc s H fp yn) ifs m/\wN (jG X N sc s H fp yn) elt (⟨tg,iter,ifs,0⟩::gs) sc pos 0 em)
  (b:∀g',gs[0]? =some g'->g'.is_async=0:=by intro _ h;cases h<;>rfl)
  (a:∀x,foldedSetIterable iter X.env x=pure x:=by intro _;rfl):Zs X xr (.ListComp elt (⟨tg,iter,ifs,0⟩::gs) sc pos) (zN nl cap mi tw m em):=by
 try simp only[zX]at*
 exact PE.imp (Dw (g:=tG X.K tw) (ti:=tT X.K kS m) (tm:=tE X.K em) c S p b hw n a) zN.read
def kX (i j:Nat){y:Str}{q:Pos}{k:Nat}(m:X.calm=true)(h:X.N.Nodup)(hi:X.N[i]? =some x:=by rfl)(f:Loc X.env.scope x:=by first|exact Or.inl rfl|exact Or.inr rfl)(hf:X.fn x=true∨X.env.scope.names.lookup x=some .local:=by first|exact .inl rfl|exact .inr rfl)
  (g:X.N[j]? =some y:=by rfl)(d:Loc X.env.scope y:=by first|exact Or.inl rfl|exact Or.inr rfl)(l:X.fn y=true∨X.env.scope.names.lookup y=some .local:=by first|exact .inl rfl|exact .inr rfl):kT X (.Tuple [.Name x p,.Name y q] k pos) (jf i j):=by
 try simp only[zX]at*
 exact PG.imp (GV m (Q4 (Q5 h hi f hf) (Q4 (Q5 h g d l) GG))) λv σ H Q ⟨φ,A,ρ,w,b,S,re,c,e,K⟩=>by
   unfold jf at e
   split at e
   ·rename_i x1 Y
    have E:=aD e;subst E;obtain⟨a,vs,rfl,s,rs⟩:=c;obtain⟨v1,t,rfl,o,v2,r,rfl,n,rfl⟩:=rs;exact⟨a,[v1,v2],rfl,s,rfl,v1,[v2],rfl,v2,[],rfl,rfl,K _ ((re.set o).set n)⟩
   ·cases e
def L6 (i j k:Nat){y z:Str}{q r pp:Pos}{o:Nat}(f:X.calm=true)(c:X.N.Nodup)(hi:X.N[i]? =some x:=by rfl)(u:Loc X.env.scope x:=by first|exact Or.inl rfl|exact Or.inr rfl)(hf:X.fn x=true∨X.env.scope.names.lookup x=some .local:=by first|exact .inl rfl|exact .inr rfl)
  (D:X.N[j]? =some y:=by rfl)(t:Loc X.env.scope y:=by first|exact Or.inl rfl|exact Or.inr rfl)(I:X.fn y=true∨X.env.scope.names.lookup y=some .local:=by first|exact .inl rfl|exact .inr rfl)
  (C:X.N[k]? =some z:=by rfl)(s:Loc X.env.scope z:=by first|exact Or.inl rfl|exact Or.inr rfl)(E:X.fn z=true∨X.env.scope.names.lookup z=some .local:=by first|exact .inl rfl|exact .inr rfl):
  kT X (.Tuple [.Name x p,.Tuple [.Name y q,.Name z r] o pp] n pos) (Ko i j k):=by
 try simp only[zX]at*
 exact PG.imp (GV f (Q4 (Q5 c hi u hf) (Q4 (GV f (Q4 (Q5 c D t I) (Q4 (Q5 c C s E) GG))) GG))) λv σ H Q ⟨φ,A,ρ,w,g,S,re,m,e,K⟩=>by
   unfold Ko at e
   split at e
   ·rename_i x1 Y Z
    have T:=aD e;subst T;obtain⟨a,vs,rfl,B,rs⟩:=m;obtain⟨v1,r1,rfl,P,v2,r2,rfl,M,rfl⟩:=rs;obtain⟨a2,l,rfl,h,b⟩:=M;obtain⟨d,r3,rfl,L,v4,U,rfl,J,rfl⟩:=b;exact⟨a,[v1,.ref a2],rfl,B,rfl,v1,[.ref a2],rfl,.ref a2,[],rfl,a2,[d,v4],rfl,h,rfl,d,[v4],rfl,v4,[],rfl,rfl,rfl,K _ (((re.set P).set L).set J)⟩
   ·cases e
def qg (i:Nat)(b:X.N.Nodup)(hi:X.N[i]? =some x:=by rfl)(h:Loc X.env.scope x:=by first|exact Or.inl rfl|exact Or.inr rfl)(hf:X.fn x=true∨X.env.scope.names.lookup x=some .local:=by first|exact .inl rfl|exact .inr rfl):kT X (.Name x pos) (zE i):=by
 try simp only[zX]at*
 exact PG.imp (Q5 b hi h hf) λv σ H Q ⟨φ,A,ρ,w,a,S,re,q,e,k⟩=>by
   have E:ρ.set i (some w)=a:=aD e;subst E;exact k _ (re.set q)
def jm (h:zx X xr e m):yX X xr tg e (zY m):=by
 try simp only[zX]at*
 exact PI.imp (Cs h) λσ H Rr ⟨φ,A,ρ,S,re,h⟩=>by
  refine tM.go S re (zZ.mp h) λw A1 g H1 v d T P Q=>?_;unfold K1 at d;cases e:z0 w A1 with
  |none=>rw[e]at d;exact d.elim|some ws=>
   rw[e]at d;dsimp only at d;cases w with
   |tup us=>
    obtain⟨a,Y,rfl,j,q⟩:=Q;refine⟨a,rfl,.inr ⟨⟨Y,j⟩,d g H1 _ T P λi c l f lw s=>⟨λC b=>?_,λb=>?_⟩⟩⟩
    ·have E:us[i]? =some C:=aD b
     obtain⟨y,p,I⟩:=(q.monoW lw).get E;refine⟨⟨Y,y,lw.tp _ _ j,p⟩,λx H3 B=>?_⟩;obtain⟨N,M⟩:=B;subst N;have e7:=M Y (lw.tp _ _ j);rw[p]at e7;cases e7;exact⟨.refl,s,I⟩
    ·have E:us[i]? =none:=aD b
     refine⟨Y,lw.tp _ _ j,?_⟩;rw[<- q.length];exact List.getElem?_eq_none_iff.mp E
   |ref n=>
    obtain⟨a,rfl,j⟩:=Q;have read:∀{c l f us},Zo X.K g H1 c l->zO X.K c f l->z0 (.ref n) f=some us->∃Y,qM X.K l a Y/\zF X.K c l us Y:=λ {c l f us} lw s es=>by
     obtain⟨Z,Y,U,z,r⟩:=YU (w:=.ref n) (v:=.ref a) s ⟨a,rfl,lw.ex _ _ j⟩ es;cases U;unfold z0 at es;dsimp only at es;cases L:f[n]? with
     |none=>rw[L]at es;cases es|some o=>
      rw[L]at es;obtain⟨Z,q,r⟩:=s.ob n o L;rw[lw.ex _ _ j]at q;cases q;cases o with
      |lst xs=>cases es;obtain⟨Y,d,J⟩:=r;exact⟨Y,qM.of d,J⟩|ro xs=>cases es;obtain⟨Y,d,J⟩:=r;exact⟨Y,d.sq,J⟩|dct xs=>cases es|tab _ _=>cases es
    obtain⟨u,D,_⟩:=read ⟨λ_ _ h=>h,λ_ _ h=>h,λ_ _ _ h=>h⟩ P e;refine⟨a,rfl,.inl ⟨⟨u,D⟩,d g H1 _ T P λi c l f lw s=>⟨λC b=>?_,λb=>?_⟩⟩⟩
    ·dsimp only at b
     cases es:z0 (.ref n) f with
     |none=>rw[es]at b;cases b|some us=>
      rw[es]at b;have E:us[i]? =some C:=aD b;obtain⟨Y,t,r⟩:=read lw s es;obtain⟨y,p,I⟩:=r.get E;refine⟨⟨Y,y,t,p⟩,λx H3 B=>?_⟩;obtain⟨N,M⟩:=B;subst N;have e7:=M Y t;rw[p]at e7;cases e7;exact⟨.refl,s,I⟩
    ·dsimp only at b
     cases es:z0 (.ref n) f with
     |none=>rw[es]at b;cases b|some us=>
      rw[es]at b;have E:us[i]? =none:=aD b;obtain⟨Y,t,r⟩:=read lw s es;refine⟨Y,t,?_⟩;rw[<- r.length];exact List.getElem?_eq_none_iff.mp E
   |non=>cases e|bl _=>cases e|clo _ _ _=>cases e|xc _=>cases e|int _=>cases e|str _=>cases e
def Qi (g:Gl X "enumerate")(hm:X.mg "enumerate"=none)(e:zx X xr a ma)(s:starEach [a] X.env=[(false,eval a X.env)]:=by rfl):yX X xr (.Tuple elts kk tpos) (.Call (.Name "enumerate" p) [a] [] pos) (yA ma):=by
 try simp only[zX]at*
 exact PI.imp (E8 g hm (jv e j0 (by rw[s];rfl)) s) λσ H r ⟨φ,A,ρ,S,re,h⟩=>by
   refine tM.go S re (zZ.mp h) λw A1 c H1 v b l d q=>?_;cases es:z0 w A1 with
   |none=>rw[es]at b;exact b.elim|some ws=>
    rw[es]at b;obtain⟨p,y,rfl,z,Z⟩:=Y3 d q es;exact⟨p,ZX w,y,rfl,z,b c H1 _ l d (Ay q)⟩
def L3 {apos C:Pos}(m:zx X xr a ma)(d:attributeBase a "items" X.env (eval a X.env)=eval a X.env:=by rfl)(e:(apos.endLine==C.line)=true:=by rfl):
  yX X xr (.Tuple elts kk tpos) (.Call (.Attribute a "items" apos) [] [] C) (Ya ma):=by
 try simp only[zX]at*
 exact PI.imp (Fb m d e) λσ H r ⟨φ,A,ρ,S,re,h⟩=>by
   unfold Ya at h;cases A with
   |cons o A=>exact h.elim|nil=>
    dsimp only at h;have i:φ=[]:=by have:=S.len;simpa using this
    subst i;refine tM.go S re (zZ.mp h) λw A1 j H1 v f l s q=>?_
    split at f
    ·rename_i kvs
     by_cases hn:qP (kvs.map (·.2))=true
     ·rw[ah hn]at f
      obtain⟨p,us,rfl,f1,g1,g2,g3⟩:=s.dct q (kvs:=kvs) rfl;have h0:H p=none:=by
       rcases l.nw 0 p f1 with z|z
       ·simp at z
       ·exact z
      refine⟨p,us,rfl,g1,λo=>?_⟩;have tp:∀c vs,qE X.K H1 c vs->qE X.K (upd H1 p (.frz o (.dK us))) c vs:=λc vs t=>Kj t (λxs z=>by rw[g1]at z;cases z) (λ_ _ z=>by rw[g1]at z;cases z)
      have le:Le X.K [] H [] (upd H1 p (.frz o (.dK us))):=by
       refine⟨λn c z=>z,λc vs t=>tp c vs (l.tp c vs t),λc u b nn=>?_,λn c z=>.inl z,λc z=>?_,λc u U b=>?_⟩
       ·rw[qC (wj b h0)];exact l.fr c u b nn
       ·by_cases g:c=p
        ·rw[g];exact h0
        ·rw[qC g]at z;exact l.st c z
       ·rw[qC (wj b h0)];exact l.fz c u U b
      exact f [] _ _ le zO.none (B9 (o:=o) jY g2 (g3.nrm tp (λc u U b=>by rw[qC (BD b g1 (by intro z;cases z))];exact b) hn) hn)
     ·rw[aq hn]at f;exact f.elim
    ·exact f.elim
def j7 (g:Gl X "range")(hm:X.mg "range"=none)(e:zx X xr a ma)(s:starEach [a] X.env=[(false,eval a X.env)]:=by rfl):yX X xr tg (.Call (.Name "range" p) [a] [] pos) (jI ma):=by
 try simp only[zX]at*
 exact PI.imp (IL g hm (jv e j0 (by rw[s];rfl)) s) λσ H r ⟨φ,A,ρ,S,re,h⟩=>by
   refine tM.go S re (zZ.mp h) λw A1 c H1 v b l i q=>?_;cases w with
   |int j=>
    obtain rfl:=q;dsimp only at b
    by_cases d:q9 j=true
    ·rw[ah d]at b
     obtain⟨f,B⟩:=gx d;exact⟨j,rfl,f,B,b c H1 _ l i R6⟩
    ·rw[aq d]at b;exact b.elim
   |non=>exact b.elim|bl _=>exact b.elim|str _=>exact b.elim|tup _=>exact b.elim|ref _=>exact b.elim|clo _ _ _=>exact b.elim|xc _=>exact b.elim
def JY (n:Gl X "range")(hm:X.mg "range"=none)(r:zx X xr a ma)(o:zx X xr b mb)(s:starEach [a,b] X.env=[(false,eval a X.env),(false,eval b X.env)]:=by rfl)(d:starEach [b] X.env=[(false,eval b X.env)]:=by rfl):yX X xr tg (.Call (.Name "range" p) [a,b] [] pos) (yT ma mb):=by
 try simp only[zX]at*
 exact PI.imp (L8 n hm (jv r (jv o j0 (by rw[d];rfl)) (by rw[s,d])) s d) λσ H I ⟨φ,A,ρ,S,re,h⟩=>by
   refine tM.go S re (zZ.mp h) λw A1 g H1 v t l D Q=>?_;refine tM.go D (re.mono l) (qp (zZ.mp t) (λ_ _ z=>z) λ_ _ z=>z.mono l) λm A2 f E v2 c L C q=>?_;cases w with
   |int i=>
    obtain rfl:=Q;cases m with
    |int j=>
     obtain rfl:=q;dsimp only at c
     by_cases e:(q9 i&&q9 j)=true
     ·rw[ah e]at c
      rw[ak]at e;obtain⟨y,x⟩:=gx e.1;obtain⟨u,B⟩:=gx e.2;exact⟨i,j,rfl,⟨y,x,u,B⟩,c f E _ (l.trans L) C R6⟩
     ·rw[aq e]at c;exact c.elim
    |non=>exact c.elim|bl _=>exact c.elim|str _=>exact c.elim|tup _=>exact c.elim|ref _=>exact c.elim|clo _ _ _=>exact c.elim|xc _=>exact c.elim
   |non=>exact c.elim|bl _=>exact c.elim|str _=>exact c.elim|tup _=>exact c.elim|ref _=>exact c.elim|clo _ _ _=>exact c.elim|xc _=>exact c.elim
def Kh (o:Gl X "zip")(hm:X.mg "zip"=none)(t:zx X xr a ma)(r:zx X xr b mb)(g:starEach [a,b] X.env=(false,eval a X.env)::starEach [b] X.env:=by rfl)(e:starEach [b] X.env=(false,eval b X.env)::starEach [] X.env:=by rfl)(n:(backTo pos (starEach [b] X.env)).any (·.1)=false:=by rfl):
  yX X xr (.Tuple elts kk tpos) (.Call (.Name "zip" p) [a,b] [] pos) (wJ ma mb):=by
 try simp only[zX]at*
 exact PI.imp (CK o hm (jv t (jv r j0 e) g) g n) λσ H E ⟨φ,A,ρ,S,re,h⟩=>by
   refine tM.go S re (zZ.mp h) λw A1 i H1 v u l x m=>?_;refine tM.go x (re.mono l) (qp (zZ.mp u) (λ_ _ z=>z) λ_ _ z=>z.mono l) λf A2 d B v2 c L s Q=>?_;cases es:z0 w A2 with
   |none=>rw[es]at c;exact c.elim|some us=>
    cases es':z0 f A2 with
    |none=>rw[es,es']at c;exact c.elim|some vs=>
     rw[es,es']at c;have q:=m.mono L;obtain⟨p,xs,rfl,j,D⟩:=Y3 s q es;obtain⟨P,y,rfl,Z,C⟩:=Y3 s Q es';exact⟨p,P,ZX w,ZX f,xs,y,rfl,j,Z,c d B _ (l.trans L) s (BP q Q)⟩
def E2 {d:Nat}{me:Ev}(x:∀e s,X.xe e s->False)(he:zx X kS elt me)(m:gens[d+1]? =none):wN X elt gens sc pos d (zH me):=by
 try simp only[zX]at*
 exact kR.imp (Ft x he m) λD σ H Q ⟨φ,A,ρ,acc,y,S,re,o,n,r,h⟩=>by
   refine tM.go S re (Gv (zZ.mp h)) λw A1 g H1 v f l p q=>?_;obtain⟨c,n1⟩:=l.off o n
   by_cases z:acc.length<zT
   ·rw[ah z]at f
    have j:=r.length;refine⟨y,c,?_,?_⟩
    ·rw[<- j]
     have:sizeLine=16777216:=sizeLine_eq
     unfold zT at z;omega
    ·exact f g _ σ _ (l.toD.trans (yo.upd c)) n1 (p.off c n1) ⟨re.len,λi w e=>let ⟨v,a,b⟩:=re.get i w e;⟨v,a,(b.mono l).monoD (yo.upd c)⟩⟩ jY
      (((r.mono l).monoD (yo.upd c)).append (.one (q.monoD (yo.upd c))))
   ·rw[aq z]at f;exact f.elim
def J3 {iter:Expr}{d:Nat}{mi:Ei}{tw:Tg}{m:Ev}{em:Em}(o:∀e s,X.xe e s->False)(v:X.calm=true)(u:gens[d+1]? =some ⟨tg,iter,ifs,0⟩)(w:∀g',gens[d+2]? =some g'->g'.is_async=0)
  (hw:yX X kS tg iter mi)(t:kT X tg tw)(hi:w9 X ifs m)(hm:wN X elt gens sc pos (d+1) em)(q:∀x,foldedSetIterable iter X.env x=pure x:=by intro _;rfl):wN X elt gens sc pos d (yQ mi tw m em):=by
 try simp only[zX]at*
 exact kR.imp (IT o v u w hw t hi hm q) λD σ H Q ⟨φ,A,ρ,acc,Y,S,re,y,n,f,h⟩=>by
   refine⟨φ,A,ρ,S,re,qp (Gv (zZ.mp h)) (λj A1 C c H1 J l M i=>?_) λ_ _ z=>z⟩;obtain⟨I,n1⟩:=l.off y n;exact je.read i M (re.mono l) I n1 (f.mono l) (qp C (λp A2 B a P b zs L N K r E g=>B a P b zs (l.toD.trans L) N K r E g) λ_ _ z=>z)
def j3 (h:zx X xr e m):kU X xr e (qi m):=by
 try simp only[zX]at*
 exact PE.imp h λσ H Q ⟨φ,A,ρ,S,re,h⟩=>by
  refine tM.go S re (zZ.mp h) λw A1 c H1 v b l s q=>?_;cases e:z0 w A1 with
  |none=>rw[e]at b;exact b.elim|some ws=>
   rw[e]at b;obtain⟨a,y,rfl,d,E⟩:=YU s q e;exact b c H1 a y l s d E
def jO {q:jD}(h:Zs X xr e q):kU X xr e q:=by
 try simp only[zX]at*
 exact PE.imp h λσ H Q ⟨φ,A,ρ,S,re,h⟩=>
  ⟨φ,A,ρ,S,re,qp h (λws A1 c a H1 D y l s h0 b n r=>c a H1 D y l s (.inl (qM.of b)) r) λ_ _ z=>z⟩
def TQ {o i:Expr}{mo mi:Ev}(ho:zx X xr o mo)(hi:zx X xr i mi)(he:zx X xr e m)
  (ha:∀c I new,augStore i c I new=(do holding [new,c,I] (setItem c I new);release [new,c,I] [];pure .next):=by intros;rfl):yN X xr (.AugAssign (.Subscript o i tpos) .Add e pos) (wG mo mi m):=by
 try simp only[zX]at*
 exact PS.imp (FQ ho hi IU he DA set_list ha) λD σ H ⟨φ,A,ρ,S,re,h⟩=>by
   refine tM.go S re (zZ.mp h) λU A1 N H1 v1 h1 q S1 Q=>?_;refine tM.go S1 (re.mono q) (qp (zZ.mp h1) (λ_ _ z=>z) λ_ _ z=>z.mono q) λw A2 M H2 v2 a j B q2=>?_;have l:=q.trans j;cases U with
   |ref n=>cases w with
    |int k=>
     obtain rfl:=q2;dsimp only at a
     by_cases h0:0<=k
     ·rw[ah h0]at a
      cases d:(A2[n]?:Option O) with
      |none=>rw[d]at a;exact a.elim|some ob=>cases ob with
       |lst ws=>
        rw[d]at a;dsimp only at a;obtain⟨p,vs,rfl,f1,g1,Z⟩:=B.lst (Q.mono j) d;cases E:ws[k.toNat]? with
        |none=>rw[E]at a;exact a.elim|some P=>cases P with
         |int x=>
          rw[E]at a;dsimp only at a;obtain⟨v,hv,Y⟩:=Z.get E;obtain rfl:=Y;refine⟨p,vs,k,_,rfl,rfl,h0,g1,hv,?_⟩;refine tM.go B (re.mono l) (qp (zZ.mp a) (λ_ _ z=>z) λ_ _ z=>z.mono l) λT J g H3 v3 b t S3 q3=>?_;have L:=l.trans t;cases T with
          |int y=>
           obtain rfl:=q3;dsimp only at b;refine⟨x,y,rfl,rfl,?_⟩;refine RB (K:=X.K) g J H3 (.ref p) (.int k) (.int (x+y)) (.ref n) (.int k) (.int (x+y)) _ S3 ((Q.mono j).mono t) rfl rfl ?_;cases r:kO (.ref n) (.int k) (.int (x+y)) J with
           |ok u C=>
            rw[r]at b;exactλf H4 s S4=>b f H4 σ (L.trans s) S4 (re.mono (L.trans s))
           |exc z C=>exact absurd r (RZ _ _ _ _ z C)|bad=>rw[r]at b;exact b.elim
          |_=>exact b.elim
         |_=>rw[E]at a;exact a.elim
       |_=>rw[d]at a;exact a.elim
     ·rw[aq h0]at a;exact a.elim
    |_=>exact a.elim
   |_=>cases w<;>exact a.elim
def Qn:yN X xr st ZZ:=by
 try simp only[zX]at*
 exactλpins s σ H D I ⟨φ,A,ρ,S,re,h⟩=>h.elim
def zu (a:yN X xr st m1)(d:kP X xr rest m2):kP X xr (st::rest) (zp m1 m2):=by
 try simp only[zX]at*
 exact yF.imp (Hi a d) λD σ H ⟨φ,A,ρ,S,re,h⟩=>by
   refine⟨φ,A,ρ,S,re,qp (zZ.mp h) (λf A1 a=>?_) λ_ _ z=>z⟩;cases f with
   |nx ρ1=>exactλb e c l s r=>⟨b,A1,ρ1,s,r,qp a (λ_ _ z=>z.mono l) λ_ _ z=>z.mono l⟩|rt w=>exact a|bk ρ1=>exact a|ct ρ1=>exact a
def yt (he:zx X xr e m)(s:swapsWith e none pos.line X.env=pure false:=by rfl):yN X xr (.Expr e pos) (jS m):=by
 try simp only[zX]at*
 exact PS.imp (ER he s) λD σ H ⟨φ,A,ρ,S,re,h⟩=>tM.go S re (zZ.mp h) λw A1 a H1 v b l c q=>b a H1 σ l c (re.mono l)
def y9 {iter:Expr}{mi:Ei}{tw:Tg}(hp:PassesOwn (model X.prog X.w) X.A X.env X.xe)(hc:X.calm=true)(hi:yX X xr tg iter mi)(hg:kT X tg tw)(hb:kP X xr body m1)
  (hs:∀x,foldedSetIterable iter X.env x=pure x:=by intro _;rfl):yN X xr (.For tg iter body [] pos) (jA mi tw m1):=by
 try simp only[zX]at*
 exact PS.imp (D4 hp hc hi hg hb hs) λD σ H ⟨φ,A,ρ,S,re,h⟩=>by
   refine⟨φ,A,ρ,S,re,qp (zZ.mp h) (λj A1 h1 g H1 J N S1 jr=>?_) λ_ _ z=>z⟩;refine⟨λi f d C=>Of X.K xr j (turn tw m1) D g H1 f i d C,
    ⟨j.len,g,A1,ρ,.refl,S1,re.mono N,qp h1 (λ_ _ z=>z.mono N) λ_ _ z=>z.mono N⟩,?_⟩
   rintro i f I U ⟨c,A2,p,t,T,q,b⟩
   obtain⟨j1,j2⟩:=jr i c U A2 ⟨t.ex,t.tp,t.fz⟩ T;cases E:j.at_ A2 i with
   |none=>cases f<;>(unfold yd at b;rw[E]at b;exact b.elim)|some o=>
    cases o with
    |none=>
     left
     refine⟨j2 E,?_⟩;cases f<;>(unfold yd at b;rw[E]at b;exact b c U I .refl T q)
    |some w=>
     right
     obtain⟨go,yl⟩:=j1 w E;cases f with
     |zero=>unfold yd at b;rw[E]at b;exact b.elim|succ f=>
      unfold yd at b;rw[E]at b;refine⟨go,λd C=>Of X.K xr j (turn tw m1) D g H1 f (i+1) d C,λd C z=>⟨f,br _,z⟩,λx H3 y=>?_⟩;obtain⟨L,Q,q3⟩:=yl x H3 y;have u:=zZ.mp b;unfold turn at u;cases P:tw w p with
      |none=>rw[P]at u;exact u.elim|some n=>
       rw[P]at u;refine⟨c,A2,p,w,n,Q,q.mono L,q3,P,λZ M=>?_⟩;refine⟨c,A2,n,Q,M,qp u (λfl Y B=>?_) λ_ _ z=>z.mono L⟩;cases fl with
       |nx e=>exactλa v m l s r=>⟨a,Y,e,(t.trans L).trans l,s,r,qp B (λ_ _ z=>z.mono (L.trans l)) λ_ _ z=>z.mono (L.trans l)⟩|ct e=>exactλa v m l s r=>⟨a,Y,e,(t.trans L).trans l,s,r,qp B (λ_ _ z=>z.mono (L.trans l)) λ_ _ z=>z.mono (L.trans l)⟩|bk e=>exactλa v m l s r=>B a v m (L.trans l) s r|rt w4=>exactλa v v4 l s q4=>B a v v4 (L.trans l) s q4
def jj {sa s:b3}(e:yh X xr c mc)(g:kP X xr sa m1)(f:kP X xr s m2):yN X xr (.If c sa s pos) (qy mc m1 m2):=by
 try simp only[zX]at*
 exact PS.imp (Bk e g f) λD σ H ⟨φ,A,ρ,S,re,h⟩=>by
   refine tT.go S re (zZ.mp h) λw A1 a=>?_;cases w with
   |bl k=>
    refine⟨k,rfl,λb H1 l d=>?_⟩;cases k with
    |true=>rw[ah rfl];exact⟨b,A1,ρ,d,re.mono l,qp a (λ_ _ z=>z.mono l) λ_ _ z=>z.mono l⟩|false=>rw[aq ax];exact⟨b,A1,ρ,d,re.mono l,qp a (λ_ _ z=>z.mono l) λ_ _ z=>z.mono l⟩
   |non=>cases a|int _=>cases a|str _=>cases a|tup _=>cases a|ref _=>cases a|clo _ _ _=>cases a|xc _=>cases a
def zD:kP X xr [] zw:=by
 try simp only[zX]at*
 exact yF.imp Dn λD σ H ⟨φ,A,ρ,S,re,h⟩=>h φ H σ .refl S re
def qf (he:zx X xr e m):yN X xr (.Return (some e) pos) (qt m):=by
 try simp only[zX]at*
 exact PS.imp (Bc he) λD σ H ⟨φ,A,ρ,S,re,h⟩=>tM.go S re (zZ.mp h) λw A1 a H1 v b l s q=>b a H1 v l s q
def qF (i:Nat){pos':Pos}(a:X.N.Nodup)(he:zx X xr e m)(hi:X.N[i]? =some x:=by rfl)(h:Loc X.env.scope x:=by first|exact Or.inl rfl|exact Or.inr rfl)(H:swapsWith e (some (.Name x pos')) pos.line X.env=pure false:=by rfl)
  (hf:X.fn x=true∨X.env.scope.names.lookup x=some .local:=by first|exact .inl rfl|exact .inr rfl):yN X xr (.Assign [.Name x pos'] e pos) (z8 i m):=by
 try simp only[zX]at*
 exact PS.imp (C4 a hi h he H hf) z8.read
def JH (i:Nat){iter:Expr}{mi:Ei}{tw:Tg}{m:Ev}{em:Em}{P a:Pos}(nl:Nat)(cap:bS)(j:X.N.Nodup)
  (e:X.calm=true)(S:gB X sc)(p:ZY X.N N sc nl cap=true)(hw:yX X xr tg iter mi)
  (n:∀s H fp,kT (jG X N sc s H fp yn) tg tw/\w9 (jG X N sc s H fp yn) ifs m/\wN (jG X N sc s H fp yn) elt (⟨tg,iter,ifs,0⟩::gs) sc pos 0 em)
  (b:X.N[i]? =some x:=by rfl)(c:X.env.scope.names.lookup x=some .local:=by rfl)
  (w:swapsWith (.ListComp elt (⟨tg,iter,ifs,0⟩::gs) sc pos) (some (.Name x P)) a.line X.env=pure true:=by rfl)
  (f:∀g',gs[0]? =some g'->g'.is_async=0:=by intro _ h;cases h<;>rfl)
  (d:∀x,foldedSetIterable iter X.env x=pure x:=by intro _;rfl):yN X xr (.Assign [.Name x P] (.ListComp elt (⟨tg,iter,ifs,0⟩::gs) sc pos) a) (z8 i (qv (zN nl cap mi tw m em))):=by
 try simp only[zX]at*
 exact PS.imp (L2.M9 (g:=tG X.K tw) (ti:=tT X.K kS m) (tm:=tE X.K em) j b c w e S p f hw n d) λD σ H h=>zN.read σ H _ (qv.read σ H _ (z8.read D σ H h))
def wm (h:wL X xr e m):yh X xr e m:=by
 try simp only[zX]at*
 exact PW.pt h
def jb {g:W->W->Hx->R W}(h:kj X op g)(c:zx X xr a ma)(H:zx X xr b mb)(e:op≠.In:=by decide)(d:op≠.NotIn:=by decide):yh X xr (.Compare a [op] [b] pos) (zi g ma mb):=by
 try simp only[zX]at*
 exact let ⟨r,a1,a2,A⟩:=h.ex;Pc a1 a2 A c H (h.mks b e d)
def RW {o:CmpOp}{g g':W->W->Hx->R W}(h:kj X op g)(h':kj X o g')(e:zx X xr a ma)(d:zx X xr b mb)(H:zx X xr c mc)(hm:lastMarks [op,o] [b,c]=false:=by with_unfolding_all rfl):
  yh X xr (.Compare a [op,o] [b,c] pos) (jZ g g' ma mb mc):=by
 try simp only[zX]at*
 exact let ⟨r,a1,a2,A⟩:=h.ex;let ⟨j,i,f,B⟩:=h'.ex;HX a1 a2 A i f B e d H hm
def RS {g:W->W->Hx->R W}(h:K2 X op g)(c:zx X xr a ma)(H:zx X xr b mb)(hm:behindInMarks op b=false:=by rfl):yh X xr (.Compare a [op] [b] pos) (zi g ma mb):=by
 try simp only[zX]at*
 exact let ⟨r,a1,a2,A⟩:=h.ex;Pc a1 a2 A c H hm
def wy (f:yh X xr a ma):yh X xr (.UnaryOp .Not a pos) (yD ma):=by
 try simp only[zX]at*
 exact PT.imp (DD f) λσ H Q ⟨φ,A,ρ,S,re,h⟩=>by
   refine tT.go S re (zZ.mp h) λw A1 c=>?_;cases w with
   |bl k=>obtain⟨b,e,q⟩:=c;cases e;exact⟨k,rfl,λd H1 l s=>q d H1 l s⟩|non=>cases c|int _=>cases c|str _=>cases c|tup _=>cases c|ref _=>cases c|clo _ _ _=>cases c|xc _=>cases c
def wu (h:zx X xr e m)(he:∀whole,isTrue e X.env whole=(do let v <- whole;standAt e.pos;holding [v] (truthy v)):=by intro _;rfl):yh X xr e m:=by
 try simp only[zX]at*
 exact PT.imp (Cu h he) λσ H Q h=>h.toM
def qA:w9 X [] (z7 (.bl true)):=by
 try simp only[zX]at*
 exactλpins s σ H Q I ⟨φ,A,ρ,S,re,h⟩=>Hr pins s σ H Q I (by
  obtain⟨b,e,q⟩:=h;cases e;exact q φ H .refl S)
def JT (h:yh X kS c mc):w9 X [c] mc:=by
 try simp only[zX]at*
 exact Fd h
def Q6 {rest:bV}(g:yh X xr a ma)(f:wL X xr (.BoolOp .And (b::rest) pos) mb):wL X xr (.BoolOp .And (a::b::rest) pos) (jl ma mb):=by
 try simp only[zX]at*
 exact PW.imp (pw_and g f) λσ H Q ⟨φ,A,ρ,S,re,h⟩=>by
   refine tT.go S re (zZ.mp h) λw A1 c=>?_;cases w with
   |bl k=>
    refine⟨k,rfl,λd H1 l s=>?_⟩;cases k with
    |true=>rw[ah rfl];exact tT.mono s l re c|false=>rw[aq ax];obtain⟨b,e,q⟩:=c;cases e;exact q d H1 l s
   |non=>cases c|int _=>cases c|str _=>cases c|tup _=>cases c|ref _=>cases c|clo _ _ _=>cases c|xc _=>cases c
def JR (h:yh X xr a ma):wL X xr (.BoolOp .And [a] pos) ma:=by
 try simp only[zX]at*
 exact pw_and1 h
def ZU {rest:bV}(g:yh X xr a ma)(f:wL X xr (.BoolOp .Or (b::rest) pos) mb):wL X xr (.BoolOp .Or (a::b::rest) pos) (jH ma mb):=by
 try simp only[zX]at*
 exact PW.imp (pw_or g f) λσ H Q ⟨φ,A,ρ,S,re,h⟩=>by
   refine tT.go S re (zZ.mp h) λw A1 c=>?_;cases w with
   |bl k=>
    refine⟨k,rfl,λd H1 l s=>?_⟩;cases k with
    |false=>rw[aq ax];exact tT.mono s l re c|true=>rw[ah rfl];obtain⟨b,e,q⟩:=c;cases e;exact q d H1 l s
   |non=>cases c|int _=>cases c|str _=>cases c|tup _=>cases c|ref _=>cases c|clo _ _ _=>cases c|xc _=>cases c
def Qo (h:yh X xr a ma):wL X xr (.BoolOp .Or [a] pos) ma:=by
 try simp only[zX]at*
 exact pw_or1 h
def qV {K:Frag}{st:Stmt}{f:Addr}{k:Nat}{m:Ex}(F:gT K x x st f fd)(hm:mg x=some (.ref f))(S:qI N ps (qm st))
  (i:∀(kV doc pm:Value)(an:b2)(c ct:Value)(us:bP),us.length=ps.length->bindArgs (fnOf x x (Ja st) (g9 st) (qm st) .none kV doc pm an c ct) ⟨us,[]⟩=pure (ps.zip us))
  (a:∀(c:Value)(A:Around)(outer:bZ)(s:Shared)(H:Hp)(E:XK),jK k (A.deeper (envOfC x (qm st) s.heap.objs.size f c))->kP (Z1 wM P w K mg base N x (qm st) f c A outer s H E).nox kS (g9 st) m):
  zL P w K mg base (k+1) x ps.length (qH N.length m):=by
 try simp only[zX]at*
 refine⟨f,fd,ps,?_,hm,F.kp,F.binds i⟩;refine F.ok S (λvs H Q E h=>h.len) λc A outer s H vs Q E g ⟨q,φ,A1,ws,n,r,h⟩=>⟨_,a c A outer s H E g,?_⟩;refine⟨φ,A1,ws.map some++List.replicate (N.length-ws.length) none,n,RE.start r,?_⟩;have h':=zZ.mp h;show R.post _ (FB K φ H _) _;cases e:m (ws.map some++List.replicate (N.length-ws.length) none) A1 with
 |ok j A2=>
  rw[e]at h';cases j with
  |rt w=>exact h'|nx ρ=>exactλb p d l o _=>h' b p .non l o rfl|bk ρ=>exact h'.elim|ct ρ=>exact h'.elim
 |exc y A2=>
  rw[e]at h';exact h'.elim
 |bad=>rw[e]at h';exact h'.elim
def AR {K:Frag}{st:Stmt}{f:Addr}{k:Nat}{m:Ex}(F:gT K x x st f fd)(S:qI N ps (qm st))
  (a:∀(c:Value)(A:Around)(outer:bZ)(s:Shared)(H:Hp)(E:XK),jK k (A.deeper (envOfC x (qm st) s.heap.objs.size f c))->kP (Z1 wM P w K mg base N x (qm st) f c A outer s H E).nox kS (g9 st) m):
  yC P w K mg base wM (k+1) f fd ps (Zt K ps.length (qH N.length m)):=by
 try simp only[zX]at*
 refine F.ok S (λvs H Q E h=>h.len) λc A outer s H vs Q E g ⟨p,φ,A1,ws,j,r,h⟩=>⟨_,a c A outer s H E g,?_⟩;refine⟨φ,A1,ws.map some++List.replicate (N.length-ws.length) none,j,RE.start r,?_⟩;have h':=zZ.mp h;show R.post _ (FB K φ H _) _;cases e:m (ws.map some++List.replicate (N.length-ws.length) none) A1 with
 |ok i A2=>
  rw[e]at h';cases i with
  |rt w=>exact h'|nx ρ=>exactλb o d l n _=>h' b o .non l n rfl|bk ρ=>exact h'.elim|ct ρ=>exact h'.elim
 |exc y A2=>rw[e]at h';exact h'.elim|bad=>rw[e]at h';exact h'.elim
def GQ (hm:X.mg "abs"=none)(a:zx X xr e m)(h:Gl X "abs":=by rfl)(he:starEach [e] X.env=(false,eval e X.env)::starEach [] X.env:=by rfl):zx X xr (.Call (.Name "abs" p) [e] [] pos) (jq Ym m):=by
 try simp only[zX]at*
 exact Br Fj (λw A=>by unfold Ym;split;exact jE;exact qU) (λφ A H x u Q S q p=>by
   cases u with
   |int i=>obtain rfl:=q;exact⟨i,rfl,p φ H _ .refl S rfl⟩|_=>exact p.elim) hm (by rfl) a h (by decide) (by decide) he (by rfl)
def Ge {apos c:Pos}(j:zx X xr a ma)(he:zx X xr b mb)(s:starEach [b] X.env=(false,eval b X.env)::starEach [] X.env:=by rfl)
  (e:attributeBase a "append" X.env (eval a X.env)=eval a X.env:=by rfl)
  (w:((backTo c (starEach [b] X.env)).all (λx=>!x.1)&&(backToKw c (keywordEach [] X.env)).all (λx=>x.1.isSome)
   && decide ([b].length+([]:b1).length+(if ([]:b1).isEmpty then 0 else 1)<30))=true:=by rfl)(h:(apos.endLine==c.line)=true:=by rfl):
  zx X xr (.Call (.Attribute a "append" apos) [b] [] c) (ko wY ma mb):=by
 try simp only[zX]at*
 exact XC PySem.F.slot_list_append PySem.F.type_list_append Ta Ly (λφ A H x y u v Q S i q p=>by
   unfold wY at p;cases u with
   |ref n=>
    dsimp only at p;cases E:A[n]? with
    |none=>rw[E]at p;exact p.elim|some o=>cases o with
     |lst ws=>
      rw[E]at p;dsimp only at p
      by_cases d:ws.length<zT
      ·rw[ah d]at p
       obtain⟨l,vs,rfl,f1,g1,r⟩:=S.lst i E;refine⟨l,vs,y,rfl,rfl,g1,?_,?_⟩
       ·rw[<- r.length]
        have:sizeLine=16777216:=sizeLine_eq
        unfold zT at d;omega
       ·have ln:Le X.K φ H φ (upd H l (.lst (vs++[y]))):=Le.upd f1 (λxs z=>by rw[g1]at z;cases z) (λ_ _ z=>by rw[g1]at z;cases z)
        obtain⟨g,f⟩:=S.write (o:=.lst ws) (o':=.lst (ws++[v])) E rfl rfl f1 ⟨_,jY,(r.mono ln).append (.one (q.mono ln))⟩;exact p _ _ _ g f rfl
      ·rw[aq d]at p;exact p.elim
     |_=>rw[E]at p;exact p.elim
   |_=>exact p.elim) j he s e w h
def JN (hm:X.mg "int"=none)(a:zx X xr e m)(h:Gl X "int":=by rfl)(he:starEach [e] X.env=(false,eval e X.env)::starEach [] X.env:=by rfl):zx X xr (.Call (.Name "int" p) [e] [] pos) (jq QG m):=by
 try simp only[zX]at*
 exact Cz L4 (λw A=>by unfold QG;split;exact jE;exact jE;exact qU) (λφ A H x u Q S q p=>by
   cases u with
   |int i=>obtain rfl:=q;exact .inl ⟨i,rfl,p φ H _ .refl S rfl⟩|bl k=>obtain rfl:=q;exact .inr ⟨k,rfl,p φ H _ .refl S rfl⟩|_=>exact p.elim) hm (by rfl) a h (by decide) (by decide) he (by rfl)
def Hg (e:X.calm=true)(hm:X.mg "max"=none)(n:zx X xr a ma)(m:zx X xr b mb)(l:Gl X "max":=by rfl)(r:starEach [a,b] X.env=(false,eval a X.env)::starEach [b] X.env:=by rfl)(o:starEach [b] X.env=(false,eval b X.env)::starEach [] X.env:=by rfl)(h:(backTo pos (starEach [b] X.env)).any (·.1)=false:=by rfl):
  zx X xr (.Call (.Name "max" p) [a,b] [] pos) (zi Xp ma mb):=by
 try simp only[zX]at*
 exact Xz (LS e) ZW (λφ A H x y u v Q S d c p=>by
   obtain⟨i,j,s,E,q⟩:=ZT (K:=X.K) (f:=λi j=>.int (if j > i then j else i)) (g:=λi j=>.int (if j > i then j else i)) (λ_ _ _ _=>rfl) φ A H x y u v Q S d c p;subst s;subst E;exact⟨i,j,rfl,q⟩) hm (by rfl) n m l (by decide) (by decide) r o h
def DZ {rest:bV}(f:zx X xr a ma)(e:zx X xr (.BoolOp .Or (b::rest) pos) mb):zx X xr (.BoolOp .Or (a::b::rest) pos) (jH ma mb):=by
 try simp only[zX]at*
 exact PE.imp (BQ f e) λσ H Q ⟨φ,A,ρ,S,re,h⟩=>by
   refine tM.go S re (zZ.mp h) λw A1 d H1 v c l s q=>?_;cases w with
   |bl k=>
    refine⟨k,q,?_⟩;cases k with
    |false=>rw[aq ax];exact⟨d,A1,ρ,s,re.mono l,qp c (λ_ _ z=>z.mono l) λ_ _ z=>z.mono l⟩|true=>rw[ah rfl];exact c d H1 _ l s rfl
   |non=>cases c|int _=>cases c|str _=>cases c|tup _=>cases c|ref _=>cases c|clo _ _ _=>cases c|xc _=>cases c
def LO {apos c:Pos}(C:zx X xr a ma)(he:zx X xr b mb)(B:starEach [b] X.env=(false,eval b X.env)::starEach [] X.env:=by rfl)
  (e:attributeBase a "pop" X.env (eval a X.env)=eval a X.env:=by rfl)
  (d:((backTo c (starEach [b] X.env)).all (λx=>!x.1)&&(backToKw c (keywordEach [] X.env)).all (λx=>x.1.isSome)
   && decide ([b].length+([]:b1).length+(if ([]:b1).isEmpty then 0 else 1)<30))=true:=by rfl)(h:(apos.endLine==c.line)=true:=by rfl):
  zx X xr (.Call (.Attribute a "pop" apos) [b] [] c) (ko gG ma mb):=by
 try simp only[zX]at*
 exact XC PySem.F.slot_list_pop PySem.F.type_list_pop Hk HQ (λφ A H x y u v Q S t s p=>by
   unfold gG at p;cases u with
   |ref n=>cases v with
    |int i=>
     obtain rfl:=s;dsimp only at p;cases E:A[n]? with
     |none=>rw[E]at p;exact p.elim|some o=>cases o with
      |lst ws=>
       rw[E]at p;dsimp only at p
       by_cases f:q9 i=true
       ·rw[ah f]at p
        obtain⟨L,J⟩:=gx f;cases j:seqIndex? i ws.length with
        |none=>rw[j]at p;exact p.elim|some k=>
         rw[j]at p;dsimp only at p;cases g:ws[k]? with
         |none=>rw[g]at p;exact p.elim|some w=>
          rw[g]at p;obtain⟨l,vs,rfl,f1,g1,r⟩:=S.lst t E;obtain⟨y,I,D⟩:=r.get g;have ln:Le X.K φ H φ (upd H l (.lst (vs.eraseIdx k))):=Le.upd f1 (λxs z=>by rw[g1]at z;cases z) (λ_ _ z=>by rw[g1]at z;cases z)
          obtain⟨m,q⟩:=S.write (o:=.lst ws) (o':=.lst (ws.eraseIdx k)) E rfl rfl f1 ⟨_,jY,(r.erase k).mono ln⟩;exact⟨l,vs,i,k,y,rfl,rfl,g1,by omega,by omega,by rw[<- r.length];exact j,I,p _ _ _ m q (D.mono m)⟩
       ·rw[aq f]at p;exact p.elim
      |_=>rw[E]at p;exact p.elim
    |_=>exact p.elim
   |_=>cases v<;>exact p.elim) C he B e d h
def Rc (H:zx X xr a ma)(h:zx X xr b mb):zx X xr (.BinOp a .Pow b pos) (zi KO ma mb):=by
 try simp only[zX]at*
 exact Qq CW XB (G4 Ez λ_ _ _ _=>rfl) H h
def SU (H:zx X xr a ma)(h:zx X xr b mb):zx X xr (.BinOp a .BitXor b pos) (zi XH ma mb):=by
 try simp only[zX]at*
 exact Qq CS ZW (ZT λ_ _ _ _=>rfl) H h
def Sr {q:jD}(hm:X.mg "list"=none)(d:kU X xr e q)(g:Gl X "list":=by rfl)(he:starEach [e] X.env=(false,eval e X.env)::starEach [] X.env:=by rfl):
  zx X xr (.Call (.Name "list" p) [e] [] pos) (qv q):=by
 try simp only[zX]at*
 exact PE.imp (Qe N1 g hm (by rfl) (jv d j0 he) (by decide) (by decide) he (by rfl)) λσ H Q ⟨φ,A,ρ,S,re,h⟩=>by
   refine⟨φ,A,ρ,S,re,qp (zZ.mp h) (λws A1 f b H1 a y L s z r=>?_) λ_ _ z=>z⟩;refine⟨a,y,rfl,z,λl c=>?_⟩;obtain⟨a1,a2,i⟩:=ZR s c r;exact f _ _ _ (L.trans a1) a2 i
def SN {o i:Expr}{mo mi:Ev}(he:zx X xr e m)(H:zx X xr o mo)(hi:zx X xr i mi)
  (h:swapsWithSole [.Subscript o i tpos] e pos.line X.env=pure false:=by rfl)(hw:swappedStores [.Subscript o i tpos] e X.env=pure none:=by rfl)
  (b:(assignEach [.Subscript o i tpos] X.env).map (·.2)=[assign (.Subscript o i tpos) X.env]:=by rfl)
  (a:∀v,assign (.Subscript o i tpos) X.env v=(do
   let ov <- holding [v] (eval o X.env)
   let iv <- holding [v,ov] (eval i X.env)
   standAt tpos
   holding [v,ov,iv] (setItem ov iv v)
   release [v,ov,iv] []):=by intro _;rfl):yN X xr (.Assign [.Subscript o i tpos] e pos) (Jh kO m mo mi):=by
 try simp only[zX]at*
 exact Hn set_list RZ RB he H hi h hw b a
def TF (f:Nat)(B:PassesOwn (model X.prog X.w) X.A X.env X.xe)(C:yh X xr c mc)(E:kP X xr body m1):yN X xr (.While c body [] pos) (J5 f mc m1):=by
 try simp only[zX]at*
 exact PS.imp (Ff B C E) λD σ H ⟨φ,A,ρ,S,re,h⟩=>by
   refine⟨λf g e=>∃a A2 d,Le X.K φ H a e/\zO X.K a A2 e/\RE X.K a e d g/\(k7 mc m1 f d A2).post (FB X.K a e D) (EB X.K a e xr),⟨f,φ,A,ρ,.refl,S,re,h⟩,?_⟩
   rintro f t T ⟨a,A2,d,v,J,n,u⟩
   cases f with
   |zero=>exact u.elim|succ f=>
    unfold k7 at u;refine tT.go J n (zZ.mp u) λw N j=>?_;cases w with
    |bl k=>
     refine⟨k,rfl,λo M l x=>?_⟩;cases k with
     |true=>
      rw[ah rfl];refine⟨λg e=>∃a A2 d,Le X.K φ H a e/\zO X.K a A2 e/\RE X.K a e d g/\(k7 mc m1 f d A2).post (FB X.K a e D) (EB X.K a e xr),λg e z=>⟨f,br _,z⟩,?_⟩;refine⟨o,N,d,x,n.mono l,qp (zZ.mp j) (λI y q=>?_) λ_ _ z=>z.mono l⟩;cases I with
      |nx i=>exactλb p m L s r=>⟨b,y,i,(v.trans l).trans L,s,r,qp q (λ_ _ z=>z.mono (l.trans L)) λ_ _ z=>z.mono (l.trans L)⟩|ct i=>exactλb p m L s r=>⟨b,y,i,(v.trans l).trans L,s,r,qp q (λ_ _ z=>z.mono (l.trans L)) λ_ _ z=>z.mono (l.trans L)⟩|bk i=>exactλb p m L s r=>q b p m (l.trans L) s r|rt P=>exactλb p v4 L s Q=>q b p v4 (l.trans L) s Q
     |false=>
      rw[aq ax];exact j o M t l x (n.mono l)
    |non=>cases j|int _=>cases j|str _=>cases j|tup _=>cases j|ref _=>cases j|clo _ _ _=>cases j|xc _=>cases j
end
end Mi
variable {mi:Mi.Ei}{em:Mi.Em}{ρ:Mi.En}{m me:Mi.Ev}{A A1:Mi.Hx}{acc ws:List Mi.W}{I:Nat->Mi.En->List Mi.W->Mi.Hx->Prop}{o:Mi.O}{tw:Mi.Tg}{g:Mi.W->Mi.W->Mi.Hx->Mi.R Mi.W}{xr:Mi.XR}{q:Mi.jD}{j:Mi.jo}
set_option maxHeartbeats 4000000
namespace Mi
open PySem L2
section
variable {ρ1:En}{A2:Hx}{w x y:W}{ma mb mc:Ev}{m1 m2:Ex}{f:Fn}
def zl (h:ρ[i]? =some (some w)):qx i ρ A=.ok w A:=by unfold qx;rw[h]
def qh:z7 w ρ A=.ok w A:=rfl
def zK (H:ma ρ A=.ok x A1)(h:mb ρ A1=.ok y A2):zi g ma mb ρ A=g x y A2:=by unfold zi;rw[H,zM,h,zM]
def G7 {g:W->Hx->R W}(h:ma ρ A=.ok x A1):jq g ma ρ A=g x A1:=by unfold jq;rw[h,zM]
def wz {k:Bool}(h:ma ρ A=.ok (.bl k) A1):yD ma ρ A=.ok (.bl (!k)) A1:=by unfold yD;rw[h,zM]
def kG (h:ma ρ A=.ok (.bl true) A1):jl ma mb ρ A=mb ρ A1:=by unfold jl;rw[h,zM]
def Qs (h:ma ρ A=.ok (.bl false) A1):jl ma mb ρ A=.ok (.bl false) A1:=by unfold jl;rw[h,zM]
def Pu (h:ma ρ A=.ok (.bl true) A1):jH ma mb ρ A=.ok (.bl true) A1:=by unfold jH;rw[h,zM]
def Zg (h:ma ρ A=.ok (.bl false) A1):jH ma mb ρ A=mb ρ A1:=by unfold jH;rw[h,zM]
def zW {a:Ea}(h:a ρ A=.ok ws A1):zA f a ρ A=f ws A1:=by unfold zA;rw[h,zM]
def zP:zq ρ A=.ok [] A:=rfl
def zy {r:Ea}(H:ma ρ A=.ok x A1)(h:r ρ A1=.ok ws A2):zc ma r ρ A=.ok (x::ws) A2:=by unfold zc;rw[H,zM,h,zM]
def wX {a:Ea}(h:a ρ A=.ok ws A1):qz a ρ A=.ok (.tup ws) A1:=by unfold qz;rw[h,zM]
def wB {a:Ea}(h:a ρ A=.ok ws A1):qW a ρ A=.ok (.ref A1.length) (A1++[.lst ws]):=by unfold qW;rw[h,zM]
def zG (h:m1 ρ A=.ok (.nx ρ1) A1):zp m1 m2 ρ A=m2 ρ1 A1:=by unfold zp;rw[h,zM]
def qQ (h:m1 ρ A=.ok (.rt w) A1):zp m1 m2 ρ A=.ok (.rt w) A1:=by unfold zp;rw[h,zM]
def qG:zw ρ A=.ok (.nx ρ) A:=rfl
def qB (h:m ρ A=.ok w A1):z8 i m ρ A=.ok (.nx (ρ.set i (some w))) A1:=by unfold z8;rw[h,zM]
def yH (h:m ρ A=.ok w A1):jS m ρ A=.ok (.nx ρ) A1:=by unfold jS;rw[h,zM]
def jc (h:m ρ A=.ok w A1):qt m ρ A=.ok (.rt w) A1:=by unfold qt;rw[h,zM]
def ZV (h:mc ρ A=.ok (.bl true) A1):qy mc m1 m2 ρ A=m1 ρ A1:=by unfold qy;rw[h,zM]
def js (h:mc ρ A=.ok (.bl false) A1):qy mc m1 m2 ρ A=m2 ρ A1:=by unfold qy;rw[h,zM]
def wq (h:mi ρ A=.ok j A1):jA mi tw m1 ρ A=yd j (turn tw m1) j.len 0 ρ A1:=by unfold jA;rw[h,zM]
def kE (h:tw w ρ=some ρ1):turn tw m1 w ρ A=m1 ρ1 A:=by unfold turn;rw[h]
def U3 {st:W->Ex}(h:j.at_ A i=some none):yd j st n i ρ A=.ok (.nx ρ) A:=by
 cases n with
 |zero=>unfold yd;rw[h]|succ n=>unfold yd;rw[h]
def T4 {st:W->Ex}(h:j.at_ A i=some (some w))(H:st w ρ A=.ok (.nx ρ1) A1):yd j st (n+1) i ρ A=yd j st n (i+1) ρ1 A1:=by
 rw[yd,h];dsimp only;rw[H,zM]
def Qg {k:Int}(h:m ρ A=.ok (.int k) A1)(H:q9 k=true):jI m ρ A=.ok (yR 0 k.toNat) A1:=by unfold jI;rw[h,zM];dsimp only;rw[ah H]
def wD {lo:Int}{k:Nat}(h:i<k):(yR lo k).at_ A i=some (some (.int (lo+i))):=by unfold yR;dsimp only;rw[ah h]
def wA {lo:Int}{k:Nat}(h:¬i<k):(yR lo k).at_ A i=some none:=by unfold yR;dsimp only;rw[aq h]
def qS (h:m1 (ws.map some++List.replicate (n-ws.length) none) A=.ok (.rt w) A1):qH n m1 ws A=.ok w A1:=by unfold qH;rw[h];rfl
def Kc (h:m1 (ws.map some++List.replicate (n-ws.length) none) A=.ok (.nx ρ) A1):qH n m1 ws A=.ok .non A1:=by unfold qH;rw[h];rfl
def kf {w:W}(hn:qP ws=true)(hw:w.nr=true)(h:f ws []=.ok w A1):iso f ws A=.ok w A:=by
 unfold iso;rw[ah hn,h];cases w with
 |ref k=>cases hw|_=>dsimp only;rw[ah hw]
end
end Mi
set_option maxHeartbeats 4000000
namespace Mi
open PySem L2
def IV {ifs:Ev}{c:En}{N:Nat}{item g:Nat->W}{keep:Nat->Bool}(t:∀i,i<N->j.at_ A i=some (some (item i)))(d:j.at_ A N=some none)
  (hi:∀i,i<N->ifs (some (item i)::c) A=.ok (.bl (keep i)) A)(he:∀i,i<N->keep i=true->me (some (item i)::c) A=.ok (g i) A):
  ∀(n i:Nat)(x:Option W)(acc:List W),i+n=N->acc.length+n<=zT->∃y,je j (zE 0) ifs (zH me) n i (x::c) acc A=.ok (y::c,acc++((List.range' i n).filter keep).map g) A:=by
 intro n
 induction n with
 |zero=>
  intro i x acc h _
  have:i=N:=by omega
  subst this;refine⟨x,?_⟩;unfold je;rw[d];simp
 |succ n I=>
  intro i x acc h l;have H:i<N:=by omega
  rw[je,t i H];dsimp only[zE,List.set];rw[hi i H,zM];rw[bK];cases a:keep i with
  |true=>
   dsimp only;obtain⟨y,e⟩:=I (i+1) (some (item i)) (acc++[g i]) (by omega) (by rw[aw,ba];omega)
   refine⟨y,?_⟩;have E:zH me (some (item i)::c) acc A=.ok (some (item i)::c,acc++[g i]) A:=by
    unfold zH;rw[he i H a,zM,ah (by omega)]
   rw[E,zM];dsimp only;rw[e,List.filter_cons_of_pos a,aQ,aO]
   rfl
  |false=>
   dsimp only;obtain⟨y,e⟩:=I (i+1) (some (item i)) acc (by omega) (by omega)
   exact⟨y,by rw[e,List.filter_cons_of_neg (by rw[a];exact ax)]⟩
def MN {ifs:Ev}{N:Nat}{item g:Nat->W}{keep:Nat->Bool}(hm:mi ρ A=.ok j A)(a:j.len=N)(b:N<=zT)
  (H:∀i,i<N->j.at_ A i=some (some (item i)))(h:j.at_ A N=some none)(hi:∀i,i<N->ifs (some (item i)::cap.map λi=>(ρ[i]?).join) A=.ok (.bl (keep i)) A)
  (he:∀i,i<N->keep i=true->me (some (item i)::cap.map λi=>(ρ[i]?).join) A=.ok (g i) A):
  zN 1 cap mi (zE 0) ifs (zH me) ρ A=.ok (((List.range N).filter keep).map g) A:=by
 obtain⟨y,e⟩:=IV H h hi he N 0 none [] (Nat.zero_add N) (by simpa using b)
 unfold zN;rw[hm,zM,a];have c:QA 1 cap ρ=none::cap.map λi=>(ρ[i]?).join:=rfl;rw[c,e,nil_append,<- bE]
 rfl
def wR {N:Nat}{item g:Nat->W}(hm:mi ρ A=.ok j A)(a:j.len=N)(b:N<=zT)
  (t:∀i,i<N->j.at_ A i=some (some (item i)))(H:j.at_ A N=some none)(he:∀i,i<N->me (some (item i)::cap.map λi=>(ρ[i]?).join) A=.ok (g i) A):
  zN 1 cap mi (zE 0) (z7 (.bl true)) (zH me) ρ A=.ok ((List.range N).map g) A:=by
 have h:=MN (ifs:=z7 (.bl true)) (keep:=λ_=>true) hm a b t H (λ_ _=>rfl) λi hi _=>he i hi;have f:(List.range N).filter (λ_=>true)=List.range N:=List.filter_eq_self.mpr λ_ _=>rfl;rw[f]at h;exact h
def jJ {g:List W->Hx->R W}(h:q ρ A=.ok ws A1):mQ g q ρ A=g ws A1:=by unfold mQ;rw[h,zM]
def kY (h:q ρ A=.ok ws A1):qv q ρ A=.ok (.ref A1.length) (A1++[.lst ws]):=by unfold qv;rw[h,zM]
def kD {w:W}(h:m ρ A=.ok w A1)(H:z0 w A1=some ws):qi m ρ A=.ok ws A1:=by unfold qi;rw[h,zM,H]
open PySem PySem.Spec PyProof.Rows L2
noncomputable def mJ:List Ev->Str->Ev
 |[],acc=>λ_ A=>.ok (.str acc) A|m::ms,acc=>λρ A=>(m ρ A).bind λw A1=>match w with
  |.str y=>if (acc++y).length<=sizeLine then mJ ms (acc++y) ρ A1 else .bad|_=>.bad
section
variable {es:bV}{ms:List Ev}
inductive SJ (X:Cx)(xr:XR):List Expr->List Ev->Prop where
 |nil:SJ X xr [] []
 |cons {e:Expr} {es:bV} {m:Ev} {ms:List Ev} (h:SE X xr e m) (r:SJ X xr es ms):SJ X xr (e::es) (m::ms)
end
open PySem PySem.W PySem.Spec PySem.Calls PyProof.Rows Builtin Builtin.ObjectAttr Builtin.Getset_descriptor
section
noncomputable def KR (m:Ev)(tw:Tg):Ex:=λρ A=>(m ρ A).bind λw A1=>match tw w ρ with
 |some a=>.ok (.nx a) A1|none=>.bad
end
section
noncomputable abbrev k8 (led:Bool):Obj:={ cls:=.type "set",dict:=none,data:=.set #[] 0 (.fresh 0 0 led) }
end
def intsAre_of:∀{ns:bO}{i:bP},Vals (ns.map V.int) i->IntsAre i ns:=by
 intro ns
 induction ns with
 |nil=>intro i h;cases h;exact .nil|cons n ns I=>
  intro i h;cases h with
  |cons r t=>obtain⟨tk,rfl⟩:=r;exact .cons n tk (I t)
section
open PySem.SeqAt
open PySem.AutoSeq1 (wpAny_loadPart')
open PySem.MeetsSeq PySem.MeetsSeq2 PySem.MeetsSeq3
end
section
variable {prog:Program}{A:Around}{S:Addr}{wr:bQ}{P:Nat->Value->Prop}
structure PK (prog:Program)(w:World)(A:Around)(S:Addr)(wr:bQ)(P:Nat->Value->Prop)(bt:Nat->Nat->Bool)(HI:Heap->Prop):Prop where
 keep:∀h h',HI h->(∀b o,b∉wr->b≠S->h.get? b=some o->h'.get? b=some o)->HI h'
 less:∀i j vi vj (s:Shared) (Q:bU) (E:bU),HI s.heap->P i vi->P j vj->Q (.bool (bt i j)) s->wpAny (model prog w) A.in1 (richCompare .Lt vi vj) Q E s
def Y8:(toString "min" ++ toString ".loop" : String) = "min.loop":=by decide
end
section
variable {K:Frag}
def Fe {w:W}{ds:List PyData}(h:qd A 8 w=some (.list ds)):PyData.canLayAll0 ds=true/\PyData.depthAll ds<=8:=by
 obtain⟨H,a⟩:=YX 8 w _ h;simp only[PyData.canLay0,PyData.depth]at H a;exact⟨H,by omega⟩
def zam:W->W->Hx->R W:=λx y A=>match qd A 8 x,qd A 8 y with
 |some d,some (.list ds)=>.ok (.bl (ds.any λz=>PyData.eqv z d)) A|_,_=>.bad
noncomputable def gJ (p:PyData->Bool):List PyData->Option Nat
 |[]=>none|d::ds=>if p d then some 0 else(gJ p ds).map (· + 1)
theorem Sf {p:PyData->Bool}:∀{ds:List PyData}{j:Nat},gJ p ds=some j->∃h:j<ds.length,p ds[j]=true/\∀m (hm:m<ds.length),m<j->p ds[m]=false
 |[],_,e=>by cases e|d::ds,j,e=>by
  unfold gJ at e
  by_cases hd:p d=true
  ·rw[ah hd]at e
   cases e;exact⟨Nat.zero_lt_succ _,hd,λm _ z=>absurd z (not_lt_zero _)⟩
  ·rw[aq hd]at e
   cases E:gJ p ds with
   |none=>rw[E]at e;cases e|some J=>
    rw[E]at e;cases e;obtain⟨b,a,H⟩:=Sf E;refine⟨Nat.succ_lt_succ b,a,λm hm z=>?_⟩;cases m with
    |zero=>exact Bool.eq_false_iff.mpr hd|succ m=>exact H m (Nat.lt_of_succ_lt_succ hm) (Nat.lt_of_succ_lt_succ z)
def E1 (K:Frag):V->List V->Hp->VK->Prop:=λx vs H Q=>∃φ A u v y d ds j,vs=[y]/\zO K φ A H/\RV K φ H u x/\RV K φ H v y/\qd A 8 u=some (.list ds)/\qd A 8 v=some d/\gJ (λz=>PyData.eqv z d) ds=some j/\j<1000000/\Q (.int j) H
def LW (N:X.A.units+64<cLine):X1 X "list.index" (E1 X.K):=by
 intro pins s σ H x vs v us Q I r g h;obtain⟨φ,A,f,w,y,d,ds,j,rfl,S,t,p,a,E,J,P,q⟩:=h;obtain⟨u,rfl,i⟩:=g.one;obtain⟨as,C⟩:=Q3 I S 8 f x v _ t r a;obtain⟨bs,B⟩:=Q3 I S 8 w y u d p i E;obtain⟨g1,g2⟩:=YX 8 w d E;obtain⟨g3,T⟩:=Fe a;obtain⟨f1,f2,D⟩:=Sf J;cases C with
 |list a1 a2 c b=>
  rename_i l o items n M
  obtain⟨cls,L,data,sl⟩:=o;simp only at a2 c;subst a2 c;have hm:=SeqAt.readsAll_map _ _ _ g3 b;have hlen:items.size=ds.length:=by rw[<- hm];simp
  have at_:∀m (h:m<items.size) (h':m<ds.length),SeqAt.readOf s.heap items[m]=ds[m]:=λm h h'=>by
   have e:(items.toList.map (SeqAt.readOf s.heap))[m]? =ds[m]?:=by rw[hm]
   rw[ao,aa h',bG,Array.getElem?_eq_getElem h]at e;exact aD e
  refine call_meets F.slot_list_index ⟨_,a1,rfl⟩ F.entry_list_index (F.args_list_index_2 _ _)
   (SeqAt.list_indexAt l items n L sl u (λz=>PyData.eqv (SeqAt.readOf s.heap z) d) j (by omega) (by omega) (by rw[at_ j (by omega) f1];exact f2) (λm h z=>by rw[at_ m h (by omega)];exact D m (by omega) z)) ⟨a1,SeqAt.items_eqAt b B g3 g1 (by omega),?_⟩
  exact⟨.int j,H,I.tok _,⟨_,rfl⟩,q⟩
def gF:W->W->Hx->R W:=λx y A=>match qd A 8 x,qd A 8 y with
 |some (.list ds),some d=>(match gJ (λz=>PyData.eqv z d) ds with
  |some j=>if j<1000000 then .ok (.int j) A else .bad|none=>.bad)
 |_,_=>.bad
def Ha:∀x y A,qO (gF x y A):=λx y A=>by
 unfold gF
 split
 ·split
  ·exact Zc jE qU
  ·exact qU
 ·exact qU
end
open PySem
noncomputable def z9 (n:Nat):bS:=(List.range 8).filter λi=>n.testBit i
def qX (led:Bool)(n:Nat):SetTable:=if (z9 n).length<5 then⟨7,(z9 n).toArray,#[],0,led,0,true⟩ else⟨31,(z9 n).toArray,#[],0,led,1,true⟩
noncomputable def jk (n v:Nat):Nat:=n ||| (1 <<< v)
def gf (n v:Nat):Nat:=((z9 n).filter λi=>decide (i<v)).length
def yU (led:Bool)(n v:Nat):SetTable:={ qX led n with place:=(z9 (jk n v)).toArray }
def KN (led:Bool)(n v:Nat):Bool:=n.testBit v || (((qX led n).freeSlot (v:Int)==some (v,false))&&((qX led n).put v==(yU led n v,gf n v))&&(z9 (jk n v)==(z9 n).take (gf n v)++v::(z9 n).drop (gf n v))&&
 (yU led n v).fits (z9 (jk n v)).length&&((yU led n v).tooFull==((z9 (jk n v)).length==5))&&
 (if (z9 (jk n v)).length==5 then(yU led n v).relaid ((z9 (jk n v)).map λ(i:Nat)=>(i:Int)).toArray 20==some (qX led (jk n v),#[0,1,2,3,4]) else qX led (jk n v)==yU led n v)&&
 (qX led (jk n v)).fits (z9 (jk n v)).length&&decide (jk n v<256))
def Ew:((List.range 256).all λn=>(List.range 8).all λv=>KN true n v&&KN false n v)=true:=by decide +kernel
open PySem PySem.Spec PyProof.Rows
inductive jh:List (Int×Value)->List Nat->Prop
 |nil:jh [] []
 |cons {es:List (Int×Value)} {vs:bS} (v:Nat) (tk:Tok) (h:jh es vs):jh (((v:Int),.int (v:Int) tk)::es) (v::vs)
theorem jh.length (h:jh es vs):es.length=vs.length:=by
 induction h with
 |nil=>rfl|cons v tk h i=>simp[i]
def jh.map1 (h:jh es vs):es.map (·.1)=vs.map λ(i:Nat)=>(i:Int):=by
 induction h with
 |nil=>rfl|cons v tk h I=>simp[I]
theorem jh.take (h:jh es vs):∀k,jh (es.take k) (vs.take k):=by
 induction h with
 |nil=>intro k;simp;exact .nil|cons v tk h i=>
  intro k;cases k with
  |zero=>exact .nil|succ k=>exact .cons v tk (i k)
theorem jh.drop (h:jh es vs):∀k,jh (es.drop k) (vs.drop k):=by
 induction h with
 |nil=>intro k;simp;exact .nil|cons v tk h i=>
  intro k;cases k with
  |zero=>exact .cons v tk h|succ k=>exact i k
def jh.app {es':List (Int×Value)}{a:bS}(h:jh es vs)(h':jh es' a):jh (es++es') (vs++a):=by
 induction h with
 |nil=>exact h'|cons v tk h i=>exact .cons v tk i
def UR:∀v,v<8->hashInt ((v:Nat):Int)=(v:Int):=by decide
section
variable {prog:Program}
def jh.elems (h:jh es vs)(H:∀v∈vs,v<8):ElemsOf (intKind prog w) es:=by
 induction h with
 |nil=>intro e he;cases he|cons v tk h i=>
  intro e he;rcases b9.mp he with rfl|he
  ·exact⟨⟨(v:Int),intKind_is _ _ _ _,(UR v (H v (av ..))).symm⟩,rfl⟩
  ·exact i (λu a=>H u (au _ a)) e he
def jh.find (h:jh es vs)(v:Nat):(es.findIdx? λe=>(intKind prog w).is (v:Int) e.2)=vs.findIdx? λu=>decide (u=v):=by
 induction h with
 |nil=>rfl|cons u tk h i=>
  rw[List.findIdx?_cons,List.findIdx?_cons,i]
  have:(intKind prog w).is (v:Int) (Value.int (u:Int) tk)=decide (u=v):=by
   show Value.isInt (v:Int) (Value.int (u:Int) tk)=_;unfold Value.isInt;rw[Bool.eq_iff_iff];simp;omega
  rw[this]
end
def G6 {v:Nat}:v∈z9 n↔v<8/\n.testBit v=true:=by
 unfold z9;rw[List.mem_filter,List.mem_range]
def yg (h:Heap)(a:Addr)(led:Bool)(n:Nat):Prop:=∃o e E,h.get? a=some o/\o.ExactSet/\o.data=.set e E (qX led n)/\jh e.toList (z9 n)/\n<256
def yg.keep {h':Heap}(x:yg h a led n)(k:∀o,h.get? a=some o->h'.get? a=some o):yg h' a led n:=
 let ⟨o,es,ep,H,r⟩:=x;⟨o,es,ep,k o H,r⟩
def HH {v:Nat}(hn:n<256)(H:v<8)(led:Bool):KN led n v=true:=by
 have h:=cc.mp (cc.mp Ew n (b6.mpr hn)) v (b6.mpr H);rw[ak]at h;cases led
 ·exact h.2
 ·exact h.1
def HY:((List.range 256).all λn=>(qX true n).fits (z9 n).length&&(qX false n).fits (z9 n).length)=true:=by decide +kernel
def Gr (led:Bool)(n:Nat):(qX led n).plain=true:=by unfold qX;split<;>rfl
def Eb (led:Bool)(n:Nat):(qX led n).led=led:=by unfold qX;split<;>rfl
def TK (led:Bool)(n:Nat):(qX led n).place=(z9 n).toArray:=by unfold qX;split<;>rfl
def fits_of (hn:n<256)(led:Bool):(qX led n).fits (z9 n).length=true:=by
 have h:=cc.mp HY n (b6.mpr hn);rw[ak]at h;cases led
 ·exact h.2
 ·exact h.1
def Jj (n:Nat):(z9 n).length<=8:=by
 unfold z9;exact bf (bC _ _) (by simp)
structure KY (led:Bool)(n v:Nat):Prop where
 free:(qX led n).freeSlot (v:Int)=some (v,false)
 put:(qX led n).put v=(yU led n v,gf n v)
 vs:z9 (jk n v)=(z9 n).take (gf n v)++v::(z9 n).drop (gf n v)
 fits:(yU led n v).fits (z9 (jk n v)).length=true
 full:(yU led n v).tooFull=((z9 (jk n v)).length==5)
 XM:(z9 (jk n v)).length=5->(yU led n v).relaid ((z9 (jk n v)).map λ(i:Nat)=>(i:Int)).toArray 20=some (qX led (jk n v),#[0,1,2,3,4])
 less:(z9 (jk n v)).length≠5->qX led (jk n v)=yU led n v
 lt:jk n v<256
def LK {v:Nat}(hn:n<256)(a:v<8)(led:Bool)(b:n.testBit v=false):KY led n v:=by
 have h:=HH hn a led;unfold KN at h;rw[b,Bool.false_or]at h;simp only[ak,a6,ag]at h;obtain⟨⟨⟨⟨⟨⟨⟨j,i⟩,g⟩,f⟩,d⟩,H⟩,l⟩,c⟩:=h;refine⟨j,i,g,f,d,λe=>?_,λe=>?_,c⟩
 ·rw[ah e]at H;exact of_decide_eq_true (by simpa using H)
 ·rw[aq e]at H;simpa using H
def ye (n v:Nat):Nat:=if n.testBit v then n else jk n v
section
variable {prog:Program}{A:Around}
def HC {e:Array (Int×Value)}{v:Nat}{x:Value}(f:KY led n v)(he:jh e.toList (z9 n)):layNew (qX led n) e (v:Int) x=(SetTable.insertAt e (gf n v) ((v:Int),x),yU led n v,false,false):=by
 have h:(SetTable.insertAt e (gf n v) ((v:Int),x)).size=(z9 (jk n v)).length:=by
  rw[<- aR,SetTable.toList_insertAt,f.vs,aw,aw,aS,aS,a8,a8,bx,bx,he.length]
 unfold layNew;rw[f.free];dsimp only;rw[f.put];dsimp only;rw[h];unfold SetTable.orStandIn;rw[ah f.fits,f.fits]
 rfl
def Ec {E:Array (Int×Value)}{v:Nat}(f:KY led n v)(g:(z9 (jk n v)).length=5)(he:jh E.toList (z9 (jk n v))):relayAll (yU led n v) E 20=(E,qX led (jk n v),false):=by
 have hm:E.map (·.1)=((z9 (jk n v)).map λ(i:Nat)=>(i:Int)).toArray:=by
  apply Array.toList_inj.mp
  rw[Array.toList_map,he.map1]
 have h:E.size=5:=by rw[<- aR,he.length,g]
 have H:(#[0,1,2,3,4]:Array Nat).filterMap (E[·]?)=E:=by
  apply Array.toList_inj.mp
  rw[Array.toList_filterMap];have h0:E.toList.length=5:=by rw[aR];exact h
  have j:∀i,E[i]? =E.toList[i]?:=λi=>by rw[bG]
  simp only[j];generalize E.toList=l at h0;obtain⟨a,b,c,d,e,rfl⟩:∃a b c d e,l=[a,b,c,d,e]:=by
   match l,h0 with
   |[a,b,c,d,e],_=>exact⟨a,b,c,d,e,rfl⟩
  rfl
 unfold relayAll;rw[hm,f.XM g];dsimp only;rw[H];have m:coversAll #[0,1,2,3,4] E.size=true:=by rw[h];decide +kernel
 have hf:(qX led (jk n v)).fits E.size=true:=by rw[h,<- g];exact fits_of f.lt led
 rw[m,hf]
 rfl
def jh.insert {e:Array (Int×Value)}{v:Nat}{tk:Tok}(f:KY led n v)(he:jh e.toList (z9 n)):jh (SetTable.insertAt e (gf n v) ((v:Int),.int (v:Int) tk)).toList (z9 (jk n v)):=by
 rw[SetTable.toList_insertAt,f.vs];exact(he.take _).app (.cons v tk (he.drop _))
def UK {o:Obj}{E es':Array (Int×Value)}{e:Nat}{t:SetTable}{t':SetTable}(H:h.get? a=some o)(hd:o.data=.set E e t):(h.update a (Obj.putSet es' t')).get? a=some { o with data:=.set es' (e+1) t' }:=by
 have:=aX (Obj.putSet es' t') H (by rw[putSet_of es' t' hd];rfl)
 rw[putSet_of es' t' hd]at this;exact this
def MC {v:Nat}{tk:Tok}{Q:Bool->Shared->Prop}(T:yg s.heap a led n)(y:v<8)
  (h:∀h' b,Heap.SameBut a s.heap h'->yg h' a led (ye n v)->Q b { s with heap:=h' }):
  wpAny (model prog w) A (setAddHashed a (.int (v:Int) tk) ((intKind prog w).hash (v:Int))) Q E s:=by
 obtain⟨o,m,D,q,hex,hd,he,hn⟩:=T;have hlen:m.size=(z9 n).length:=by rw[<- aR,he.length]
 have hf:(qX led n).fits m.size=true:=by rw[hlen];exact fits_of hn led
 have r:ElemsOf (intKind prog w) m.toList:=he.elems λu J=>(G6.mp J).1;have l:m.size<scanBound:=by rw[hlen];have:=Jj n;unfold scanBound;omega
 unfold setAddHashed setAddHashedIn;refine wpAny_holding (b4 (wpAny_setState_of q hd hf ?_));dsimp only;rw[byScan_of (x:=.int (v:Int) tk) rfl l r];simp only[↓reduceIte];unfold setAddByScan;refine b4 ?_;refine b4 (wpAny_rule ?_);refine b4 (wpAny_setScan_of (knd:=intKind prog w) (intKind_is _ _ _ _) q hd hf r ?_);rw[he.find];cases I:(z9 n).findIdx? λu=>decide (u=v) with
 |some j=>
  dsimp only;have l:n.testBit v=true:=by
   obtain⟨N,B,_⟩:=List.findIdx?_eq_some_iff_getElem.mp I
   have:=of_decide_eq_true B
   exact(G6.mp (this ▸ aK N)).2
  refine b5 (b5 ?_);have e:s={ s with heap:=s.heap }:=by cases s;rfl
  rw[e];refine h s.heap false (Heap.SameBut.refl a s.heap) ?_;unfold ye;rw[ah l];exact⟨o,m,D,q,hex,hd,he,hn⟩
 |none=>
  dsimp only;have l:n.testBit v=false:=by
   cases M:n.testBit v with
   |false=>rfl|true=>
    have:=List.findIdx?_eq_none_iff.mp I v (G6.mpr ⟨y,M⟩)
    simp at this
  have f:=LK hn y led l;have P:(intKind prog w).hash (v:Int)=(v:Int):=UR v y;rw[P];rw[HC f he];have H:=he.insert (tk:=tk) f;have i:(SetTable.insertAt m (gf n v) ((v:Int),Value.int (v:Int) tk)).size=(z9 (jk n v)).length:=by rw[<- aR,H.length]
  generalize SetTable.insertAt m (gf n v) ((v:Int),Value.int (v:Int) tk)=c at H i;dsimp only;refine b4 (b5 ?_);have L:(yU led n v).plain=true:=by unfold yU;exact Gr led n
  rw[L];simp only[↓reduceIte];refine b4 ?_;rw[hashByValue_scannable 8 (x:=.int (v:Int) tk) rfl];refine b5 ?_;have z:plainKind (.int (v:Int) tk)=true:=rfl;rw[z];simp only[↓reduceIte];have p:c.size<=sizeLine:=by rw[i,sizeLine_eq];have:=Jj (jk n v);omega
  refine b4 (wpAny_storeSet_of q hd ?_ p);have g:=UK (es':=c) (t':=yU led n v) q hd;have d:=Heap.SameBut.update s.heap a (Obj.putSet c (yU led n v));rw[f.full]
  by_cases t:(z9 (jk n v)).length=5
  ·have S:SetTable.grown c.size=20:=by rw[i,t];rfl
   rw[S,Ec f t H,t];simp only[Bool.not_false,Bool.true_and,bJ,↓reduceIte];refine b4 (b5 ?_);refine b4 (wpAny_storeSet_of g rfl ?_ p);refine b5 ?_;dsimp only;refine b5 ?_;have C:=UK (es':=c) (t':=qX led (jk n v)) g rfl;refine h _ true (d.trans (Heap.SameBut.update _ a _)) ?_;unfold ye;rw[l];exact⟨_,c,D+1+1,C,hex,rfl,H,f.lt⟩
  ·have K:((z9 (jk n v)).length==5)=false:=by simpa using t
   rw[K];simp only[Bool.not_false,Bool.and_false,a9,↓reduceIte];refine b5 ?_;dsimp only;refine b5 ?_;refine h _ true d ?_;unfold ye;rw[l,aq ax,];refine⟨_,c,D+1,g,hex,?_,H,f.lt⟩;rw[f.less t]
end
noncomputable abbrev jz (w:World):Bool:=!w.params.followText "set-order"
def Zn (val:Nat->Nat)(i:Nat):Nat:=((List.range i).map val).foldl ye 0
def Iz (val:Nat->Nat)(i:Nat):Zn val (i+1)=ye (Zn val i) (val i):=by
 unfold Zn;rw[bb,aG,List.foldl_append]
 rfl
section
variable {prog:Program}{A:Around}
def NI (a:Value){Q1:bU}(h:Q1 (.ref s.heap.objs.size) { s with heap:=s.heap.push (k8 (jz w)) }):
  codeAny (model prog w) A (.call (.builtin "set.__new__") ⟨[.type "set",a],[]⟩) (wants Q1 E) s:=by
 refine codeAny_of_tree ?_;show wpAny _ A.in1 (do checkBuiltinCall "set.__new__" ⟨[.type "set",a],[]⟩;again (.builtin "set.__new__" ⟨[.type "set",a],[]⟩)) _ _ s
 refine b4 (wpAny_of_eq (F.newCall_set_1 a) (b5 ⟨plainId_quiet F.plain_set_new _,codeAny_builtin F.entry_set_new ?_⟩));rw[Around.under_plainId F.plain_set_new _];unfold Builtin.«set.__new__» Builtin.Frozenset.newClass;have H:=sub_set_self;obtain⟨p,g,d,tk,os⟩:=s;dsimp only
 wp_walk
 refine wpAny_askSetting (b5 ?_);dsimp only;simp only[newObj];refine b4 (wpAny_alloc (b5 ?_));exact b5 h
end
section
variable {prog:Program}{A:Around}{R:Result->Shared->Prop}{I:Addr}{wr:bQ}{G:Array GenState->Array GenState->Prop}{P:Nat->Value->Prop}{St:Nat->Shared->Prop}
def L5 (W:WalksS prog w A.in1 I fp wr G n P St)(S:Addr)(q:S∉fp)(led:Bool)(val:Nat->Nat)(l:∀i v,P i v->∃t,v=.int ((val i:Nat):Int) t)(M:∀i,i<n->val i<8):
  ∀(k i:Nat)(s:Shared),n-i=k->i<=n->St i s->yg s.heap S led (Zn val i)->
   (∀a,Moved (S::wr) G s a->yg a.heap S led (Zn val n)->R (.ok (.ret .none)) a)->
   codeAny (model prog w) A (.builtin "set.update.loop" ⟨[.ref S,.ref I],[]⟩) R s:=by
 have p:S∉wr:=λh=>q (W.sub _ h);have H:∀b∈wr,b∈S::wr:=λb m=>au _ m;intro k
 induction k with
 |zero=>
  intro i s K hi c D E;have y:i=n:=by omega
  subst y;refine codeAny_builtin F.entry_set_update_loop ?_;rw[Around.under_plainId F.plain_set_update_loop _];show wpAny _ A.in1 (pyNext (.ref I) >>= _) _ _ s;refine b4 (W.done s _ _ c λa hm=>?_);show wpAny _ A.in1 (ret Value.none) _ _ a;exact b5 (E a (hm.mono H) (D.keep λo x=>hm.heap S _ p x))
 |succ k J=>
  intro i s K hi c D E;have d:i<n:=by omega
  refine codeAny_builtin F.entry_set_update_loop ?_;rw[Around.under_plainId F.plain_set_update_loop _];show wpAny _ A.in1 (pyNext (.ref I) >>= _) _ _ s;refine b4 (W.item i s _ _ d c λv a L f hm=>?_);obtain⟨t,rfl⟩:=l i v L;have C:yg a.heap S led (Zn val i):=D.keep λo x=>hm.heap S _ p x;show wpAny _ A.in1 (holding [Value.int ((val i:Nat):Int) t] (setAdd S (.int ((val i:Nat):Int) t)) >>= _) _ _ a;refine b4 (wpAny_holding ?_);unfold setAdd;refine wpAny_holding ?_;refine b4 ((intKind prog w).pyHash (k:=((val i:Nat):Int)) (intKind_is _ _ _ _) ?_);refine MC (s:={ a with toks:=a.toks+1 }) C (M i d) λh' b g B=>?_
  have z:yg h' S led (Zn val (i+1)):=by rw[Iz];exact B
  refine b5 ⟨plainId_quiet F.plain_set_update_loop _,J (i+1) _ (by omega) d (W.frame _ a _ _ f (le_succ _) λb m o e=>?_) z λu j r=>?_⟩
  ·rw[g.2 b (λh:b=S=>q (by rw[<- h];exact m))];exact e
  ·refine E u (Moved.trans W.gtrans ((hm.mono H).then_heap (le_succ _) λb o m e=>?_) j) r
   rw[g.2 b (λh:b=S=>m (by rw[h];exact av))];exact e
end
section
variable {prog:Program}{A:Around}
def Cp (led:Bool)(g:h.get? a=some (k8 led)):yg h a led 0:=
 ⟨_,#[],0,g,⟨rfl,rfl,rfl⟩,(by cases led<;>rfl),.nil,by decide⟩
def Nk {l:Addr}(C:A.handled=none)(y:s.heap.IsList l its.toArray)(j:IntsAre its (vs.map λ(v:Nat)=>(v:Int)))(D:∀v∈vs,v<8)
  (h:∀(h':Heap)(tk:Nat),yg h' s.heap.objs.size led (vs.foldl ye 0)->
   (∀b o,b<s.heap.objs.size->s.heap.get? b=some o->h'.get? b=some o)->Q .none { s with heap:=h',toks:=tk }):
  codeAny (model prog w) A (.call (.builtin "set.__init__") ⟨[.ref s.heap.objs.size,.ref l],[]⟩) (wants Q E) { s with heap:=s.heap.push (k8 led) }:=by
 have hlen:its.length=vs.length:=by
  have:∀{its:bP}{ns:bO},IntsAre its ns->its.length=ns.length:=λh=>by
   induction h with
   |nil=>rfl|cons _ _ _ I=>simp[I]
  rw[this j,af]
 have S:(s.heap.push (k8 led)).get? s.heap.objs.size=some (k8 led):=ar _ rfl;refine codeAny_call_builtin F.called_set.init.plain F.entry_set_init (check_set_init_1 ⟨_,S,rfl⟩ ?_);obtain⟨ob,d,a,n,m⟩:=y;obtain⟨N,M,x,u⟩:=ob;dsimp only at a m;cases a;cases m;have g1:=ae (k8 led) d;have n1:=F.sub_list_set;have U:=F.sub_list_frozenset;have P:(Value.type "list" == Value.type "dict")=false:=by decide
 have p:(s.heap.push (k8 led)).IsList l its.toArray:=⟨_,g1,rfl,n,rfl⟩;unfold Builtin.«set.__init__» noKeywords Builtin.Frozenset.updateFrom;generalize B:pyIter=PI
 wp_walk
 subst B;refine wpAny_pyIter_list p (b4 (wpAny_runValue ?_));have lt:l<s.heap.objs.size:=aH d;have sz:(s.heap.push (k8 led)).objs.size=s.heap.objs.size+1:=bc ..;have ne:l≠(s.heap.push (k8 led)).objs.size:=by rw[sz];exact aJ (a7 lt)
 have W:=(Walks.list (prog:=prog) (w:=w) (A:=A.in1.in1) (by simp[C]) (s.heap.push (k8 led)).objs.size l ne its.toArray).toS
 have f:its.toArray.size=vs.length:=by rw[aA];exact hlen
 rw[f]at W;have off:s.heap.objs.size∉[(s.heap.push (k8 led)).objs.size,l]:=by
  rw[sz];intro hm;rcases b9.mp hm with z|hm
  ·exact aJ (br _) z
  ·exact bj lt (cb.mp hm)
 have H:Zn (λi=>vs.getD i 0) vs.length=vs.foldl ye 0:=by
  unfold Zn
  congr 1
  apply bL
  ·simp
  ·intro i d a
   have hi:i<vs.length:=by simpa using a
   simp[ab,aa hi]
 refine L5 W s.heap.objs.size off led (λi=>vs.getD i 0) (λi v e=>?_) (λi hi=>?_) vs.length 0 _ rfl (zero_le _) ⟨⟨_,ar _ rfl,rfl,rfl⟩,p.push _⟩ ?_ ?_
 ·obtain⟨t,g⟩:=IntsAre.int_at j i v (by simpa using e)
  refine⟨t,g.trans ?_⟩;have hi:i<vs.length:=by
   have:=(b8.mp (show its[i]? =some v by simpa using e)).1
   omega
  congr 1
  simp[ab,ao,aa hi]
 ·rw[ab,aa hi]
  exact D _ (aK hi)
 ·exact Cp led (ae _ S)
 ·intro r mv q
  rw[H]at q;obtain⟨h',g',d',T,c⟩:=r;have K:g'=s.gens:=mv.gens;have g:d'=s.drawn:=mv.drawn;have J:c=s.os:=mv.os;subst K g J;refine b5 ?_;show wpAny _ _ (ret Value.none) _ _ _;refine b5 (h h' T q λb o L e=>mv.heap b o (λhm=>?_) (ae _ (ae _ e)));rcases b9.mp hm with z|hm
  ·exact aJ L z
  ·exact aJ (a7 L) ((cb.mp hm).trans sz)
def Nr {l:Addr}(j:A.handled=none)(t:s.heap.IsList l its.toArray)(i:IntsAre its (vs.map λ(v:Nat)=>(v:Int)))(m:∀v∈vs,v<8)
  (h:∀(h':Heap)(tk:Nat),yg h' s.heap.objs.size (jz w) (vs.foldl ye 0)->
   (∀b o,b<s.heap.objs.size->s.heap.get? b=some o->h'.get? b=some o)->Q (.ref s.heap.objs.size) { s with heap:=h',toks:=tk }):
  wpAny (model prog w) A (call (.type "set") [.ref l]) Q E s:=by
 obtain⟨c,p,d⟩:=F.called_set.mro;have a1:=F.called_set.made;have a2:=F.called_set.sub;have z:=F.called_set.notType;have y:=F.called_set.canCreate;have x:=F.typeCall_set_1 (.ref l);refine wpAny_call (codeAny_of_tree ?_);show wpAny _ _ (callAny (.type "set") _) _ _ _;refine b5 ⟨Code.quiet_builtin _ (by decide +kernel),codeAny_builtin F.entry_type_call ?_⟩
 rw[Around.under_plain (weight_type_call_type "set" [.ref l] []) rfl]
 repeat (any_goals (first|assumption|wp_step))
 refine codeAny_mono (NI (.ref l) (E:=E) (Q1:=λu s1=>u=.ref s.heap.objs.size/\s1={ s with heap:=s.heap.push (k8 (jz w)) }) ⟨rfl,rfl⟩) λr s1 a=>?_
 cases r with
 |error e=>exact a|ok n=>
  cases n with
  |ret u=>
   obtain⟨rfl,rfl⟩:=a;have T:Shared.TypeIs { s with heap:=s.heap.push (k8 (jz w)) } (.ref s.heap.objs.size) "set":=⟨_,ar _ rfl,rfl⟩
   have q:=F.called_set.init.lookup;have B:=F.called_set.init.bind (.ref s.heap.objs.size)
   repeat (any_goals (first|assumption|wp_step))
   refine codeAny_mono (Nk (E:=E) (Q:=λv s2=>v=.none/\∃h' tk,s2={ s with heap:=h',toks:=tk }/\yg h' s.heap.objs.size (jz w) (vs.foldl ye 0)/\
    ∀b o,b<s.heap.objs.size->s.heap.get? b=some o->h'.get? b=some o) (by simp[j]) t i m λh' tk S K=>⟨rfl,h',tk,rfl,S,K⟩) λg s2 H=>?_
   cases g with
   |error e=>exact H|ok f=>
    cases f with
    |ret v=>
     obtain⟨rfl,h',tk,rfl,S,K⟩:=H
     repeat (any_goals (first|assumption|wp_step))
     exact h _ _ S K
    |_=>exact H.elim
  |_=>exact a.elim
end
theorem U7:∀{l:List α}{k:Nat}{w:α},l[k]? =some w->l.Perm (w::l.eraseIdx k)
 |[],_,_,h=>by simp at h|x::l,0,w,h=>by
  simp at h;subst h;simp
 |x::l,k+1,w,h=>by
  rw[List.getElem?_cons_succ]at h;rw[List.eraseIdx_cons_succ];exact((U7 h).cons x).trans (List.Perm.swap w x _)
def Dj (next:Nat->Nat):∀(f k:Nat)(left:List α)(out:Array α),left.length=f->(pickOrder.go next f k left out).toList.Perm (out.toList++left):=by
 intro f
 induction f with
 |zero=>
  intro k left out h
  have:left=[]:=List.length_eq_zero_iff.mp h
  subst this;unfold pickOrder.go;simp
 |succ f i=>
  intro k left out h;have H:next k%left.length<left.length:=Nat.mod_lt _ (by omega)
  unfold pickOrder.go;rw[aa H];dsimp only;refine(i (k+1) _ _ (by rw[List.length_eraseIdx_of_lt H];omega)).trans ?_
  rw[Array.toList_push,aO];exact List.Perm.append_left _ (U7 (aa H)).symm
def Iv (next:Nat->Nat)(xs:Array α):(pickOrder next xs).toList.Perm xs.toList:=by
 unfold pickOrder
 have:=Dj next xs.size 0 xs.toList #[] (by simp)
 simpa using this
namespace F
def Nh:entryFor table "set.__iter__"=some Builtin.«frozenset.__iter__»:=entryFor_alias (id' := "frozenset.__iter__") (by kernel_rfl) rfl (by decide +kernel) (by kernel_rfl)
def Oy:entryFor table "set_iterator.__iter__"=some Builtin.«dict_keyiterator.__iter__»:=entryFor_alias (id' := "dict_keyiterator.__iter__") (by kernel_rfl) rfl (by decide +kernel) (by kernel_rfl)
def Vo:Manifest.owners.lookup (String.ofList ['r','o','t','a','r','e','t','i','_','t','e','s'].reverse)=some Manifest.sig_set_iterator:=by kernel_rfl
def QL:Slot "set_iterator" "__next__" "set_iterator.__next__":=
 .of (owner := "set_iterator") (n := "__next__") (by rw[typeLookup_type,builtinLookup_eq_fast];kernel_rfl) (by decide +kernel) (by decide +kernel) (by decide +kernel)
  (by first|exact .inl (by decide +kernel)|exact .inr (by decide +kernel)) (by rw[isSubtype_type];kernel_rfl)
def Vc:entryFor table "set_iterator.__next__"=some Builtin.«set_iterator.__next__»:=entryFor_of_tree (by kernel_rfl)
def Vb (a:Value):argsOk "set_iterator.__next__" ⟨[a],[]⟩:=by
 unfold argsOk;rw[signature?_of (id := "set_iterator.__next__") (n:=['_','_','t','x','e','n','_','_']) (o:=['r','o','t','a','r','e','t','i','_','t','e','s']) (by kernel_rfl) Vo];kernel_rfl
def Ox (a:Value):argsOk "set_iterator.__iter__" ⟨[a],[]⟩:=by
 unfold argsOk;rw[signature?_of (id := "set_iterator.__iter__") (n:=['_','_','r','e','t','i','_','_']) (o:=['r','o','t','a','r','e','t','i','_','t','e','s']) (by kernel_rfl) Vo];kernel_rfl
def Vd:Slot "set_iterator" "__iter__" "set_iterator.__iter__":=
 .of (owner := "set_iterator") (n := "__iter__") (by rw[typeLookup_type,builtinLookup_eq_fast];kernel_rfl) (by decide +kernel) (by decide +kernel) (by decide +kernel)
  (by first|exact .inl (by decide +kernel)|exact .inr (by decide +kernel)) (by rw[isSubtype_type];kernel_rfl)
end F
def Yh (n i:Nat):Nat:=match i with
 |0=>0|i+1=>(z9 n).getD i 0+1
def R3 (n i:Nat):Bool:=decide ((z9 n).length<i) || (SetTable.below (z9 n).toArray (Yh n i)==i)
def IQ:((List.range 256).all λn=>(List.range 9).all λi=>R3 n i)=true:=by decide +kernel
def FA (hn:n<256)(hi:i<=(z9 n).length):SetTable.below (z9 n).toArray (Yh n i)=i:=by
 have H:=Jj n;have h:=cc.mp (cc.mp IQ n (b6.mpr hn)) i (b6.mpr (by omega))
 unfold R3 at h;rw[aC (by omega),Bool.false_or,a6]at h
 exact h
def Qd (h:Heap)(I S:Addr)(slot i n e:Nat):Prop:=∃o,h.get? I=some o/\o.cls=.type "set_iterator" /\ o.data=.fields #[.int slot 0,.int i 0,.ref S,.int n 0,.int e 0]
noncomputable def yv (w:World)(a:Addr)(E:Nat)(e:Array (Int×Value)):Array (Int×Value):=if w.params.followText "set-order" then pickOrder (w.params.setOrder a E) e else e
def JL (w:World)(a:Addr)(E:Nat)(e:Array (Int×Value)):(yv w a E e).toList.Perm e.toList:=by
 unfold yv
 split
 ·exact Iv _ _
 ·exact List.Perm.refl _
def kI (w:World)(n i:Nat):Nat:=if w.params.followText "set-order" then 0 else Yh n i
section
variable {prog:Program}{A:Around}{o:Obj}{es:Array (Int×Value)}{ep:Nat}
def WY {Q:Bool->Shared->Prop}(h:Q (w.params.followText "set-order") s):wpAny (model prog w) A setsByText Q E s:=by
 unfold setsByText;exact b4 (wpAny_askSetting (b5 h))
def OV (H:s.heap.get? a=some o)(hex:o.ExactSet)(hd:o.data=.set es ep (qX (jz w) n))(he:jh es.toList (z9 n))(hn:n<256)
  (c:Q (.ref s.heap.objs.size) { s with heap:=s.heap.push { cls:=.type "set_iterator",data:=.fields #[.int 0 0,.int 0 0,.ref a,.int es.size 0,.int ep 0] } }):
  wpAny (model prog w) A (pyIter (.ref a)) Q E s:=by
 have T:s.TypeIs (.ref a) "set":=⟨o,H,hex.1⟩;have hlen:es.size=(z9 n).length:=by rw[<- aR,he.length]
 have hf:(qX (jz w) n).fits es.size=true:=by rw[hlen];exact fits_of hn _
 refine wpAny_pyIter_slot T slot_set_iter (wpAny_call_entry slot_set_iter T F.Nh ?_ (PySem.F.args_set_iter_1 _));unfold Builtin.«frozenset.__iter__»;show wpAny _ _ (Builtin.Frozenset.sizeOf a >>= _) _ _ s;unfold Builtin.Frozenset.sizeOf;refine b4 (b4 (wpAny_setEntries_of H hd hf (b5 ?_)));unfold setDrawn;refine b4 (b4 (wpAny_setState_of H hd hf ?_));dsimp only;refine b4 (WY (b5 ?_));rw[aq (λh=>by
  have b:(!w.params.followText "set-order" && (!(qX (jz w) n).plain&&decide (es.size > 1)))=true:=h;rw[Gr]at b;simp at b)]
 refine b4 (b5 ?_);refine b4 (wpAny_setEpoch_of H hd hf ?_);exact b4 (wpAny_newObj_type (b5 ⟨_,rfl,"set_iterator",_,⟨_,ar _ rfl,rfl⟩,F.QL.lookup,c⟩))
def VN {Q:Option (Value×Nat)->Shared->Prop}(c:s.heap.get? a=some o)(hd:o.data=.set es ep (qX (jz w) n))(he:jh es.toList (z9 n))(hn:n<256)(hi:i<=es.size)
  (h:Q (((yv w a ep es)[i]?).map λe=>(e.2,kI w n (i+1))) s):wpAny (model prog w) A (setNext a (kI w n i) i ep) Q E s:=by
 have hlen:es.size=(z9 n).length:=by rw[<- aR,he.length]
 have hf:(qX (jz w) n).fits es.size=true:=by rw[hlen];exact fits_of hn _
 unfold setNext;refine b4 (wpAny_setState_of c hd hf ?_);dsimp only;refine b4 (WY ?_);unfold yv kI at h;cases t:w.params.followText "set-order" with
 |true=>
  rw[t]at h;simp only[↓reduceIte]at h ⊢;have p:¬((ep != ep)=true):=by simp
  rw[aq p];unfold setWalk;refine b4 (b4 (wpAny_setState_of c hd hf ?_));dsimp only;refine b4 (WY ?_);rw[t];simp only[↓reduceIte];refine b4 (wpAny_askSetting (b5 (b5 ?_)));unfold kI;rw[t];exact h
 |false=>
  rw[t]at h;simp only[a9,↓reduceIte]at h ⊢;rw[aq (λh=>by
   have f:(!(qX (jz w) n).plain&&decide (es.size > 1))=true:=h;rw[Gr]at f;simp at f)]
  have d:(qX (jz w) n).led=true:=by rw[Eb];unfold jz;rw[t];rfl
  refine b4 ?_;show wpAny _ _ (if (!(qX (jz w) n).led&&!es.isEmpty)=true then unsupported "set:maker-not-led" else pure ()) _ _ _;rw[d];simp only[Bool.not_true,Bool.false_and,a9,↓reduceIte];refine b5 ?_;have l:SetTable.below (qX (jz w) n).place (kI w n i)=i:=by
   rw[TK];unfold kI;rw[t];exact FA hn (by omega)
  rw[l,TK];refine b5 ?_
  by_cases b:i<es.size
  ·have v:(z9 n)[i]? =some ((z9 n)[i]'(by omega)):=aa (by omega)
   have j:(z9 n).toArray[i]? =some ((z9 n)[i]'(by omega)):=by rw[List.getElem?_toArray];exact v
   have H:es[i]? =some es[i]:=Array.getElem?_eq_getElem b;rw[H]at h;rw[H,j];dsimp only;have g:Yh n (i+1)=(z9 n)[i]'(by omega)+1:=by
    show(z9 n).getD i 0+1=_;rw[ab,v]
    rfl
   rw[g]at h;exact h
  ·have H:es[i]? =none:=Array.getElem?_eq_none (by omega)
   rw[H]at h;rw[H];exact h
def Oz {I:Addr}{e:Int×Value}{Q:Option Value->Shared->Prop}(hit:Qd s.heap I a (kI w n i) i es.size ep)(d:s.heap.get? a=some o)(hex:o.ExactSet)(hd:o.data=.set es ep (qX (jz w) n))(he:jh es.toList (z9 n))(hn:n<256)(x:(yv w a ep es)[i]? =some e)
  (g:∀h',Qd h' I a (kI w n (i+1)) (i+1) es.size ep->Heap.SameBut I s.heap h'->Q (some e.2) { s with heap:=h' }):
  wpAny (model prog w) A (pyNext (.ref I)) Q E s:=by
 obtain⟨c,H,f,h⟩:=id hit;have T:s.TypeIs (.ref I) "set_iterator":=⟨c,H,f⟩;have hlen:es.size=(z9 n).length:=by rw[<- aR,he.length]
 have hf:(qX (jz w) n).fits es.size=true:=by rw[hlen];exact fits_of hn _
 unfold pyNext;refine b4 (wpAny_attempt (wpAny_callSpecial?_slot (name:=Str.ofString "__next__") T F.QL
  (wpAny_call_entry F.QL T F.Vc ?_ (F.Vb _))))
 unfold Builtin.«set_iterator.__next__»;show wpAny _ _ (fieldsOf (.ref I) >>= _) _ _ s;refine b4 (wpAny_fieldsOf H h ?_);dsimp only;refine b4 (wpAny_setEntries_of d hd hf ?_);rw[aq (by simp)]
 have hi:i<es.size:=by
  have b:=(Array.getElem?_eq_some_iff.mp x).1;have j:=(JL w a ep es).length_eq;simp at j;omega
 simp only[aE];refine b4 (VN d hd he hn (bD hi) ?_);rw[x];dsimp only[Option.map_some];refine b4 (wpAny_setField H h (by simp) ?_)
 have b:(s.heap.update I (Obj.mapFields (·.setIfInBounds 0 (rawInt (kI w n (i+1)))))).get? I=some (Obj.mapFields (·.setIfInBounds 0 (rawInt (kI w n (i+1)))) c):=aX _ H (Obj.isFreed_of_fields (Obj.data_mapFields h _));refine b4 (wpAny_setField b (Obj.data_mapFields h _) (by simp) ?_)
 refine b5 ⟨e.2,rfl,b5 (g _ ?_ ((Heap.SameBut.update ..).trans (Heap.SameBut.update ..)))⟩;refine⟨_,aX _ b (Obj.isFreed_of_fields (Obj.data_mapFields (Obj.data_mapFields h _) _)),(Obj.cls_mapFields ..).trans ((Obj.cls_mapFields ..).trans f),?_⟩;rw[Obj.data_mapFields (Obj.data_mapFields h _)];simp[rawInt]
def OA {I:Addr}{Q:Option Value->Shared->Prop}(d:A.handled=none)(hit:Qd s.heap I a (kI w n es.size) es.size es.size ep)(c:s.heap.get? a=some o)(hex:o.ExactSet)(hd:o.data=.set es ep (qX (jz w) n))(he:jh es.toList (z9 n))(hn:n<256)
  (g:∀h',Heap.ExtBut I s.heap h'->Q none { s with heap:=h' }):wpAny (model prog w) A (pyNext (.ref I)) Q E s:=by
 obtain⟨i,h,f,H⟩:=id hit;have e:s.TypeIs (.ref I) "set_iterator":=⟨i,h,f⟩;have hlen:es.size=(z9 n).length:=by rw[<- aR,he.length]
 have hf:(qX (jz w) n).fits es.size=true:=by rw[hlen];exact fits_of hn _
 unfold pyNext;refine b4 (wpAny_attempt (wpAny_callSpecial?_slot (name:=Str.ofString "__next__") e F.QL
  (wpAny_call_entry F.QL e F.Vc ?_ (F.Vb _))))
 unfold Builtin.«set_iterator.__next__»;show wpAny _ _ (fieldsOf (.ref I) >>= _) _ _ s;refine b4 (wpAny_fieldsOf h H ?_);dsimp only;refine b4 (wpAny_setEntries_of c hd hf ?_);rw[aq (by simp)]
 simp only[aE];refine b4 (VN c hd he hn (aj _) ?_);have x:(yv w a ep es)[es.size]? =none:=Array.getElem?_eq_none (by
  have j:=(JL w a ep es).length_eq;simp at j;omega)
 rw[x];dsimp only[Option.map_none];refine b4 (wpAny_setField h H (by simp) ?_)
 show wpAny _ _ (newExc (.type "StopIteration") [] >>= _) _ _ _;refine b4 ?_;simp only[newExc,newTuple];refine b4 (wpAny_newObj_type ?_ (by size_fits))
 refine b4 (m:=firstArgMember _ _) (wpAny_of_eq (a:=Value.none) (by first|rfl|(simp only[firstArgMember];rfl)) ?_)
 refine wpAny_newObj_type ?_ (by size_fits)
 simp only[raiseNew];refine b4 (wpAny_handled ?_)
 first|rw[show A.in1.handled=none from d]|rw[d]
 refine b4 (b5 (wpAny_throw ?_));refine b4 (wpAny_isInstance (T := "StopIteration") (b:=true) ⟨_,ar _ rfl,rfl⟩ isSubtype_stop ?_);exact b5 (g _ (((Heap.SameBut.update ..).extBut.push _).push _))
end
def Qd.typeIs {I S:Addr}{slot e:Nat}(h:Qd s.heap I S slot i n e):s.TypeIs (.ref I) "set_iterator":=let ⟨o,H,c,_⟩:=h;⟨o,H,c⟩
section
variable {prog:Program}{A:Around}{o:Obj}{es:Array (Int×Value)}{ep:Nat}
def OD {I S:Addr}{slot m e:Nat}(hit:Qd s.heap I S slot i m e)(h:Q (.ref I) s):wpAny (model prog w) A (pyIter (.ref I)) Q E s:=by
 refine wpAny_pyIter_slot hit.typeIs F.Vd (wpAny_call_entry F.Vd hit.typeIs F.Oy ?_ (F.Ox _));show wpAny _ _ (ret (.ref I)) _ _ s;exact b5 ⟨_,rfl,"set_iterator",_,hit.typeIs,F.QL.lookup,h⟩
def Walks.setP (p:A.handled=none)(I a:Addr)(g:a≠I)(hex:o.ExactSet)(hd:o.data=.set es ep (qX (jz w) n))(he:jh es.toList (z9 n))(hn:n<256):
  Walks prog w A I [I,a] [I] es.size (λi v=>∃e,(yv w a ep es)[i]? =some e/\v=e.2) (λi h=>Qd h I a (kI w n i) i es.size ep/\h.get? a=some o) where
 sub:=λb H=>by simp at H;simp[H]
 frame:=λ_ _ _ st m=>⟨let ⟨x,h1,q⟩:=st.1;⟨x,m I (by simp) x h1,q⟩,m a (by simp) o st.2⟩
 item:=λi s Q E hi st f=>by
  have z:(yv w a ep es).size=es.size:=by have:=(JL w a ep es).length_eq;simpa using this
  have l:(yv w a ep es)[i]? =some ((yv w a ep es)[i]'(by omega)):=Array.getElem?_eq_getElem (by omega)
  refine Oz st.1 st.2 hex hd he hn l λh' d c=>?_;refine f _ h' s.toks ⟨_,l,rfl⟩ ⟨d,?_⟩ λb o H e=>c.extBut b o (λh=>H (by simp[h])) e
  exact c.extBut a o g st.2
 done:=λs Q E st f=>OA p st.1 st.2 hex hd he hn λh' j=>f h' s.toks λb o H e=>j b o (λh=>H (by simp[h])) e
 self:=λ_ _ _ _ st f=>OD st.1 f
def Lf:typeLookup (.type "set") "__len__"=pure (some (.builtin "set.__len__")):=by rw[typeLookup_type,builtinLookup_eq_fast];kernel_rfl
def OO {Q:List Value->Shared->Prop}(hh:A.handled=none)(J:s.heap.get? a=some o)(hex:o.ExactSet)(hd:o.data=.set es ep (qX (jz w) n))(he:jh es.toList (z9 n))(hn:n<256)
  (hQ:∀(h':Heap)(tk:Nat),(∀b o,b<s.heap.objs.size->s.heap.get? b=some o->h'.get? b=some o)->s.heap.objs.size<=h'.objs.size->Q ((yv w a ep es).toList.map (·.2)) { s with heap:=h',toks:=tk }):
  wpAny (model prog w) A (collect (.ref a)) Q E s:=by
 have hT0:s.TypeIs (.ref a) "set":=⟨o,J,hex.1⟩;have t:a<s.heap.objs.size:=aH J;unfold collect;refine b4 (wpAny_runValue (codeAny_builtin PySem.F.entry_proto_collect ?_));rw[Around.under_plainId PySem.F.plain_proto_collect _];show wpAny _ A.in1 (newList [] >>= λl=>again (.builtin "list.__iadd__" ⟨[l,.ref a],[]⟩)) _ _ s;refine b4 (wpAny_newObj_type ?_);refine b5 ⟨plainId_quiet plain_list_iadd _,codeAny_builtin PySem.F.entry_list_iadd ?_⟩;rw[Around.under_plainId plain_list_iadd _];show wpAny _ A.in1 (Builtin.List.listExtendWith (.ref s.heap.objs.size) (.ref a) (.ref s.heap.objs.size)) _ _ _;have f:(s.heap.push { cls:=.type "list",data:=.seq ([]:bP).toArray }).get? a=some o:=ae _ J;have hT:Shared.TypeIs { s with heap:=s.heap.push { cls:=.type "list",data:=.seq ([]:bP).toArray } } (.ref a) "set":=⟨o,f,hex.1⟩
 unfold Builtin.List.listExtendWith;refine b4 (wpAny_typeOf hT ?_);have B:Builtin.List.listSameRef (.ref s.heap.objs.size) (.ref a)=false:=by simp[Builtin.List.listSameRef];exact bj t
 have Y:(Value.type "set" == Value.type "list")=false:=by decide
 have X:(Value.type "set" == Value.type "tuple")=false:=by decide
 simp only[B,Y,X,Bool.or_false,a9,if_false];refine b4 (OV f hex hd he hn ?_);refine b4 (wpAny_holding ?_);unfold Builtin.List.listLengthHint;generalize y:s.heap.push { cls:=.type "list",data:=.seq ([]:bP).toArray }=H;have m:H.objs.size=s.heap.objs.size+1:=by rw[<- y,bc]
 have q:H.get? a=some o:=by rw[<- y];exact f
 have U:H.get? s.heap.objs.size=some { cls:=.type "list",data:=.seq ([]:bP).toArray }:=by rw[<- y];exact ar _ rfl
 generalize i:({ cls:=.type "set_iterator",data:=.fields #[.int 0 0,.int 0 0,.ref a,.int es.size 0,.int ep 0] }:Obj)=io;have g:Shared.TypeIs { s with heap:=H.push io } (.ref a) "set":=⟨o,ae _ q,hex.1⟩
 have M:(H.push io).get? H.objs.size=some io:=ar _ (by rw[<- i];rfl)
 refine b4 (wpAny_specialOf g Lf ?_)
 wp_delta
 refine b4 (wpAny_isInstance (b:=true) g (by rw[isSubtype_type];kernel_rfl) ?_)
 show wpAny _ A.in1 (typeOf (Value.ref a) >>= _) _ _ _;refine b4 (wpAny_typeOf g ?_);refine b5 ?_;show wpAny _ A.in1 (rule "list.extend.makes-room" >>= λ_=>Builtin.List.listTouch (.ref s.heap.objs.size) >>= λ_=>
  again (.builtin "list.extend.loop" ⟨[.ref s.heap.objs.size,.ref H.objs.size,.ref s.heap.objs.size],[]⟩)) _ _ _
 refine b4 (wpAny_rule ?_);have u:(H.push io).get? s.heap.objs.size=some { cls:=.type "list",data:=.seq ([]:bP).toArray }:=ae _ U;refine b4 ?_;show wpAny _ A.in1 (updateSeq s.heap.objs.size (·.push .none) >>= λ_=>updateSeq s.heap.objs.size (·.pop)) _ _ _;refine b4 (wpAny_updateSeq u rfl ?_);have r:=aX (Obj.mapSeq (·.push Value.none)) u rfl;refine wpAny_updateSeq r rfl ?_;have P:=aX (Obj.mapSeq (·.pop)) r rfl;have d:∀b o,b≠s.heap.objs.size->(H.push io).get? b=some o->(((H.push io).update s.heap.objs.size (Obj.mapSeq (·.push Value.none))).update s.heap.objs.size (Obj.mapSeq (·.pop))).get? b=some o:=
  λb o p e=>(aP _ _ (Ne.symm p)).trans ((aP _ _ (Ne.symm p)).trans e)
 have K:a≠H.objs.size:=by rw[m];exact aJ (a7 t)
 have x:H.objs.size≠s.heap.objs.size:=by rw[m];exact Nat.succ_ne_self _
 have S:a≠s.heap.objs.size:=aJ t;have W:=(Walks.setP (prog:=prog) (w:=w) (A:=A.in1) (by simp[hh]) H.objs.size a K hex hd he hn).toS
 have N:s.heap.objs.size∉[H.objs.size,a]:=λhm=>by
  rcases b9.mp hm with z|hm
  ·exact x z.symm
  ·exact S (cb.mp hm).symm
 have hlen:es.size=(z9 n).length:=by rw[<- aR,he.length]
 have h8:=Jj n;refine b5 ⟨plainId_quiet PySem.F.plain_extend_loop _,codeAny_extend_loopS W (by rw[sizeLine_eq];omega) _ N _ es.size 0 _ _ _ rfl (zero_le _) ⟨?_,d a o S (ae _ q)⟩ P (ItemsOf.nil _) λC c c' hm v h=>?_⟩
 ·refine⟨io,d _ _ x M,by rw[<- i],?_⟩
  rw[<- i]
  have:kI w n 0=0:=by unfold kI Yh;split<;>rfl
  rw[this]
  rfl
 show wpAny _ A (load s.heap.objs.size >>= _) _ _ C;refine b4 (wpAny_load v ?_);have hl:c.toList=(yv w a ep es).toList.map (·.2):=by
  have I:(yv w a ep es).size=es.size:=by have:=(JL w a ep es).length_eq;simpa using this
  apply List.ext_getElem?
  intro j
  by_cases Z:j<es.size
  ·have B:c[j]? =some (c[j]'(by rw[h.1];exact Z)):=Array.getElem?_eq_getElem (by rw[h.1];exact Z)
   obtain⟨e,Y,X⟩:=h.2 j _ B;rw[bG,B,ao,bG,Y,X]
   rfl
  ·rw[aB (by rw[aR,h.1];omega),aB (by rw[af,aR,I];omega)]
 show wpAny _ A (pure c.toList) _ _ C;rw[hl];obtain⟨h',g',d',T,D⟩:=C;have e1:g'=s.gens:=hm.gens;have e2:d'=s.drawn:=hm.drawn;have e3:D=s.os:=hm.os;subst e1 e2 e3;refine b5 (hQ h' T (λb ob p e=>?_) ?_)
 ·refine hm.heap b ob (λL=>?_) (d b ob (aJ p) (ae _ (by rw[<- y];exact ae _ e)))
  rcases b9.mp L with z|z
  ·exact aJ p z
  ·exact aJ (a7 p) ((cb.mp z).trans m)
 ·exact bD (aH (show h'.get? s.heap.objs.size=_ from v))
end
theorem Tr:∀{a b:bO},a.Perm b->a.Pairwise (·<=·)->b.Pairwise (·<=·)->a=b
 |[],b,p,_,_=>by rw[List.nil_perm.mp p]|x::a,[],p,_,_=>absurd p.length_eq (by simp)|x::a,y::b,p,H,h=>by
  have d:x∈y::b:=p.mem_iff.mp (av ..);have c:y∈x::a:=p.mem_iff.mpr (av ..);have e:x=y:=by
   rcases b9.mp d with e|e
   ·exact e
   ·rcases b9.mp c with E|E
    ·exact E.symm
    ·have g:=(List.pairwise_cons.mp h).1 x e
     have f:=(List.pairwise_cons.mp H).1 y E;omega
  subst e;rw[Tr (List.Perm.cons_inv p) (List.pairwise_cons.mp H).2 (List.pairwise_cons.mp h).2]
def Dx (n v i:Nat):(ye n v).testBit i=(n.testBit i || decide (i=v)):=by
 unfold ye
 by_cases h:n.testBit v=true
 ·rw[ah h]
  by_cases e:i=v
  ·subst e;simp[h]
  ·simp[e]
 ·rw[aq h]
  unfold jk;rw[Nat.testBit_or,Nat.one_shiftLeft,Nat.testBit_two_pow]
  congr 1
  by_cases e:v=i
  ·subst e;simp
  ·simp[e,Ne.symm e]
theorem T3 (i:Nat):∀(vs:bS)(n:Nat),(vs.foldl ye n).testBit i=(n.testBit i || decide (i∈vs))
 |[],n=>by simp|v::vs,n=>by
  rw[List.foldl_cons,T3 i vs,Dx]
  by_cases e:i=v
  ·simp[e]
  ·simp[e]
def LJ (vs:bS):z9 (vs.foldl ye 0)=(List.range 8).filter λi=>decide (i∈vs):=by
 unfold z9
 congr 1
 funext i
 rw[T3];simp
def L9 (n:Nat):((z9 n).map λ(i:Nat)=>(i:Int)).Pairwise (·<=·):=by
 rw[List.pairwise_map];unfold z9;refine List.Pairwise.imp ?_ (List.Pairwise.filter _ bz);intro a b h;omega
def jh.snd (h:jh es vs):∀e∈es,∃tk,e.2=.int e.1 tk:=by
 induction h with
 |nil=>intro e he;cases he|cons v tk h i=>
  intro e he;rcases b9.mp he with rfl|he
  ·exact⟨tk,rfl⟩
  ·exact i e he
theorem Ub:∀{l:List (Int×Value)},(∀e∈l,∃tk,e.2=.int e.1 tk)->IntsAre (l.map (·.2)) (l.map (·.1))
 |[],_=>.nil|e::l,h=>by
  obtain⟨tk,he⟩:=h e (av ..);rw[aQ,aQ,he];exact .cons _ tk (Ub λx H=>h x (au _ H))
section
variable {prog:Program}{A:Around}{o:Obj}{es:Array (Int×Value)}{ep:Nat}
def Mx (u:A.handled=none)(S:yg s.heap a (jz w) n)
  (h:∀(h':Heap)(tk:Nat)(l:Addr)(I:bP)(c:Nat),s.heap.objs.size<=l->h'.get? l=some { cls:=.type "list",data:=.seq I.toArray c }->IntsAre I ((z9 n).map λ(i:Nat)=>(i:Int))->
   (∀b o,s.heap.get? b=some o->h'.get? b=some o)->Q (.ref l) { s with heap:=h',toks:=tk }):
  wpAny (model prog w) A (call (.builtin "sorted") [.ref a]) Q E s:=by
 obtain⟨o,f,p,t,hex,hd,he,hn⟩:=S;refine Calls.call_function_entry kind_sorted plain_sorted entry_sorted (args_sorted1 _) ?_;unfold Builtin.«sorted»;refine b4 (m:=checkCount "sorted" 1 1 _) (b5 ?_);refine b4 (OO (by simp[u]) t hex hd he hn λd tk kp hle=>?_)
 have g:=JL w a p f;have q:IntsAre ((yv w a p f).toList.map (·.2)) ((yv w a p f).toList.map (·.1)):=Ub λe hm=>he.snd e (g.mem_iff.mp hm);have H:((yv w a p f).toList.map (·.1)).Perm ((z9 n).map λ(i:Nat)=>(i:Int)):=by
  rw[<- he.map1];exact g.map _
 have hlen:((yv w a p f).toList.map (·.2)).length<=8:=by
  rw[af,g.length_eq,he.length];exact Jj n
 generalize (yv w a p f).toList.map (·.2)=vs at q hlen;generalize (yv w a p f).toList.map (·.1)=ns at q H;refine b4 (wpAny_newList ?_);have L:(d.push (seqObj "list" vs.toArray 0)).get? d.objs.size=some (seqObj "list" vs.toArray 0):=ar _ rfl;show wpAny _ _ _ _ _ { s with heap:=d.push (seqObj "list" vs.toArray 0),toks:=tk }
 refine b4 (wpAny_holding (wpAny_call_entry slot_list_sort ⟨_,L,rfl⟩ entry_list_sort (list_sort_tree L q (by omega) λout N a1 a2 z=>⟨_,rfl,?_⟩) (args_list_sort _)))
 have j:N=(z9 n).map λ(i:Nat)=>(i:Int):=Tr (a2.trans H) z (L9 n);subst j;refine b5 ⟨_,rfl,?_⟩;have y:=get?_update_seq L (λ_=>(#[]:Array Value));have x:=ae (seqObj "list" #[] 0) (ae (seqObj "tuple" vs.toArray 0) y);obtain⟨c,v⟩:∃c,(sortedHeap (d.push (seqObj "list" vs.toArray 0)) d.objs.size vs out).get? d.objs.size=some (seqObj "list" out c):=⟨_,get?_update_seq x (λ_=>out)⟩;refine h _ tk d.objs.size out.toList c hle ?_ a1 λb ob e=>?_
 ·rw[Array.toArray_toList]
  exact v
 ·have r:b<s.heap.objs.size:=aH e
  have K:=kp b ob r e;have nb:d.objs.size≠b:=bj (aI r hle);unfold sortedHeap;refine(aP _ _ nb).trans ?_;refine ae _ (ae _ ?_);exact(aP _ _ nb).trans (ae _ K)
end
section
def Aa (K:Frag)(w:World):List V->Hp->VK->Prop:=λxs H Q=>∃(p:Addr) (vs:bS),xs=[.ref p]/\qM K H p (vs.map λ(v:Nat)=>V.int (v:Int))/\(∀v∈vs,v<8)/\∀l,H l=none->Q (.ref l) (upd H l (.ext λh=>yg h l (jz w) (vs.foldl ye 0)))
def LZ (l:X.calm=true):jU X (.type "set") (Aa X.K X.w):=by
 intro pins s σ H xs us Q I r h;obtain⟨p,vs,rfl,g,m,q⟩:=h;obtain⟨u,rfl,d⟩:=vals1 r;cases d;obtain⟨i,c,⟨o,k,t,n,B,E⟩,_⟩:=I.list g;have f:Vals ((vs.map λ(v:Nat)=>(v:Int)).map V.int) i:=by rw[aL];exact c
 refine Nr (I.ok.hd l) ⟨o,t,n,k,E⟩ (intsAre_of f) m λh' tk S kp=>?_;refine⟨.ref s.heap.objs.size,_,I.laid (t':=tk) (o:=.ext λh=>yg h s.heap.objs.size (jz X.w) (vs.foldl ye 0)) (λb o e=>kp b o (aH e) e) (aj _) ⟨S,?_,λy x a b=>a.keep b⟩,rfl,q _ (I.hok.fresh (aj _))⟩;obtain⟨o,z,A,j,_⟩:=S;exact⟨o,j⟩
theorem JP:∀{ns:bO}{i:bP},IntsAre i ns->Vals (ns.map V.int) i
 |_,_,.nil=>.nil|_,_,.cons n t h=>.cons ⟨t,rfl⟩ (JP h)
def NM (f:X.calm=true):jU X (.builtin "sorted") (λxs H Q=>∃(p:Addr) (n:Nat),xs=[.ref p]/\H p=some (.ext λh=>yg h p (jz X.w) n)/\∀l,H l=none->Q (.ref l) (upd H l (.lst ((z9 n).map λ(v:Nat)=>V.int (v:Int))))):=by
 intro pins s σ H xs us Q I r h;obtain⟨p,n,rfl,e,q⟩:=h;obtain⟨u,rfl,d⟩:=vals1 r;cases d;have S:yg s.heap p (jz X.w) n:=(show jy X.prog X.w H s.heap p (.ext λh=>yg h p (jz X.w) n) from I.hok p _ e).1
 refine Mx (I.ok.hd f) S λh' tk l i c b g hi kp=>?_;have a:=JP hi;rw[aL]at a;refine⟨.ref l,_,I.laid (t':=tk) (o:=.lst ((z9 n).map λ(v:Nat)=>V.int (v:Int))) kp b ⟨?_,i,c,a,g⟩,rfl,q _ (I.hok.fresh b)⟩;rw[af,sizeLine_eq]
 have:=Jj n
 omega
noncomputable def ZP:List Int->Option (bS)
 |[]=>some []|i::is=>if 0<=i/\i<8 then(ZP is).map (i.toNat::·) else none
theorem Tq:∀{is:bO}{vs:bS},ZP is=some vs->is=vs.map (λ(v:Nat)=>(v:Int))/\∀v∈vs,v<8
 |[],_,e=>by cases e;exact⟨rfl,λv H=>by cases H⟩|i::is,vs,e=>by
  unfold ZP at e
  by_cases h:0<=i/\i<8
  ·rw[ah h]at e
   cases E:ZP is with
   |none=>rw[E]at e;cases e|some us=>
    rw[E]at e;cases e;obtain⟨b,a⟩:=Tq E;refine⟨?_,λv H=>?_⟩
    ·rw[aQ,<- b,Int.toNat_of_nonneg h.1]
    ·rcases b9.mp H with rfl|H
     ·omega
     ·exact a v H
  ·rw[aq h]at e;cases e
def Gw:W->Hx->R W:=λw A=>match w with
 |.ref n=>match A[n]? with
  |some (.lst ws)=>match intsOf ws with
   |some is=>match ZP is with
    |some vs=>.ok (.ref A.length) (A++[.lst (((List.range 8).filter λi=>decide (i∈vs)).map λ(i:Nat)=>W.int (i:Int))])|none=>.bad
   |none=>.bad
  |_=>.bad
 |_=>.bad
def Y1 (m:Ev):Ev:=λρ A=>(m ρ A).bind λw A1=>Gw w A1
end
def IG (a b:Value):argsOk "sum" ⟨[a,b],[]⟩:=by unfold argsOk;kernel_rfl
def sub_list_str:isSubtype (.type "list") (.type "str")=pure false:=by rw[isSubtype_type];kernel_rfl
def sub_list_bytes:isSubtype (.type "list") (.type "bytes")=pure false:=by rw[isSubtype_type];kernel_rfl
def sub_list_bytearray:isSubtype (.type "list") (.type "bytearray")=pure false:=by rw[isSubtype_type];kernel_rfl
noncomputable abbrev wg (xs:Array Value)(c:Nat):Obj:={ cls:=.type "list",dict:=none,data:=.seq xs c,slots:=#[] }
section
variable {prog:Program}{A:Around}{R:Result->Shared->Prop}{I:Addr}{wr:bQ}{G:Array GenState->Array GenState->Prop}{P:Nat->Value->Prop}{St:Nat->Shared->Prop}
def Ip (W:WalksS prog w A.in1 I fp wr G n P St)(S B:Addr)(z:S∉fp)(hBS:B<=S)(ad:Nat->Addr)(a:Nat->List Value)(q:∀i v,P i v->v=.ref (ad i))(m:∀i,i<n->ad i≠S/\ad i∉wr)(hwS:∀b∈wr,b<S):
  ∀(k i:Nat)(s:Shared)(T:Addr)(c Q:Nat)(acc:bP),n-i=k->i<=n->St i s->s.heap.get? S=some (wg #[.ref T] c)->T≠S->T∉wr->s.heap.get? T=some (wg acc.toArray Q)->
   (∀j,i<=j->j<n->∃cj,s.heap.get? (ad j)=some (wg (a j).toArray cj))->(acc++(((List.range' i k).map a).flatten)).length<=sizeLine->
   (∀d U c',Moved (S::wr) G s d->d.heap.get? U=some (wg (acc++(((List.range' i k).map a).flatten)).toArray c')->((k=0/\U=T)∨B<=U)->R (.ok (.ret (.ref U))) d)->
   codeAny (model prog w) A (.builtin "sum.loop" ⟨[.ref I,.ref S,rawInt 2,rawInt 0],[]⟩) R s:=by
 have hSw:S∉wr:=λh=>z (W.sub _ h);have f:∀b∈wr,b∈S::wr:=λb g=>au _ g;intro k
 induction k with
 |zero=>
  intro i s T c Q acc hk hi t K hTS p hT hl J M;have hin:i=n:=by omega
  subst hin;refine codeAny_builtin PySem.F.entry_sum_loop ?_;rw[Around.under_plainId plain_sum_loop _];show wpAny _ A.in1 (seqItems? (.ref S) >>= _) _ _ s;refine b4 (wpAny_seqItems K rfl ?_);show wpAny _ A.in1 (tryCatch (pyNext (.ref I)) _ >>= _) _ _ s;refine b4 (wpAny_tryCatch (W.done s _ _ t λd hm=>?_));refine b5 (M d T Q (hm.mono f) ?_ (.inl ⟨rfl,rfl⟩))
  have:=hm.heap T _ p hT
  simpa using this
 |succ k ih=>
  intro i s T c Q acc hk hi t K hTS p hT hl J M;have H:i<n:=by omega
  refine codeAny_builtin PySem.F.entry_sum_loop ?_;rw[Around.under_plainId plain_sum_loop _];show wpAny _ A.in1 (seqItems? (.ref S) >>= _) _ _ s;refine b4 (wpAny_seqItems K rfl ?_);show wpAny _ A.in1 (tryCatch (pyNext (.ref I)) _ >>= _) _ _ s;refine b4 (wpAny_tryCatch (W.item i s _ _ H t λv d hP r hm=>?_));have hv:=q i v hP;subst hv;have E:=hm.heap S _ hSw K;have hT':=hm.heap T _ p hT;obtain⟨ci,hli⟩:=hl i (aj _) H;have x:=hm.heap (ad i) _ (m i H).2 hli;rw[bK,aQ,aZ,<- aO]at J M;have Z:(acc++a i).length<=sizeLine:=by rw[aw]at J;omega
  show wpAny _ A.in1 ((holding [Value.ref (ad i)] (binaryOp .Add (.ref T) (.ref (ad i)))).attempt >>= _) _ _ _;refine b4 (wpAny_attempt (wpAny_holding (PySem.P.add_list hT' x ?_ (by rw[aA,aA,<- aw];exact Z))))
  have ea:acc.toArray++(a i).toArray=(acc++a i).toArray:=by simp
  rw[ea];have L:S<d.heap.objs.size:=aH E;have D:=ae (wg (acc++a i).toArray 0) E;have hN1:(d.heap.push (wg (acc++a i).toArray 0)).get? d.heap.objs.size=some (wg (acc++a i).toArray 0):=ar _ rfl;show wpAny _ A.in1 (updateSeq S (λ_=>#[.ref d.heap.objs.size]) >>= _) _ _ _;refine b4 (wpAny_updateSeq D rfl ?_);have C:=aX (Obj.mapSeq λ_=>#[Value.ref d.heap.objs.size]) D rfl;refine b4 (wpAny_letGo ?_);have N:d.heap.objs.size≠S:=bj L;have l:∀b o,b≠S->d.heap.get? b=some o->(((d.heap.push (wg (acc++a i).toArray 0)).update S (Obj.mapSeq λ_=>#[Value.ref d.heap.objs.size])).update S (Obj.mapSeq λ_=>#[Value.ref d.heap.objs.size])).get? b=some o:=
   λb o g e=>(aP _ _ (Ne.symm g)).trans ((aP _ _ (Ne.symm g)).trans (ae _ e))
  have Y:d.heap.objs.size∉wr:=λhm2=>aW _ (lt_trans (hwS _ hm2) L);refine b4 (wpAny_updateSeq C rfl (b5 ⟨plainId_quiet plain_sum_loop _,ih (i+1) _ d.heap.objs.size _ 0 (acc++a i) (by omega) H (W.frame _ d _ _ r (by first|exact aj _|exact le_succ _|omega) λb g o e=>l b o (λh=>z (h ▸ g)) e) (aX _ C rfl) N Y ?_ ?_ J λX T'' c'' u y hor=>?_⟩))
  ·exact(aP _ _ (Ne.symm N)).trans ((aP _ _ (Ne.symm N)).trans hN1)
  ·intro j h1 h2
   obtain⟨cj,hj⟩:=hl j (by omega) h2
   exact⟨cj,l _ _ (m j h2).1 (hm.heap _ _ (m j h2).2 hj)⟩
  ·refine M X T'' c'' (Moved.trans W.gtrans ((hm.mono f).then_heap (by first|exact aj _|exact le_succ _|omega) λb o g e=>l b o (λh=>g (by rw[h];exact av)) e) u) y (.inr ?_)
   rcases hor with ⟨_,rfl⟩|h
   ·exact bD (Nat.lt_of_le_of_lt hBS L)
   ·exact h
def LG {p q:Addr}{N:Nat}{a:bQ}{itss:List (bP)}(hh:A.handled=none)(x:s.heap.IsList p (a.map Value.ref).toArray)(S:s.heap.get? q=some (wg #[] N))
  (hlen:a.length=itss.length)(U:∀i,i<a.length->∃c,s.heap.get? (a.getD i 0)=some (wg (itss.getD i []).toArray c))(B:a≠[])(Z:itss.flatten.length<=sizeLine)
  (h:∀(h':Heap)(tk:Nat)(l:Addr)(c:Nat),s.heap.objs.size<=l->h'.get? l=some (wg itss.flatten.toArray c)->(∀b o,s.heap.get? b=some o->h'.get? b=some o)->Q (.ref l) { s with heap:=h',toks:=tk }):
  wpAny (model prog w) A (call (.builtin "sum") [.ref p,.ref q]) Q E s:=by
 refine call_function_tree PySem.F.kind_sum PySem.F.plain_sum PySem.F.entry_sum (IG _ _) ?_;unfold Builtin.«sum»;simp only[aS,length_nil];rw[aq (by decide)]
 refine b4 (wpAny_of_eq (show Builtin.Builtins.bindParams "sum" ["start"] 0 ⟨[.ref q],[]⟩=pure [some (.ref q)] from rfl) ?_)
 refine b4 (wpAny_pyIter_list x ?_);refine b4 (b5 ?_);generalize d:({ cls:=.type "list_iterator",data:=.fields #[.ref p,.int 0 0] }:Obj)=io;have m:(s.heap.push io).get? q=some (wg #[] N):=ae _ S;have I:Shared.TypeIs { s with heap:=s.heap.push io } (.ref q) "list":=⟨_,m,rfl⟩
 simp only[forIn_cons,forIn_nil];refine b4 (b4 (b4 (wpAny_isInstance (b:=false) I sub_list_str ?_)));simp only[a9,if_false];refine b5 (b4 (b4 (wpAny_isInstance (b:=false) I sub_list_bytes ?_)));simp only[a9,if_false];refine b5 (b4 (b4 (wpAny_isInstance (b:=false) I sub_list_bytearray ?_)));simp only[a9,if_false];refine b5 (b5 ?_);refine b4 (wpAny_newObj_type ?_);have sz:(s.heap.push io).objs.size=s.heap.objs.size+1:=bc ..;have g:p<s.heap.objs.size:=by obtain⟨o,e,_⟩:=x;exact aH e
 have f:q<s.heap.objs.size:=aH S;have ltI:s.heap.objs.size<(s.heap.push io).objs.size:=by rw[sz];exact br _
 have L:∀b,b<s.heap.objs.size->b<(s.heap.push io).objs.size:=λb D=>lt_trans D ltI;have W:=(Walks.list (prog:=prog) (w:=w) (A:=A.in1) (by simp[hh]) s.heap.objs.size p (aJ g) (a.map Value.ref).toArray).toS
 have M:(a.map Value.ref).toArray.size=a.length:=by simp
 rw[M]at W;have J:(s.heap.push io).objs.size∉[s.heap.objs.size,p]:=λhm=>by
  rcases b9.mp hm with z|hm
  ·exact bj ltI z
  ·exact bj (L p g) (cb.mp hm)
 have t:∀i,i<a.length->a.getD i 0<s.heap.objs.size:=λi hi=>by obtain⟨c,e⟩:=U i hi;exact aH e
 have K:(s.heap.push io).get? s.heap.objs.size=some io:=ar _ (by rw[<- d];rfl)
 have H:((List.range' 0 a.length).map λj=>itss.getD j []).flatten=itss.flatten:=by
  congr 1
  rw[hlen]
  apply bL
  ·simp
  ·intro i h1 h2
   simp[ab,aa h2]
 refine b5 ⟨plainId_quiet plain_sum_loop _,Ip W (s.heap.push io).objs.size s.heap.objs.size J (bD ltI) (λi=>a.getD i 0) (λi=>itss.getD i []) (λi v e=>?_) (λi hi=>⟨aJ (L _ (t i hi)),λhm=>?_⟩) (λb D=>?_)
  a.length 0 _ q 0 N [] (by omega) (zero_le _) ⟨⟨io,ae _ K,by rw[<- d],by rw[<- d];rfl⟩,(x.push _).push _⟩ (ar _ rfl) (aJ (L q f)) (λhm=>?_) (ae _ m) (λj _ hj=>?_) ?_ λY X c' hm n y=>?_⟩
 ·have hi:i<a.length:=by
   have:=(Array.getElem?_eq_some_iff.mp e).1
   simpa using this
  have r:(a.map Value.ref)[i]? =some v:=by simpa using e
  rw[ao,aa hi]at r;rw[ab,aa hi];exact(aD r).symm
 ·exact aJ (t i hi) (cb.mp hm)
 ·rw[cb.mp D];exact ltI
 ·exact aJ f (cb.mp hm)
 ·obtain⟨c,e⟩:=U j hj
  exact⟨c,ae _ (ae _ e)⟩
 ·rw[nil_append,H];exact Z
 ·rw[nil_append,H]at n
  have hB:s.heap.objs.size<=X:=by
   rcases y with ⟨h0,_⟩|h0
   ·exact absurd (List.length_eq_zero_iff.mp h0) B
   ·exact h0
  obtain⟨h',g',d',T,u⟩:=Y;have e1:g'=s.gens:=hm.gens;have r:d'=s.drawn:=hm.drawn;have e3:u=s.os:=hm.os;subst e1 r e3;refine h h' T X c' hB n λb o e=>hm.heap b o (λC=>?_) (ae _ (ae _ e));have P:b<s.heap.objs.size:=aH e;rcases b9.mp C with z|z
  ·exact aJ (L b P) z
  ·exact aJ P (cb.mp z)
end
section
variable {K:Frag}
def PM (K:Frag):List V->Hp->VK->Prop:=λxs H Q=>∃(p q:Addr) (ls:List (Addr×List V)),xs=[.ref p,.ref q]/\H p=some (.lst (ls.map λl=>V.ref l.1))/\H q=some (.lst [])/\(∀l∈ls,H l.1=some (.lst l.2))/\ls≠[]/\(ls.map (·.2)).flatten.length<=zT/\
 ∀l,H l=none->Q (.ref l) (upd H l (.lst (ls.map (·.2)).flatten))
theorem To:∀{ls:List (Addr×List V)}{us:bP},Vals (ls.map λl=>V.ref l.1) us->us=(ls.map (·.1)).map Value.ref
 |[],_,h=>by cases h;rfl|l::ls,_,h=>by
  cases h with
  |cons r t=>cases r;rw[To t];rfl
def IJ (U:X.calm=true):jU X (.builtin "sum") (PM X.K):=by
 intro pins s σ H xs us Q I r h;obtain⟨p,q,ls,rfl,P,N,S,j,z,k⟩:=h;obtain⟨u,v,rfl,A,y⟩:=Vals.two r;cases A;cases y;obtain⟨_,E,np,C,_,Y⟩:=I.lstM P;obtain⟨_,g,nq,B,lq,eq⟩:=I.lstM N;have b:g=[]:=by cases B;rfl
 subst b;have d:=To C;subst d;have hex:∀L:List (Addr×List V),(∀l∈L,H l.1=some (.lst l.2))->∃itss:List (bP),itss.length=L.length/\(∀i,i<L.length->∃c,s.heap.get? ((L.map (·.1)).getD i 0)=some (wg (itss.getD i []).toArray c))/\Vals (L.map (·.2)).flatten itss.flatten:=by
  intro L
  induction L with
  |nil=>intro _;exact⟨[],rfl,λi hi=>absurd hi (not_lt_zero _),.nil⟩|cons l L J=>
   intro hm;obtain⟨itss,w,t,f⟩:=J λx M=>hm x (au _ M);obtain⟨_,it,n,D,_,Z⟩:=I.lstM (hm l (av ..));refine⟨it::itss,by simp[w],λi hi=>?_,?_⟩
   ·cases i with
    |zero=>exact⟨n,Z⟩|succ i=>exact t i (by simpa using hi)
   ·rw[aQ,aZ,aZ]
    exact D.append f
 obtain⟨itss,w,t,f⟩:=hex ls S;have m:itss.flatten.length=(ls.map (·.2)).flatten.length:=f.length.symm;refine LG (I.ok.hd U) (itss:=itss) ⟨_,Y,rfl,np,rfl⟩ eq (by simp[w]) (λi hi=>t i (by simpa using hi)) (λe=>j (List.map_eq_nil_iff.mp e)) (by rw[m];exact gy z) λh' tk l c a T kp=>?_
 exact⟨.ref l,_,I.laid (t':=tk) (o:=.lst (ls.map (·.2)).flatten) kp a ⟨gy z,itss.flatten,c,f,T⟩,rfl,k _ (I.hok.fresh a)⟩
noncomputable def wC (A:Hx):List W->Option (List (List W))
 |[]=>some []|.ref k::us=>match A[k]? with
  |some (.lst ws)=>(wC A us).map (ws::·)|_=>none
 |_::_=>none
def Zh:W->W->Hx->R W:=λx y A=>match x,y with
 |.ref n,.ref k=>match A[n]?,A[k]? with
  |some (.lst us),some (.lst [])=>match wC A us with
   |some w=>if us≠[]/\w.flatten.length<=zT then .ok (.ref A.length) (A++[.lst w.flatten]) else .bad|none=>.bad
  |_,_=>.bad
 |_,_=>.bad
def FX:∀x y A,qO (Zh x y A):=λx y A=>by
 unfold Zh
 split
 ·split
  ·split
   ·exact Zc jE qU
   ·exact qU
  ·exact qU
 ·exact qU
theorem zF.app:∀{ws us:List W}{xs y:List V},zF K φ H ws xs->zF K φ H us y->zF K φ H (ws++us) (xs++y)
 |[],_,_,_,h,a=>by cases h;exact a|w::ws,_,_,_,⟨v,r,e,h,t⟩,a=>by subst e;exact⟨v,_,rfl,h,zF.app t a⟩
theorem UB (S:zO K φ A H):∀{us:List W}{w:List (List W)}{vs:List V},wC A us=some w->zF K φ H us vs->∃ls:List (Addr×List V),vs=ls.map (λl=>V.ref l.1)/\(∀l∈ls,H l.1=some (.lst l.2))/\zF K φ H w.flatten (ls.map (·.2)).flatten/\ls.length=us.length
 |[],_,_,e,h=>by cases e;cases h;exact⟨[],rfl,λl a=>(by cases a),rfl,rfl⟩|u::us,w,_,e,⟨v,r,m,h,t⟩=>by
  subst m;cases u with
  |ref k=>
   unfold wC at e;cases E:A[k]? with
   |none=>rw[E]at e;cases e|some o=>cases o with
    |lst ws=>
     rw[E]at e;dsimp only at e;cases b:wC A us with
     |none=>rw[b]at e;cases e|some c=>
      rw[b]at e;cases e;obtain⟨p,xs,rfl,_,f,d⟩:=S.lst h E;obtain⟨ls,rfl,j,i,g⟩:=UB S b t;refine⟨(p,xs)::ls,rfl,λl a=>?_,zF.app d i,by simp[g]⟩
      rcases b9.mp a with rfl|a
      ·exact f
      ·exact j l a
    |_=>rw[E]at e;cases e
  |_=>cases e
def IY:jX K (λx y=>PM K [x,y]) Zh:=λφ A H x y u v Q S g q p=>by
 unfold Zh at p;cases u with
 |ref n=>cases v with
  |ref k=>
   dsimp only at p;cases E:A[n]? with
   |none=>rw[E]at p;exact p.elim|some o=>cases o with
    |lst us=>
     cases a:A[k]? with
     |none=>rw[E,a]at p;exact p.elim|some j=>cases j with
      |lst zs=>cases zs with
       |nil=>
        rw[E,a]at p;dsimp only at p;cases b:wC A us with
        |none=>rw[b]at p;exact p.elim|some w=>
         rw[b]at p;dsimp only at p
         by_cases h:us≠[]/\w.flatten.length<=zT
         ·rw[ah h]at p
          obtain⟨i,xs,rfl,_,s,f⟩:=S.lst g E;obtain⟨P,Y,rfl,_,m,r⟩:=S.lst q a;cases r;obtain⟨ls,rfl,z,d,c⟩:=UB S b f;refine⟨i,P,ls,rfl,s,m,z,λe=>?_,by rw[<- d.length];exact h.2,λl t=>?_⟩
          ·rw[e]at c
           exact h.1 (List.length_eq_zero_iff.mp c.symm)
          ·obtain⟨a1,a2,B⟩:=ZR S t d
           exact p _ _ _ a1 a2 B
         ·rw[aq h]at p;exact p.elim
       |cons _ _=>rw[E,a]at p;exact p.elim
      |_=>rw[E,a]at p;exact p.elim
    |_=>rw[E]at p;exact p.elim
  |_=>exact p.elim
 |_=>cases v<;>exact p.elim
variable {a b:Expr}{ma mb:Ev}
def Ba (t:TA):TE:=λσ H Q=>t σ H λvs H1=>∃i j:Int,vs=[.int i,.int j]/\∀p,H1 p=none->Q (.ref p) (upd H1 p (.rng i j))
def TM {T:TA}(g:Gl X "range")(hm:X.mg "range"=none)(l:PA X [a,b] T)(f:starEach [a,b] X.env=[(false,eval a X.env),(false,eval b X.env)])(c:starEach [b] X.env=[(false,eval b X.env)]):PE X (.Call (.Name "range" p) [a,b] [] pos) (Ba T):=by
 intro pins s σ H Q I h;refine Call_ (gD I g hm boot_range (PyProof.Rows.callWith_type1 (zV (l pos pins s σ H _ I h) λus s1 ⟨vs,H1,d,r,e⟩=>?_) (by rw[f,c]) (by rw[c];rfl)))
 obtain⟨i,j,rfl,q⟩:=e;obtain⟨u,v,rfl,⟨t,rfl⟩,⟨m,rfl⟩⟩:=Vals.two r;refine call_range_2 ⟨.ref _,_,d.laid (o:=.rng i j) (λb o E=>ae _ E) (aj _) ?_,rfl,q _ (d.hok.fresh (aj _))⟩;exact⟨_,_,_,ar _ rfl⟩
noncomputable def kJ (lo:Int)(n:Nat):List V:=(List.range n).map λ(i:Nat)=>V.int (lo+i)
def Md (A:X.calm=true):jU X (.type "list") (λxs H Q=>∃(r:Addr) (i j:Int),xs=[.ref r]/\H r=some (.rng i j)/\(-(2 ^ 62)<=i/\i<2 ^ 62)/\(-(2 ^ 62)<=j/\j<2 ^ 62)/\(j-i).toNat<=sizeLine/\∀l,H l=none->Q (.ref l) (upd H l (.lst (kJ i (j-i).toNat)))):=by
 intro pins s σ H xs us Q I r h;obtain⟨p,i,j,rfl,x,⟨a1,a2⟩,⟨D,B⟩,z,q⟩:=h;obtain⟨u,rfl,g⟩:=vals1 r;cases g;obtain⟨t1,T,t3,y⟩:=I.hok p _ x;have E:sizeLine=16777216:=sizeLine_eq;refine PySem.call_list_range (n:=(j-i).toNat) (I.ok.hd A) (show IsRange s.heap p i j 1 t1 T t3 from y) (small_one (by omega) (by omega) D B) (by rw[rangeSize_one];split<;>omega) (by omega) λh' tk acc C K S ⟨hn,d⟩=>?_
 refine⟨.ref s.heap.objs.size,_,I.laid (t':=tk) (o:=.lst (kJ i (j-i).toNat)) K (aj _) ?_,rfl,q _ (I.hok.fresh (aj _))⟩;refine⟨by unfold kJ;simpa using z,acc.toList,C,?_,by simpa using S⟩
 have a:∀(l:bP)(k:Nat),(∀(m:Nat) v,l[m]? =some v->∃t,v=.int (i+((k+m:Nat):Int)) t)->Vals ((List.range' k l.length).map λ(m:Nat)=>V.int (i+(m:Int))) l:=by
  intro l
  induction l with
  |nil=>intro k _;exact .nil|cons v l w=>
   intro k e;rw[aS,bK,aQ];refine .cons ?_ (w (k+1) λm f a=>?_)
   ·obtain⟨t,rfl⟩:=e 0 v rfl
    exact⟨t,rfl⟩
   ·obtain⟨t,rfl⟩:=e (m+1) f (by simpa using a)
    exact⟨t,by first|rfl|(congr 1<;>omega)|(simp;omega)⟩
 have b:acc.toList.length=(j-i).toNat:=by simpa using hn
 have:=a acc.toList 0 λm v c=>by
  obtain⟨t,rfl⟩:=d m v (by simpa using c)
  exact⟨t,by first|rfl|(congr 1<;>omega)|(simp;omega)⟩
 rw[b]at this;unfold kJ;rw[bE];exact this
def J2 (ma mb:Ev):Ev:=λρ A=>(ma ρ A).bind λx A1=>(mb ρ A1).bind λy A2=>match x,y with
 |.int i,.int j=>if q9 i&&(q9 j&&decide ((j-i).toNat<=zT)) then .ok (.ref A2.length) (A2++[.lst ((List.range (j-i).toNat).map λ(k:Nat)=>W.int (i+k))]) else .bad|_,_=>.bad
variable {prog:Program}{A:Around}
def OJ {t sl:Addr}{l v:Value}{lo hi:bX}(H:IsTup s.heap t items)(d:s.heap.IsSliceOf sl l v .none)(p:IsPart l lo)(pu:IsPart v hi)
  (hw:HT.qb items.size 0 lo=0/\HT.qb items.size items.size hi=items.size)(h:Q (.ref t) s):wpAny (model prog w) A (getItem (.ref t) (.ref sl)) Q E s:=by
 obtain⟨os,a,b,e⟩:=id d;have c:s.TypeIs (.ref sl) "slice":=⟨os,a,b⟩;unfold getItem
 try with_reducible refine wpAny_holding ?_
 first|refine b4 (b5 ?_)|skip
 refine b4 (wpAny_sequenceKey H.typeIs (by decide) ?_)
 refine b4 (wpAny_callSpecial?_slot (name:=Str.ofString "__getitem__") H.typeIs PyProof.Rows.slot_tuple_getitem
  (wpAny_call_entry PyProof.Rows.slot_tuple_getitem H.typeIs PyProof.Rows.entry_tuple_getitem ?_ (PyProof.Rows.args_tuple_getitem _ _)))
 show wpAny _ _ (Builtin.Tuple.tupleItemsOf (.ref t) >>= _) _ _ s;refine b4 (PyProof.Rows.tupleItemsOf_ H ?_);refine b4 (wpAny_typeOf c ?_);rw[ah (by decide)]
 refine b4 (HT.Vz d p pu ?_);show wpAny _ _ (if (((HT.qb items.size 0 lo:Nat):Int)==0&&(1:Int)==1&&(HT.qb items.size items.size hi-HT.qb items.size 0 lo)==items.size)=true then _ else _) _ _ s;rw[ah (by rw[hw.1,hw.2];simp)]
 unfold Builtin.Tuple.tupleIsExact;refine b4 (b4 (wpAny_typeOf H.typeIs (b5 ?_)));rw[ah (by decide)]
 refine b4 (wpAny_rule ?_)
 first
  |exact b5 ⟨_,rfl,b5 h⟩
  |exact b4 (b5 (b5 ⟨_,rfl,b5 h⟩))
end
section
variable {a:Expr}{lo hi:Option Expr}{K:Frag}
def cE (K:Frag):V->Option Int->Option Int->Hp->VK->Prop:=λx lo hi H Q=>∃a xs,x=.ref a/\qE K H a xs/\
 ((HT.qb xs.length 0 lo=0/\HT.qb xs.length xs.length hi=xs.length)->Q (.ref a) H)/\
 (¬(HT.qb xs.length 0 lo=0/\HT.qb xs.length xs.length hi=xs.length)->∀p,H p=none->Q (.ref p) (upd H p (.tup (gh xs lo hi))))
def Ek:Ws X (cE X.K):=by
 intro pins s σ H x v l u lo hi sl Q I b d p pu h;obtain⟨a,xs,rfl,c,e,q⟩:=h
 by_cases hw:HT.qb xs.length 0 lo=0/\HT.qb xs.length xs.length hi=xs.length
 ·cases b
  obtain⟨i,r,t,z⟩:=I.tuple c;have hlen:i.toArray.size=xs.length:=by rw[aA];exact r.length.symm
  exact⟨"tuple",_,PyProof.Rows.slot_tuple_getitem.lookup,t.typeIs,OJ t d p pu (by rw[hlen];exact hw) ⟨.ref a,H,I,rfl,e hw⟩⟩
 ·exact C3 pins s σ H _ v l u lo hi sl Q I b d p pu ⟨a,xs,rfl,c,hw,q hw⟩
abbrev Po:=En->Hx->R (bX)
noncomputable def gk:Po:=λ_ A=>.ok none A
noncomputable def gc (m:Ev):Po:=λρ A=>(m ρ A).bind λw A1=>match w with
 |.int i=>.ok (some i) A1|_=>.bad
noncomputable def ym (ws:List W)(lo hi:bX):List W:=(ws.drop (HT.qb ws.length 0 lo)).take (HT.qb ws.length ws.length hi-HT.qb ws.length 0 lo)
def gL (m:Ev)(p pu:Po):Ev:=λρ A=>(m ρ A).bind λw A1=>(p ρ A1).bind λl A2=>(pu ρ A2).bind λu a=>match w with
 |.tup ws=>.ok (.tup (ym ws l u)) a|_=>.bad
inductive MP (K:Frag)(xr:XR)(p:Po)(σ:St)(H:Hp)(Q:Option Int->Hp->Prop):Prop
 |mk (φ:bQ) (A:Hx) (ρ:En) (S:zO K φ A H) (re:RE K φ H ρ σ) (h:(p ρ A).post (λo A1=>∀φ1 H1,Le K φ H φ1 H1->zO K φ1 A1 H1->Q o H1) (EB K φ H xr))
noncomputable def tP (K:Frag)(x:XR)(p:Po):TO:=λσ H Q=>MP K x p σ H Q
def SP (X:Cx)(x:XR)(e:Option Expr)(p:Po):Prop:=PO X e (tP X.K x p)
def PO.imp {e:Option Expr}{t t':TO}(h:PO X e t)(i:∀σ H Q,t' σ H Q->t σ H Q):PO X e t':=λpins s σ H Q I hw=>h pins s σ H Q I (i σ H Q hw)
end
noncomputable def KC (_ j:Int):Bool:=decide (0<j)&&decide (j<1152921504606846976)
def PJ (i j:Int):Prop:=0<j/\j<1152921504606846976
def HU (i j:Int)(h:KC i j=true):PJ i j:=by
 unfold KC at h;rw[ak]at h;exact⟨of_decide_eq_true h.1,of_decide_eq_true h.2⟩
def IS:qN X (binaryOp .FloorDiv) (rI PJ λi j=>.int (i/j)):=Wk λi j _ _ _ _ _ h q=>by
 have a:(0:Int)<j:=h.1;have H:j<1152921504606846976:=h.2;refine floordiv_int (by omega) (by rw[Int.fdiv_eq_ediv_of_nonneg i (by omega)];exact q) (.inl (PyProof.noPylong_of_log2 ?_))
 have h0:j.natAbs≠0:=by omega
 have:j.natAbs.log2<60:=(Nat.log2_lt h0).mpr (by omega)
 omega
def w8:=Zx KC λi j=>.int (i/j)
end Mi
namespace PySem.SeqAt
open PySem
end PySem.SeqAt
namespace Mi
open PySem PySem.Spec PyProof.Rows L2
section
variable {prog:Program}{A:Around}{id:String}{b:Builtin}{args:bP}{kw:List (Str×Value)}
theorem Dt (a:builtinKind id=none)(p:plainId id=true)(d:entryFor table id=some b)(h:argsOk id ⟨args,kw⟩)
  (c:wpAny (model prog w) A.in1 (b ⟨args,kw⟩) (λfin S=>match fin with
   |.done f=>(match (Except.ok f:Result) with
    |.ok (.ret v)=>Q v S|.ok _=>False|.error e=>E e S)
   |.again c'=>c'.quiet=true/\codeAny (model prog w) A c' (λr S=>match r with
    |.ok (.ret v)=>Q v S|.ok _=>False|.error e=>E e S) S) E s):wpAny (model prog w) A (call (.builtin id) args kw) Q E s:=by
 refine wpAny_call (codeAny_call_builtin p d ?_);have e:checkBuiltinCall id ⟨args,kw⟩=pure ():=by
  unfold argsOk at h;unfold checkBuiltinCall;rw[a];generalize splitId id=q;cases H:Manifest.signature? id with
  |none=>cases q<;>rfl|some sig=>
   rw[H]at h;cases q<;>exact h
 rw[e];exact b5 c
def LR (x d:Value):argsOk "min" ⟨[x],[("default",d)]⟩:=by
 unfold argsOk
 rfl
end
section
variable {prog:Program}{A:Around}{I S:Addr}{wr:bQ}{P:Nat->Value->Prop}{St:Nat->Heap->Prop}
def IA {R:Result->Shared->Prop}{d:Value}(W:Walks prog w A.in1 I fp wr n P St){B:Nat->Nat->Bool}{L:Heap->Prop}(M:PK prog w A S wr P B L)(y:S∉fp):
  ∀(k j:Nat)(s:Shared)(v:Value)(c:Nat),j+1+k=n->St (j+1) s.heap->L s.heap->P (argBest B j) v->s.heap.get? S=some { cls:=.type "list",dict:=none,data:=.seq #[v,v] c,slots:=#[] }->
   (∀v h' tk,P (argBest B (n-1)) v->(∀b o,b∉wr->b≠S->s.heap.get? b=some o->h'.get? b=some o)->R (.ok (.ret v)) { s with heap:=h',toks:=tk })->
   codeAny (model prog w) A (.builtin "min.loop" ⟨[.ref I,.none,.ref S],[("default",d)]⟩) R s:=by
 have x:S∉wr:=λh=>y (W.sub _ h);intro k
 induction k with
 |zero=>
  intro j s v c Q st hi D C E;subst Q;refine codeAny_builtin F.entry_min_loop ?_;rw[Around.under_plainId F.plain_min_loop _];show wpAny _ A.in1 (seqItems? (.ref S) >>= _) _ _ s;refine b4 (wpAny_seqItems C rfl ?_);refine b4 (m:=tryCatch (pyNext (.ref I)) _) (wpAny_tryCatch (W.done s _ _ st λh' tk l=>?_));have H:=l S _ x C;refine b4 (m:=updateSeq S (λ_=>#[])) ?_;exact wpAny_updateSeq H rfl (b4 (wpAny_letGo (b5 (E v _ tk D λb o f a e=>(aP _ _ (Ne.symm a)).trans (l b o f e)))))
 |succ k N=>
  intro j s v c Q st hi D C E;refine codeAny_builtin F.entry_min_loop ?_;rw[Around.under_plainId F.plain_min_loop _];show wpAny _ A.in1 (seqItems? (.ref S) >>= _) _ _ s;refine b4 (wpAny_seqItems C rfl ?_);refine b4 (m:=tryCatch (pyNext (.ref I)) _) (wpAny_tryCatch (W.item (j+1) s _ _ (by omega) st λu h' tk pu r l=>?_))
  have H:=l S _ x C;have p:L h':=M.keep _ _ hi λb o f _ e=>l b o f e;refine b4 (m:=tryCatch (holding [u,u] (richCompare .Lt u v >>= _)) _) (wpAny_tryCatch (wpAny_holding (b4 (M.less (j+1) (argBest B j) u v _ _ _ p pu D ?_))));refine b4 (wpAny_holding (wpAny_truthy_bool ?_));refine b4 (wpAny_letGo (b5 ?_));have J:argBest B (j+1)=if B (j+1) (argBest B j)=true then j+1 else argBest B j:=rfl;cases T:B (j+1) (argBest B j) with
  |true=>
   rw[T,ah rfl]at J;simp only[if_true];refine b4 ?_;refine wpAny_updateSeq H rfl (b4 (wpAny_letGo ?_));rw[Y8];have up:∀b o,b≠S->h'.get? b=some o->(h'.update S (Obj.mapSeq λ_=>#[u,u])).get? b=some o:=λb o a e=>(aP _ _ (Ne.symm a)).trans e;refine b5 ⟨plainId_quiet F.plain_min_loop _,N (j+1) _ u _ (by omega) (W.frame _ _ _ r λb U o e=>up b o (λz=>y (z ▸ U)) e) (M.keep _ _ p λb o _ a e=>up b o a e) (by rw[J];exact pu) (aX _ H rfl) λK q t g i=>?_⟩
   exact E K q t g λb o f a e=>i b o f a (up b o a (l b o f e))
  |false=>
   rw[T,aq ax]at J;simp only[a9,if_false];refine b4 (wpAny_letGo ?_);rw[Y8];refine b5 ⟨plainId_quiet F.plain_min_loop _,N (j+1) _ v c (by omega) r p (by rw[J];exact D) H λK q t g i=>?_⟩
   exact E K q t g λb o f a e=>i b o f a (l b o f e)
def IC {x d:Value}
  (h:wpAny (model prog w) A.in1 (pyIter x) (λit s2=>∃I fp wr n P St r f,it=.ref I/\Walks prog w A.in1 I fp wr n P St/\St 0 s2.heap/\(∀b∈fp,b<s2.heap.objs.size)/\f (s2.heap.push { cls:=.type "list",data:=.seq #[] })/\PK prog w A s2.heap.objs.size wr P r f/\
   ∀v h' tk,((n=0/\v=d)∨(0<n/\P (argBest r (n-1)) v))->(∀b o,b∉wr->s2.heap.get? b=some o->h'.get? b=some o)->Q v { s2 with heap:=h',toks:=tk }) E s):
  wpAny (model prog w) A (call (.builtin "min") [x] [("default",d)]) Q E s:=by
 refine Dt F.kind_min F.plain_min F.entry_min (LR x d) ?_;refine b4 (m:=Builtin.Builtins.bindParams "min" ["key","default"] 0 ⟨[],[("default",d)]⟩) (wpAny_of_eq (show Builtin.Builtins.bindParams "min" ["key","default"] 0 ⟨[],[("default",d)]⟩=pure [none,some d] from rfl) ?_)
 refine b4 (b5 ?_);refine b4 (wpAny_mono h (λit s2 K=>?_) λ_ _ e=>e);obtain⟨I,fp,wr,n,P,St,r,f,rfl,W,st,p,hi,M,D⟩:=K;refine b4 (wpAny_newObj_type ?_);have H:s2.heap.objs.size∉fp:=λhm=>aW _ (p _ hm);have l:s2.heap.objs.size∉wr:=λh=>H (W.sub _ h);rw[Y8];refine b5 ⟨plainId_quiet F.plain_min_loop _,?_⟩;refine codeAny_builtin F.entry_min_loop ?_;rw[Around.under_plainId F.plain_min_loop _];have C:(s2.heap.push { cls:=.type "list",data:=.seq #[] }).get? s2.heap.objs.size=some { cls:=.type "list",data:=.seq #[] }:=ar _ rfl;refine b4 (m:=seqItems? (.ref s2.heap.objs.size)) (wpAny_seqItems C rfl ?_)
 by_cases hn:n=0
 ·subst hn
  refine b4 (m:=tryCatch (pyNext (.ref I)) _) (wpAny_tryCatch (W.done _ _ _ (W.frame _ _ _ st λb _ o e=>ae _ e) λh' tk a=>?_));refine b4 (m:=rule _) (wpAny_rule (b5 ?_));exact D d h' tk (.inl ⟨rfl,rfl⟩) λb o B e=>a b o B (ae _ e)
 have hn:0<n:=Nat.pos_of_ne_zero hn;refine b4 (m:=tryCatch (pyNext (.ref I)) _) (wpAny_tryCatch (W.item 0 _ _ _ hn (W.frame _ _ _ st λb _ o e=>ae _ e) λu h' tk pu S a=>?_));have c:=a _ _ l C;have j:f h':=M.keep _ _ hi λb o B _ e=>a b o B e;refine b4 (m:=updateSeq s2.heap.objs.size (λ_=>#[u,u])) ?_;refine wpAny_updateSeq c rfl ?_;rw[Y8];have up:∀b o,b≠s2.heap.objs.size->h'.get? b=some o->(h'.update s2.heap.objs.size (Obj.mapSeq λ_=>#[u,u])).get? b=some o:=λb o y e=>(aP _ _ (Ne.symm y)).trans e;refine b5 ⟨plainId_quiet F.plain_min_loop _,IA W M H (n-1) 0 _ u _ (by omega) (W.frame _ _ _ S λb L o e=>up b o (λz=>H (z ▸ L)) e) (M.keep _ _ j λb o _ y e=>up b o y e) pu (aX _ c rfl) λJ q t g i=>?_⟩
 exact D J q t (.inr ⟨hn,g⟩) λb o B e=>i b o B (aJ (aH e)) (up b o (aJ (aH e)) (a b o B (ae _ e)))
end
noncomputable def gQ:List Int->Int->Int
 |[],b=>b|x::xs,b=>gQ xs (if x<b then x else b)
def LA (ns:bO):∀(k:Nat)(a:k<ns.length),gQ (ns.drop (k+1)) (ns.getD (argBest (λi j=>decide (ns.getD i 0<ns.getD j 0)) k) 0)=gQ ns.tail (ns.getD 0 0):=by
 intro k
 induction k with
 |zero=>intro _;rw[show argBest _ 0=0 from rfl,List.drop_one]|succ k I=>
  intro a;have H:k<ns.length:=by omega
  rw[<- I H];have e:ns.drop (k+1)=ns[k+1]::ns.drop (k+1+1):=bp a;rw[e];have E:ns.getD (k+1) 0=ns[k+1]:=by rw[ab,aa a];rfl
  show gQ _ (ns.getD (if decide (ns.getD (k+1) 0<ns.getD (argBest _ k) 0)=true then k+1 else argBest _ k) 0)=gQ _ (if ns[k+1]<ns.getD (argBest _ k) 0 then ns[k+1] else ns.getD (argBest _ k) 0);rw[E]
  by_cases h:ns[k+1]<ns.getD (argBest (λi j=>decide (ns.getD i 0<ns.getD j 0)) k) 0
  ·rw[ah (by rw[ag];exact h),ah h,E]
  ·rw[aq (by rw[ag];exact h),aq h]
section
variable {K:Frag}
def minD (d:Int):List Int->Int
 |[]=>d|n::ns=>gQ ns n
def PR (K:Frag)(d:Int):List V->Hp->VK->Prop:=Yg K (λ_=>True) (minD d)
def Zi (d:Int):List W->Hx->R W:=λws A=>match intsOf ws with
 |some ns=>.ok (.int (minD d ns)) A|none=>.bad
def EX {d:Int}:∀ws A,qO (Zi d ws A):=λws A=>by
 unfold Zi;split
 ·exact jE
 ·exact qU
def Fh {d:Int}:Zv K (PR K d) (Zi d):=λφ A H a y ws Q S z r p=>by
 unfold Zi at p;cases e:intsOf ws with
 |none=>rw[e]at p;exact p.elim|some ns=>rw[e]at p;exact⟨a,ns,rfl,Gk z r e,trivial,p φ H _ .refl S rfl⟩
def EY {d:Int}{j:Nat}{L kp:Pos}{t:TA}(B:X.calm=true)(hm:X.mg "min"=none)(C:PA X [e] t)(y:Gl X "min")(he:starEach [e] X.env=(false,eval e X.env)::starEach [] X.env:=by rfl):
  PE X (.Call (.Name "min" p) [e] [⟨some "default",.Constant (.int d) j L,kp⟩] pos) (Wi (PR X.K d) t):=by
 intro pins s σ H Q I h;refine wpAny_Call_Name_kw (gD I y hm (by rfl:bootBuiltins "min"=some (.builtin "min")) ?_ (by decide) (by decide))
 refine callWith_kw (zV (C pos pins s σ H _ I h) λus s1 ⟨vs,H1,N,o,x⟩=>kwAll_cons (wpAny_Constant_int (kwAll_nil ?_))) (by rw[he];rfl) (by rw[he];rfl) rfl rfl
 obtain⟨a,ns,rfl,z,_,q⟩:=x;obtain⟨u,rfl,m⟩:=vals1 o;cases m;refine IC (YY (N.tok _) B z λc P fp wr S s2 r hz W st g back=>?_);have e:c.length=ns.length:=by have:=r.length;rw[af]at this;omega
 refine⟨P,fp,wr,_,_,S,λi j=>decide (ns.getD i 0<ns.getD j 0),λ_=>True,rfl,W,st,g,trivial,⟨λ_ _ _ _=>trivial,?_⟩,λv h' tk f k=>?_⟩
 ·intro i j Z Y l Q' U _ J E D
  obtain⟨t1,rfl⟩:=Qj r J;obtain⟨T,rfl⟩:=Qj r E;exact(PyProof.Rows.lt_int D:wpAny (model X.prog X.w) X.A.in1 (compareOp .Lt (.int (ns.getD i 0) t1) (.int (ns.getD j 0) T)) Q' U l)
 ·rcases f with ⟨h0,rfl⟩|⟨h0,f⟩
  ·have:ns=[]:=List.length_eq_zero_iff.mp (by omega)
   subst this;exact⟨.int _,H1,back h' tk k,⟨_,rfl⟩,q⟩
  ·obtain⟨t,rfl⟩:=Qj r f
   rw[e];have b:=LA ns (ns.length-1) (by omega)
   rw[show ns.length-1+1=ns.length by omega,drop_length]at b
   have M:ns.getD (argBest (λi j=>decide (ns.getD i 0<ns.getD j 0)) (ns.length-1)) 0=minD d ns:=by
    refine Eq.trans b ?_;cases ns with
    |nil=>exact absurd h0 (by rw[e];exact aW _)|cons n ns=>rfl
   rw[M];exact⟨.int _,H1,back h' tk k,⟨_,rfl⟩,q⟩
noncomputable def QH (m:Ev):Ev:=λρ A=>(m ρ A).bind λw A1=>match w with
 |.ref n=>match A1[n]? with
  |some (.lst ws)=>.ok (.bl (!ws.isEmpty)) A1|_=>.bad
 |_=>.bad
end
section
variable {prog:Program}{A:Around}{lo hi:Int}{t u v:Tok}
def O2 {R:Result->Shared->Prop}(j:A.handled=none)(g:IsRange s.heap a lo hi 1 t u v)(h:Builtin.Range.small lo hi 1=true)(H:Builtin.Range.rangeSize lo hi 1=(n:Int))(hn:n<=2 ^ 24)
  (m:∀(h':Heap)(tk:Nat)(acc:Array Value)(c:Nat),(∀b o,s.heap.get? b=some o->h'.get? b=some o)->h'.get? s.heap.objs.size=some { cls:=.type "list",data:=.seq acc c }->ItemsOf (λi v=>∃t,v=Value.int (lo+(i:Int) * 1) t) acc n->R (.ok (.ret (.ref s.heap.objs.size))) { s with heap:=h',toks:=tk }):
  codeAny (model prog w) A (.builtin "proto.collect" ⟨[.ref a],[]⟩) R s:=by
 refine codeAny_builtin PySem.F.entry_proto_collect ?_;rw[Around.under_plainId PySem.F.plain_proto_collect _];show wpAny _ A.in1 (newList [] >>= λl=>again (.builtin "list.__iadd__" ⟨[l,.ref a],[]⟩)) _ _ s;refine b4 (wpAny_newObj_type ?_);refine b5 ⟨plainId_quiet plain_list_iadd _,codeAny_builtin PySem.F.entry_list_iadd ?_⟩;rw[Around.under_plainId plain_list_iadd _];show wpAny _ A.in1 (Builtin.List.listExtendWith (.ref s.heap.objs.size) (.ref a) (.ref s.heap.objs.size)) _ _ _;exact wpAny_extend_range (R:=R) (s:={ s with heap:=s.heap.push { cls:=.type "list",data:=.seq ([]:bP).toArray } }) j (ae _ g) h H hn s.heap.objs.size _ 0 (ar _ rfl) λh' tk d C keep f items=>
  m h' tk d C (λb o e=>keep b o (aJ (aH e)) (ae _ e)) f items
def O8 {Q1:bU}(f:A.handled=none)(e:IsRange s.heap a lo hi 1 t u v)(H:Builtin.Range.small lo hi 1=true)(d:Builtin.Range.rangeSize lo hi 1=(n:Int))(hn:n<=2 ^ 24)
  (h:∀(h':Heap)(tk:Nat)(acc:Array Value),(∀b o,s.heap.get? b=some o->h'.get? b=some o)->ItemsOf (λi v=>∃t,v=Value.int (lo+(i:Int) * 1) t) acc n->Q1 (.ref h'.objs.size) { s with heap:=h'.push { cls:=.type "tuple",data:=.seq acc },toks:=tk }):
  codeAny (model prog w) A (.call (.builtin "tuple.__new__") ⟨[.type "tuple",.ref a],[]⟩) (wants Q1 E) s:=by
 refine codeAny_of_tree ?_;show wpAny _ A.in1 (do checkBuiltinCall "tuple.__new__" ⟨[.type "tuple",.ref a],[]⟩;again (.builtin "tuple.__new__" ⟨[.type "tuple",.ref a],[]⟩)) _ _ s
 refine b4 (wpAny_of_eq (F.newCall_tuple_1 (.ref a)) (b5 ⟨plainId_quiet F.plain_tuple_new _,codeAny_builtin F.entry_tuple_new ?_⟩));rw[Around.under_plainId F.plain_tuple_new _];unfold Builtin.«tuple.__new__»;have a1:=F.called_tuple.made;have a2:=F.called_tuple.sub;have j:=F.called_tuple.canCreate;have g:=F.slot_tuple_init.lookup;have T:s.TypeIs (.ref a) "range":=⟨_,e,rfl⟩;dsimp only
 wp_walk
 refine O2 (by simp[f]) e H d hn λh' tk acc c keep S items=>?_
 show wpAny _ A.in1 (load s.heap.objs.size >>= _) _ _ _;refine b4 (wpAny_load S ?_);have z:sizeOk (.seq acc):=by
  show acc.size<=sizeLine;rw[items.1,sizeLine_eq];omega
 show wpAny _ A.in1 (pure acc.toList) _ _ _;refine b5 (b4 (b5 ?_));rw[Array.toArray_toList];refine b4 (m:=Builtin.Tuple.tupleExact _) (wpAny_newObj_type ?_ z);exact b5 (h h' tk acc keep items)
def Np {M:Model}{self b:Value}{Q:Unit->Shared->Prop}(T:s.TypeIs self "tuple")(h:Q () s):wpAny M A (checkBuiltinCall "object.__init__" ⟨[self,b],[]⟩) Q E s:=by
 have d:builtinKind "object.__init__"=some .slot:=by decide +kernel
 have c:splitId "object.__init__"=some ("object","__init__"):=by decide +kernel
 have a:=F.args_object_init_2 self b;unfold argsOk at a;unfold checkBuiltinCall;rw[d,c];dsimp only;refine b4 (wpAny_isInstance (b:=true) T (by rw[isSubtype_type];kernel_rfl) ?_)
 cases H:Manifest.signature? "object.__init__" with
 |none=>exact b5 h|some sig=>
  rw[H]at a;exact wpAny_of_eq a h
def Nf (l:A.handled=none)(j:IsRange s.heap a lo hi 1 t u v)(H:Builtin.Range.small lo hi 1=true)(d:Builtin.Range.rangeSize lo hi 1=(n:Int))(hn:n<=2 ^ 24)
  (h:∀(h':Heap)(tk:Nat)(acc:Array Value),(∀b o,s.heap.get? b=some o->h'.get? b=some o)->ItemsOf (λi v=>∃t,v=Value.int (lo+(i:Int) * 1) t) acc n->Q (.ref h'.objs.size) { s with heap:=h'.push { cls:=.type "tuple",data:=.seq acc },toks:=tk }):
  wpAny (model prog w) A (call (.type "tuple") [.ref a]) Q E s:=by
 obtain⟨c,p,g⟩:=F.called_tuple.mro;have a1:=F.called_tuple.made;have a2:=F.called_tuple.sub;have z:=F.called_tuple.notType;have y:=F.called_tuple.canCreate;have x:=F.typeCall_tuple_1 (.ref a);refine wpAny_call (codeAny_of_tree ?_);show wpAny _ _ (callAny (.type "tuple") _) _ _ _;refine b5 ⟨Code.quiet_builtin _ (by decide +kernel),codeAny_builtin F.entry_type_call ?_⟩
 rw[Around.under_plain (weight_type_call_type "tuple" [.ref a] []) rfl]
 repeat (any_goals (first|assumption|wp_step))
 refine codeAny_mono (O8 (E:=E) (Q1:=λu s1=>∃h' tk acc,u=.ref h'.objs.size/\s1={ s with heap:=h'.push { cls:=.type "tuple",data:=.seq acc },toks:=tk }/\(∀b o,s.heap.get? b=some o->h'.get? b=some o)/\ItemsOf (λi v=>∃t,v=Value.int (lo+(i:Int) * 1) t) acc n) (by simp[l]) j H d hn λh' tk acc k i=>⟨h',tk,acc,rfl,rfl,k,i⟩) λr s1 f=>?_
 cases r with
 |error e=>exact f|ok m=>
  cases m with
  |ret u=>
   obtain⟨h',tk,acc,rfl,rfl,keep,items⟩:=f;have T:Shared.TypeIs { s with heap:=h'.push { cls:=.type "tuple",data:=.seq acc },toks:=tk } (.ref h'.objs.size) "tuple":=⟨_,ar _ rfl,rfl⟩
   have q:=F.called_tuple.init.lookup;have B:=F.called_tuple.init.bind (.ref h'.objs.size)
   repeat (any_goals (first|assumption|wp_step))
   refine codeAny_call_builtin F.called_tuple.init.plain F.entry_object_init (Np T ?_);show wpAny _ _ (Builtin.«object.__init__» ⟨[.ref h'.objs.size,.ref a],[]⟩) _ _ _;unfold Builtin.«object.__init__»
   wp_walk
   exact h h' tk acc keep items
  |_=>exact f.elim
end
section
variable {b:Expr}{ma mb:Ev}
def Lp (D:X.calm=true):jU X (.type "tuple") (λxs H Q=>∃(r:Addr) (i j:Int),xs=[.ref r]/\H r=some (.rng i j)/\(-(2 ^ 62)<=i/\i<2 ^ 62)/\(-(2 ^ 62)<=j/\j<2 ^ 62)/\(j-i).toNat<=sizeLine/\∀l,H l=none->Q (.ref l) (upd H l (.tup (kJ i (j-i).toNat)))):=by
 intro pins s σ H xs us Q I r h;obtain⟨p,i,j,rfl,B,⟨a1,a2⟩,⟨J,E⟩,A,q⟩:=h;obtain⟨u,rfl,y⟩:=vals1 r;cases y;obtain⟨t1,T,t3,C⟩:=I.hok p _ B;have L:sizeLine=16777216:=sizeLine_eq;refine Nf (n:=(j-i).toNat) (I.ok.hd D) (show IsRange s.heap p i j 1 t1 T t3 from C) (small_one (by omega) (by omega) J E) (by rw[rangeSize_one];split<;>omega) (by omega) λh' tk acc K ⟨hn,f⟩=>?_
 have w:Inv X pins σ H { s with heap:=h',toks:=tk }:=I.kept (t':=tk) K
 refine⟨.ref h'.objs.size,_,w.laid (t':=tk) (o:=.tup (kJ i (j-i).toNat)) (λb o e=>ae _ e) (aj _) ?_,rfl,q _ (w.hok.fresh (aj _))⟩;refine⟨by unfold kJ;simpa using A,acc.toList,?_,by simpa using Ze.new h' acc⟩
 have a:∀(l:bP)(k:Nat),(∀(m:Nat) v,l[m]? =some v->∃t,v=.int (i+((k+m:Nat):Int)) t)->Vals ((List.range' k l.length).map λ(m:Nat)=>V.int (i+(m:Int))) l:=by
  intro l
  induction l with
  |nil=>intro k _;exact .nil|cons v l z=>
   intro k g;rw[aS,bK,aQ];refine .cons ?_ (z (k+1) λm x a=>?_)
   ·obtain⟨t,rfl⟩:=g 0 v rfl
    exact⟨t,rfl⟩
   ·obtain⟨t,rfl⟩:=g (m+1) x (by simpa using a)
    exact⟨t,by first|rfl|(congr 1<;>omega)|(simp;omega)⟩
 have c:acc.toList.length=(j-i).toNat:=by simpa using hn
 have:=a acc.toList 0 λm v d=>by
  obtain⟨t,rfl⟩:=f m v (by simpa using d)
  exact⟨t,by first|rfl|(congr 1<;>omega)|(simp;omega)⟩
 rw[c]at this;unfold kJ;rw[bE];exact this
def J9 (ma mb:Ev):Ev:=λρ A=>(ma ρ A).bind λx A1=>(mb ρ A1).bind λy A2=>match x,y with
 |.int i,.int j=>if q9 i&&(q9 j&&decide ((j-i).toNat<=zT)) then .ok (.tup ((List.range (j-i).toNat).map λ(k:Nat)=>W.int (i+k))) A2 else .bad|_,_=>.bad
def KD (m:Ev)(p pu:Po):Ev:=λρ A=>(m ρ A).bind λw A1=>(p ρ A1).bind λl A2=>(pu ρ A2).bind λu a=>match w with
 |.ref n=>match a[n]? with
  |some (.lst ws)=>.ok (.ref a.length) (a++[.lst (ym ws l u)])|_=>.bad
 |_=>.bad
end
@[irreducible] noncomputable def Wj (X:Cx)(x:XR)(e:bV)(ms:List Ev):Prop:=Mi.SJ X x e ms
def R4:@Wj=@Mi.SJ:=by
 funext X xr es ms
 unfold Wj
 rfl
section
def Zb:@zx=@Mi.SE/\@gp=@Mi.SA/\@yh=@Mi.ST/\@wL=@Mi.SW/\@yN=@Mi.SS/\@kP=@Mi.Yv/\@yX=@Mi.SI/\@kT=@Mi.SG/\@Zs=@Mi.SF/\@kU=@Mi.SQ/\@w9=@Mi.Yx/\@wN=@Mi.SM/\@Wj=@Mi.SJ:=⟨Xn,G3,Xa,Xc,GX,GC,Xe,GY,Xl,Xi,GP,G2,R4⟩
def Ey (he:zx X xr e m)(g:kT X tg tw)(f:swapsWithSole [tg] e pos.line X.env=pure false:=by rfl)(hw:swappedStores [tg] e X.env=pure none:=by rfl)(a:(assignEach [tg] X.env).map (·.2)=[assign tg X.env]:=by rfl):yN X xr (.Assign [tg] e pos) (KR m tw):=by
 try simp only[Zb]at*
 exact PS.imp (RL he g f hw a) λD σ H ⟨φ,A,ρ,S,re,h⟩=>by
   refine tM.go S re (zZ.mp h) λw A1 b H1 v a l s q=>?_;cases E:tw w ρ with
   |none=>rw[E]at a;exact a.elim|some d=>
    rw[E]at a;exact⟨b,A1,ρ,w,d,s,re.mono l,q,E,λc r=>a b H1 c l s r⟩
end
def LM {a:Expr}{b:Expr}{ma:Ev}{mb:Ev}{k:Nat}{apos c:Pos}(r:jK k X.A)(o:zx X xr a ma)(he:zx X xr b mb)(s:starEach [b] X.env=(false,eval b X.env)::starEach [] X.env:=by rfl)
  (e:attributeBase a "index" X.env (eval a X.env)=eval a X.env:=by rfl)
  (w:((backTo c (starEach [b] X.env)).all (λx=>!x.1)&&(backToKw c (keywordEach [] X.env)).all (λx=>x.1.isSome)
   && decide ([b].length+([]:b1).length+(if ([]:b1).isEmpty then 0 else 1)<30))=true:=by rfl)(h:(apos.endLine==c.line)=true:=by rfl):
  zx X xr (.Call (.Attribute a "index" apos) [b] [] c) (ko gF ma mb):=by
 try simp only[Zb]at*
 exact XC PySem.F.slot_list_index PySem.F.type_list_index (LW r.units) Ha (λφ A H x y u v Q S l q p=>by
   unfold gF at p;cases E:qd A 8 u with
   |none=>rw[E]at p;exact p.elim|some D=>
    cases i:qd A 8 v with
    |none=>
     rw[E,i]at p;cases D<;>exact p.elim
    |some d=>
     rw[E,i]at p;cases D with
     |list ds=>
      dsimp only at p;cases g:gJ (λz=>PyData.eqv z d) ds with
      |none=>rw[g]at p;exact p.elim|some j=>
       rw[g]at p;dsimp only at p
       by_cases f:j<1000000
       ·rw[ah f]at p
        exact⟨φ,A,u,v,y,d,ds,j,rfl,S,l,q,E,i,g,f,p φ H _ .refl S rfl⟩
       ·rw[aq f]at p;exact p.elim
     |_=>exact p.elim) o he s e w h
def Mp {P pos':Pos}(B:X.calm=true)(hm:X.mg "sorted"=none)(d:X.mg "set"=none)(T:zx X xr e m)(N:Gl X "sorted":=by rfl)(g:Gl X "set":=by rfl)(y:starEach [e] X.env=(false,eval e X.env)::starEach [] X.env:=by rfl)
  (c:starEach [.Call (.Name "set" P) [e] [] pos'] X.env=(false,eval (.Call (.Name "set" P) [e] [] pos') X.env)::starEach [] X.env:=by rfl):
  zx X xr (.Call (.Name "sorted" p) [.Call (.Name "set" P) [e] [] pos'] [] pos) (Y1 m):=by
 try simp only[Zb]at*
 exact PE.imp (JS (NM B) N hm (by rfl) (jv (Qe (LZ B) g d (by rfl) (jv T j0 y) (by decide) (by decide) y (by rfl)) j0 c) (by decide) (by decide) c (by rfl)) λσ H Q ⟨φ,A,ρ,S,re,h⟩=>by
   refine tM.go S re (zZ.mp h) λw A1 b H1 v a J t D=>?_;cases w with
   |ref n=>
    unfold Gw at a;dsimp only at a;cases E:A1[n]? with
    |none=>rw[E]at a;exact a.elim|some u=>cases u with
     |lst ws=>
      rw[E]at a;dsimp only at a;obtain⟨x,ys,rfl,Y,eH,C⟩:=t.lst D E;cases j:intsOf ws with
      |none=>rw[j]at a;exact a.elim|some is=>
       rw[j]at a;dsimp only at a;have Z:=Gq j;subst Z;have ev:=zF.ints.mp C;subst ev;cases s:ZP is with
       |none=>rw[s]at a;exact a.elim|some vs=>
        rw[s]at a;dsimp only at a;obtain⟨e3,U⟩:=Tq s;have q:H1 x=some (.lst (vs.map λ(v:Nat)=>V.int (v:Int))):=by rw[eH,e3,aL];rfl
        refine⟨x,vs,rfl,qM.of q,U,λl z=>⟨l,vs.foldl ye 0,rfl,jY,λI f=>?_⟩⟩;have ln:Le X.K b H1 b (upd H1 l (.ext λh=>yg h l (jz X.w) (vs.foldl ye 0))):=Le.new z;have S2:=t.lay (u:=.ext λh=>yg h l (jz X.w) (vs.foldl ye 0)) z;have r:∀(ψ:bQ)(G:Hp),zF X.K ψ G (((List.range 8).filter λi=>decide (i∈vs)).map λ(i:Nat)=>W.int (i:Int)) ((z9 (vs.foldl ye 0)).map λ(v:Nat)=>V.int (v:Int)):=λψ G=>by
         rw[LJ];have e4:∀l:bS,zF X.K ψ G (l.map λ(i:Nat)=>W.int (i:Int)) (l.map λ(v:Nat)=>V.int (v:Int)):=λl=>by
          induction l with
          |nil=>rfl|cons i l M=>exact⟨_,_,rfl,rfl,M⟩
         exact e4 _
        obtain⟨L,S3⟩:=S2.alloc (o:=.lst (((List.range 8).filter λi=>decide (i∈vs)).map λ(i:Nat)=>W.int (i:Int))) f (u:=.lst ((z9 (vs.foldl ye 0)).map λ(v:Nat)=>V.int (v:Int))) ⟨_,jY,r _ _⟩;exact a _ _ _ (J.trans (ln.trans L)) S3 ⟨I,rfl,by rw[<- t.len];simp⟩
     |_=>rw[E]at a;exact a.elim
   |_=>exact a.elim
def Fi {a:Expr}{b:Expr}{ma:Ev}{mb:Ev}(c:X.calm=true)(hm:X.mg "sum"=none)(e:zx X xr a ma)(d:zx X xr b mb)(H:Gl X "sum":=by rfl)(g:starEach [a,b] X.env=(false,eval a X.env)::starEach [b] X.env:=by rfl)
  (f:starEach [b] X.env=(false,eval b X.env)::starEach [] X.env:=by rfl)(h:(backTo pos (starEach [b] X.env)).any (·.1)=false:=by rfl):
  zx X xr (.Call (.Name "sum" p) [a,b] [] pos) (zi Zh ma mb):=by
 try simp only[Zb]at*
 exact Xz (IJ c) FX IY hm (by rfl) e d H (by decide) (by decide) g f h
def MW {a:Expr}{b:Expr}{ma:Ev}{mb:Ev}{P pos':Pos}(E:X.calm=true)(hm:X.mg "list"=none)(n:X.mg "range"=none)(J:zx X xr a ma)(I:zx X xr b mb)(D:Gl X "list":=by rfl)(o:Gl X "range":=by rfl)(s:starEach [a,b] X.env=[(false,eval a X.env),(false,eval b X.env)]:=by rfl)(d:starEach [b] X.env=[(false,eval b X.env)]:=by rfl)
  (g:starEach [.Call (.Name "range" P) [a,b] [] pos'] X.env=(false,eval (.Call (.Name "range" P) [a,b] [] pos') X.env)::starEach [] X.env:=by rfl):
  zx X xr (.Call (.Name "list" p) [.Call (.Name "range" P) [a,b] [] pos'] [] pos) (J2 ma mb):=by
 try simp only[Zb]at*
 exact PE.imp (Qe (Md E) D hm (by rfl) (jv (TM o n (jv J (jv I j0 (by rw[d];rfl)) (by rw[s,d])) s d) j0 g) (by decide) (by decide) g (by rfl)) λσ H Q ⟨φ,A,ρ,S,re,h⟩=>by
   refine tM.go S re (zZ.mp h) λw A1 r H1 v M L Z y=>?_;refine tM.go Z (re.mono L) (qp (zZ.mp M) (λ_ _ z=>z) λ_ _ z=>z.mono L) λt A2 c m v2 e B Y x=>?_;cases w with
   |int i=>
    obtain rfl:=y;cases t with
    |int j=>
     obtain rfl:=x;dsimp only at e
     by_cases f:(q9 i&&(q9 j&&decide ((j-i).toNat<=zT)))=true
     ·rw[ah f]at e
      rw[ak,ak,ag]at f;refine⟨i,j,rfl,λp q=>⟨p,i,j,rfl,jY,gx f.1,gx f.2.1,gy f.2.2,λl C=>?_⟩⟩;have ln:Le X.K c m c (upd m p (.rng i j)):=Le.new q;have u:zF X.K c (upd m p (.rng i j)) ((List.range (j-i).toNat).map λ(k:Nat)=>W.int (i+k)) (kJ i (j-i).toNat):=by
       have:=(zF.ints (K:=X.K) (φ:=c) (H:=upd m p (.rng i j)) (ns:=(List.range (j-i).toNat).map λ(k:Nat)=>(i+(k:Int))) (vs:=kJ i (j-i).toNat)).mpr (by unfold kJ;simp)
       rw[aL]at this;exact this
      obtain⟨U,T,N⟩:=ZR (Y.lay q) C u;exact e _ _ _ (((L.trans B).trans ln).trans U) T N
     ·rw[aq f]at e;exact e.elim
    |_=>exact e.elim
   |_=>exact e.elim
@[irreducible] noncomputable def Zy (X:Cx)(x:XR)(e:Option Expr)(p:Po):Prop:=Mi.SP X x e p
def DK:@Zy=@Mi.SP:=by
 funext X xr e p
 unfold Zy
 rfl
def Ku:@zx=@Mi.SE/\@gp=@Mi.SA/\@yh=@Mi.ST/\@wL=@Mi.SW/\@yN=@Mi.SS/\@kP=@Mi.Yv/\@yX=@Mi.SI/\@kT=@Mi.SG/\@Zs=@Mi.SF/\@kU=@Mi.SQ/\@w9=@Mi.Yx/\@wN=@Mi.SM/\@Wj=@Mi.SJ/\@Zy=@Mi.SP:=⟨Xn,G3,Xa,Xc,GX,GC,Xe,GY,Xl,Xi,GP,G2,R4,DK⟩
def Km:Zy X xr none gk:=by
 try simp only[Ku]at*
 exact PO.imp Dp λσ H Q ⟨φ,A,ρ,S,re,h⟩=>h φ H .refl S
def Kb (c:zx X xr e m):Zy X xr (some e) (gc m):=by
 try simp only[Ku]at*
 exact PO.imp (FI c) λσ H Q ⟨φ,A,ρ,S,re,h⟩=>by
  refine tM.go S re (zZ.mp h) λw A1 a H1 v b l s q=>?_;cases w with
  |int i=>obtain rfl:=q;exact⟨i,rfl,b a H1 l s⟩|_=>exact b.elim
def GA {lo hi:Option Expr}{P pu:Po}{x:Pos}(he:zx X xr e m)(C:Zy X xr lo P)(y:Zy X xr hi pu):zx X xr (.Subscript e (.Slice lo hi none x) pos) (gL m P pu):=by
 try simp only[Ku]at*
 exact PE.imp (T5 Ek he C y) λσ H Q ⟨φ,A,ρ,S,re,h⟩=>by
   refine tM.go S re (zZ.mp h) λw A1 g H1 v E c M q=>?_;refine⟨g,A1,ρ,M,re.mono c,qp (zZ.mp E) (λl A2 D f N d J=>?_) λ_ _ z=>z.mono c⟩;refine⟨f,A2,ρ,J,(re.mono c).mono d,qp (zZ.mp D) (λu T i b n j s=>?_) λ_ _ z=>z.mono (c.trans d)⟩;have L:=(c.trans d).trans j;cases w with
   |tup ws=>
    obtain⟨a,vs,rfl,t,r⟩:=(q.mono d).mono j;have hlen:ws.length=vs.length:=r.length;refine⟨a,vs,rfl,t,λhw=>?_,λhw p B=>?_⟩
    ·refine i b n _ L s ⟨a,vs,rfl,t,?_⟩
     have:ym ws l u=ws:=by
      unfold ym;rw[hlen,hw.1,hw.2,sub_zero,drop_zero,<- hlen,bw]
     rw[this];exact r
    ·have o:zF X.K b n (ym ws l u) (gh vs l u):=by
      unfold ym gh;rw[hlen];exact zF.take _ (zF.drop _ r)
     obtain⟨a1,a2,I⟩:=ZO s B o;exact i _ _ _ (L.trans a1) a2 I
   |_=>exact i.elim
def Qh {a b:Expr}{ma mb:Ev}(H:zx X xr a ma)(h:zx X xr b mb):zx X xr (.BinOp a .FloorDiv b pos) (zi w8 ma mb):=by
 try simp only[Zb]at*
 exact Qq IS XB (G4 HU λ_ _ _ _=>rfl) H h
def Fg {d:Int}{j:Nat}{c kp:Pos}(H:X.calm=true)(hm:X.mg "min"=none)(a:kU X xr e q)(h:Gl X "min":=by rfl)(he:starEach [e] X.env=(false,eval e X.env)::starEach [] X.env:=by rfl):
  zx X xr (.Call (.Name "min" p) [e] [⟨some "default",.Constant (.int d) j c,kp⟩] pos) (mQ (Zi d) q):=by
 try simp only[Zb]at*
 exact PE.imp (EY H hm (jv a j0 he) h he) (mQ.read EX Fh)
def F6 (h:zx X xr e m)(he:∀whole,isTrue e X.env whole=(do let v <- whole;standAt e.pos;holding [v] (truthy v)):=by intro _;rfl):yh X xr e (QH m):=by
 try simp only[Zb]at*
 exact PT.imp (Hh h he) λσ H Q ⟨φ,A,ρ,S,re,h⟩=>by
   refine tM.go S re (zZ.mp h) λw A1 c H1 v a L s d=>?_;cases w with
   |ref n=>
    dsimp only at a;cases E:A1[n]? with
    |none=>rw[E]at a;exact a.elim|some u=>cases u with
     |lst ws=>
      rw[E]at a;dsimp only at a;obtain⟨p,y,rfl,f,i,r⟩:=s.lst d E;obtain⟨b,g,q⟩:=a;cases g;have l:=r.length;refine⟨!ws.isEmpty,.inl ⟨y,qM.of i,?_⟩,q c H1 L s⟩;cases ws with
      |nil=>cases y with
       |nil=>rfl|cons _ _=>cases l
      |cons _ _=>cases y with
       |nil=>cases l|cons _ _=>rfl
     |_=>rw[E]at a;exact a.elim
   |_=>exact a.elim
def LD {a b:Expr}{ma mb:Ev}{P pos':Pos}(E:X.calm=true)(hm:X.mg "tuple"=none)(n:X.mg "range"=none)(J:zx X xr a ma)(I:zx X xr b mb)(D:Gl X "tuple":=by rfl)(o:Gl X "range":=by rfl)(s:starEach [a,b] X.env=[(false,eval a X.env),(false,eval b X.env)]:=by rfl)(d:starEach [b] X.env=[(false,eval b X.env)]:=by rfl)
  (g:starEach [.Call (.Name "range" P) [a,b] [] pos'] X.env=(false,eval (.Call (.Name "range" P) [a,b] [] pos') X.env)::starEach [] X.env:=by rfl):
  zx X xr (.Call (.Name "tuple" p) [.Call (.Name "range" P) [a,b] [] pos'] [] pos) (J9 ma mb):=by
 try simp only[Zb]at*
 exact PE.imp (Qe (Lp E) D hm (by rfl) (jv (TM o n (jv J (jv I j0 (by rw[d];rfl)) (by rw[s,d])) s d) j0 g) (by decide) (by decide) g (by rfl)) λσ H Q ⟨φ,A,ρ,S,re,h⟩=>by
   refine tM.go S re (zZ.mp h) λw A1 r H1 v M L Z y=>?_;refine tM.go Z (re.mono L) (qp (zZ.mp M) (λ_ _ z=>z) λ_ _ z=>z.mono L) λt A2 c m v2 e B Y x=>?_;cases w with
   |int i=>
    obtain rfl:=y;cases t with
    |int j=>
     obtain rfl:=x;dsimp only at e
     by_cases f:(q9 i&&(q9 j&&decide ((j-i).toNat<=zT)))=true
     ·rw[ah f]at e
      rw[ak,ak,ag]at f;refine⟨i,j,rfl,λp q=>⟨p,i,j,rfl,jY,gx f.1,gx f.2.1,gy f.2.2,λl C=>?_⟩⟩;have ln:Le X.K c m c (upd m p (.rng i j)):=Le.new q;have u:zF X.K c (upd m p (.rng i j)) ((List.range (j-i).toNat).map λ(k:Nat)=>W.int (i+k)) (kJ i (j-i).toNat):=by
       have:=(zF.ints (K:=X.K) (φ:=c) (H:=upd m p (.rng i j)) (ns:=(List.range (j-i).toNat).map λ(k:Nat)=>(i+(k:Int))) (vs:=kJ i (j-i).toNat)).mpr (by unfold kJ;simp)
       rw[aL]at this;exact this
      obtain⟨U,T,N⟩:=ZO (Y.lay q) C u;exact e _ _ _ (((L.trans B).trans ln).trans U) T N
     ·rw[aq f]at e;exact e.elim
    |_=>exact e.elim
   |_=>exact e.elim
def Hz {lo hi:Option Expr}{P pu:Po}{x:Pos}(he:zx X xr e m)(C:Zy X xr lo P)(y:Zy X xr hi pu):zx X xr (.Subscript e (.Slice lo hi none x) pos) (KD m P pu):=by
 try simp only[Ku]at*
 exact PE.imp (T5 Di he C y) λσ H Q ⟨φ,A,ρ,S,re,h⟩=>by
   refine tM.go S re (zZ.mp h) λw A1 g H1 v I L U t=>?_;refine⟨g,A1,ρ,U,re.mono L,qp (zZ.mp I) (λl A2 D f H2 c T=>?_) λ_ _ z=>z.mono L⟩;refine⟨f,A2,ρ,T,(re.mono L).mono c,qp (zZ.mp D) (λu Z b d Y j s=>?_) λ_ _ z=>z.mono (L.trans c)⟩;have i:=(L.trans c).trans j;cases w with
   |ref n=>
    dsimp only at b;cases E:Z[n]? with
    |none=>rw[E]at b;exact b.elim|some o=>cases o with
     |lst ws=>
      rw[E]at b;dsimp only at b;obtain⟨a,vs,rfl,J,M,r⟩:=s.lst ((t.mono c).mono j) E;have hlen:ws.length=vs.length:=r.length;refine⟨a,vs,rfl,qM.of M,λp B=>?_⟩;have q:zF X.K d Y (ym ws l u) (gh vs l u):=by
       unfold ym gh;rw[hlen];exact zF.take _ (zF.drop _ r)
      obtain⟨a1,a2,N⟩:=ZR s B q;exact b _ _ _ (i.trans a1) a2 N
     |_=>rw[E]at b;exact b.elim
   |_=>exact b.elim
def zL.up {K:Frag}{j k:Nat}{f:Fn}(F:zL P w K mg base j x n f)(h:j<=k:=by decide):zL P w K mg base k x n f:=F.mono h
section
variable {C:List Value->Prop}
theorem yW (h:∀a,C [a]):∀us:bP,us.length=1->C us
 |[a],_=>h a
theorem wd (h:∀a b,C [a,b]):∀us:bP,us.length=2->C us
 |[a,b],_=>h a b
theorem gr (h:∀a b c,C [a,b,c]):∀us:bP,us.length=3->C us
 |[a,b,c],_=>h a b c
theorem cF (h:∀a b c d,C [a,b,c,d]):∀us:bP,us.length=4->C us
 |[a,b,c,d],_=>h a b c d
end
def qo {l:bT}(h:decide l.Nodup=true):l.Nodup:=of_decide_eq_true h
noncomputable def Ov (N P:bT)(sc:Scope):Bool:=decide (sc.kind=.function)&&(!sc.isCoroutine&&(!sc.isGenerator&&(decide N.Nodup&&(decide (N.take P.length=P)&&(P.all (λx=>decide (sc.names.lookup x=some .local) || decide (sc.names.lookup x=some .cell))&&sc.names.all λy=>!decide (y.2=.free))))))
def qT {P:bT}(h:Ov N P sc=true):qI N P sc:=by
 unfold Ov at h;simp only[ak,ag,Bool.not_eq_true',bq,bI,decide_eq_false_iff_not]at h;obtain⟨g,f,e,d,c,b,a⟩:=h;exact⟨g,f,e,d,c,b,λy H=>a y H⟩
section
def qK {iter:Expr}{m:Ev}(nl:Nat)(cap:bS)(hw:yX X xr tg iter mi)
  (n:∀s H fp,kT (jG X N sc s H fp yn) tg tw/\w9 (jG X N sc s H fp yn) ifs m/\wN (jG X N sc s H fp yn) elt (⟨tg,iter,ifs,0⟩::gs) sc pos 0 em)
  (c:X.calm=true:=by rfl)(S:gB X sc:=by exact cps (by kernel_rfl))(p:ZY X.N N sc nl cap=true:=by kernel_rfl)
  (b:∀g',gs[0]? =some g'->g'.is_async=0:=by intro _ h;cases h<;>rfl)
  (a:∀x,foldedSetIterable iter X.env x=pure x:=by intro _;rfl):Zs X xr (.ListComp elt (⟨tg,iter,ifs,0⟩::gs) sc pos) (zN nl cap mi tw m em):=Fy nl cap c S p hw n b a
def qD {d:Nat}(he:zx X kS elt me)(h:∀e s,X.xe e s->False:=by exactλ_ _ z=>z)(H:gens[d+1]? =none:=by rfl):wN X elt gens sc pos d (zH me):=E2 h he H
end
open PySem L2
abbrev zm:Ev:=qx 0
abbrev zt:Ev:=qx 1
abbrev zJ:Ev:=qx 2
abbrev zU:Ev:=qx 3
abbrev ql:Ev:=qx 4
abbrev qk:Ev:=qx 5
abbrev jw:Ev:=qx 6
abbrev yi:Ev:=qx 7
abbrev QK:Ev:=qx 8
abbrev qe:Ev:=z7 (.int 0)
abbrev qc:Ev:=z7 (.int 1)
abbrev qY:Ev:=z7 (.int 2)
abbrev jM:Ev:=z7 (.int 3)
abbrev j5:Ev:=z7 (.int 4)
abbrev Z3:Ev:=z7 (.int 5)
abbrev Yq:Ev:=z7 (.int 6)
abbrev We:Ev:=z7 (.int 7)
abbrev gR:Ev:=z7 (.int 8)
abbrev XO:Ev:=z7 (.int 10)
abbrev zQ:Ev:=z7 (.bl true)
abbrev Om:Ev:=z7 (.bl false)
abbrev yK:Ev:=z7 .non
abbrev yr:Ex:=zp (qt Om) zw
end Mi
namespace G
open PySem L2 Mi
noncomputable def top (i:Nat):Stmt:=PySem.Challenge.pw_nearkinds_k53_whole_lots.main.body.getD i (.Pass ⟨0,0,0,0⟩)
structure Bu (mg:bY):Prop where
 Xt:mg "abs"=none
 gH:mg "all"=none
 CP:mg "bool"=none
 Qb:mg "enumerate"=none
 Jn:mg "int"=none
 QU:mg "isinstance"=none
 yI:mg "len"=none
 Kt:mg "list"=none
 Jm:mg "max"=none
 Xq:mg "min"=none
 ju:mg "range"=none
 Ai:mg "set"=none
 Hu:mg "sorted"=none
 Kv:mg "sum"=none
 ka:mg "tuple"=none
 Ky:mg "zip"=none
 U2:∃t,mg "FARTHEST"=some (.int 99 t)
 NW:∃t,mg "MOST_KINDS"=some (.int 4 t)
 NN:∃t,mg "MOST_MIXES"=some (.int 4 t)
 Ny:∃t,mg "MOST_PLACES"=some (.int 8 t)
 Rh:∃t,mg "SMALL"=some (.int 3 t)
abbrev UO:Stmt:=top 1
def Mh:qI ["thing"] ["thing"] (qm UO):=qT (by kernel_rfl)
def US:Ex:=zp (qt (jl (Zp .int zm) (yD (Zp .bl zm)))) zw
abbrev UH:Stmt:=top 2
def NX:qI ["thing","many"] ["thing","many"] (qm UH):=qT (by kernel_rfl)
def UC (g:Fn):Ex:=zp (qt (jl (Zp .tup zm) (jl (zi jg (mQ qR (qi zm)) zt) (mQ kQ (zN 1 [] (zY zm) (zE 0) zQ (zH (zA g (zc zm zq)))))))) zw
abbrev Vt:Stmt:=top 3
def OK:qI ["thing","many","limit"] ["thing","many","limit"] (qm Vt):=qT (by kernel_rfl)
def Vu (w:Fn):Ex:=zp (qt (jl (zA w (zc zm (zc zt zq))) (mQ kQ (zN 1 [2] (zY zm) (zE 0) zQ (zH (jZ jR yM qe zm zt)))))) zw
abbrev Vq:Stmt:=top 4
def OH:qI ["thing","least","greatest"] ["thing","least","greatest"] (qm Vq):=qT (by kernel_rfl)
def Vk (g:Fn):Ex:=zp (qt (jl (zA g (zc zm zq)) (jZ jR jR zt zm zJ))) zw
abbrev UE:Stmt:=top 5
def N4:qI ["things"] ["things"] (qm UE):=qT (by kernel_rfl)
def Uy:Ex:=zp (qt (mQ kQ (zN 2 [] (wJ zm (gL zm (gc qc) gk)) (jf 0 1) zQ (zH (zi yM zm zt))))) zw
abbrev Vn:Stmt:=top 6
def OI:qI ["thing","least","greatest"] ["thing","least","greatest"] (qm Vn):=qT (by kernel_rfl)
def Vp (M:Fn)(o:Fn):Ex:=zp (qy (yD (Zp .tup zm)) yr zw) (zp (qt (jl (mQ kQ (zN 1 [1,2] (zY zm) (zE 0) zQ (zH (zA o (zc zm (zc zt (zc zJ zq))))))) (zA M (zc zm zq)))) zw)
abbrev UZ:Stmt:=top 17
def Uz:qI ["thing","many"] ["thing"] (qm UZ):=qT (by kernel_rfl)
def UW (L:Fn)(o:Fn)(C:Fn):Ex:=zp (qy (jH (yD (Zp .tup zm)) (yD (jZ jR jR qc (mQ qR (qi zm)) gR))) yr zw) (zp (z8 1 (mQ qR (qi zm))) (zp (qy (yD (mQ kQ (zN 1 [1] (zY zm) (zE 0) zQ (zH (zA o (zc zm (zc zt (zc zt zq)))))))) yr zw) (zp (qt (jl (zA L (zc zm zq)) (zA C (zc zm zq)))) zw)))
abbrev TB:Stmt:=top 18
def Ga:qI ["rows","a","row","b","kind"] ["rows"] (qm TB):=qT (by kernel_rfl)
def Tv:Ex:=zp (jA (yA zm) (jf 1 2) (zp (jA (yA zJ) (jf 3 4) (zp (qy (jH (zi qj (zi jg ql qe) (zi jg zt zU)) (zi qj (zi zI (zi zI zm zU) zt) ql)) yr zw) zw)) zw)) (zp (qt zQ) zw)
abbrev Vg:Stmt:=top 19
def Ve:qI ["rows","standing"] ["rows"] (qm Vg):=qT (by kernel_rfl)
def Vi:Ex:=zp (z8 1 (qv (zN 2 [] (zY zm) (zE 0) zQ (yQ (zY zm) (zE 1) zQ (zH zt))))) (zp (qt (mQ kQ (zN 1 [1] (jI (mQ yf (qi zt))) (zE 0) zQ (zH (zi Jv zm zt))))) zw)
abbrev VJ:Stmt:=top 20
def O5:qI ["table"] ["table"] (qm VJ):=qT (by kernel_rfl)
def VI (M:Fn):Ex:=zp (qy (yD (zA M (zc zm zq))) (zp ZZ zw) zw) zw
abbrev V9:Stmt:=top 21
def Nb:qI ["table"] ["table"] (qm V9):=qT (by kernel_rfl)
def Ud:Ex:=zp (qt (zi qL (mQ yf (zN 1 [] (zY zm) (zE 0) zQ (zH (mQ yf (qi zm))))) qc)) zw
abbrev Ui:Stmt:=top 22
def NB:qI ["table"] ["table"] (qm Ui):=qT (by kernel_rfl)
def Ul (K:Fn)(w:Fn):Ex:=zp (jS (zA w (zc zm zq))) (zp (qt (zA K (zc zm zq))) zw)
abbrev VL:Stmt:=top 23
def Yy:qI ["table","one","other","many","counts","i","j"] ["table","one","other"] (qm VL):=qT (by kernel_rfl)
def VQ (K:Fn):Ex:=zp (z8 3 (zA K (zc zm zq))) (zp (z8 4 (qv (zN 1 [3] (jI zU) (zE 0) zQ (zH (zi qw (qW (zc qe zq)) zt))))) (zp (jA (wJ (zi zI zm zt) (zi zI zm zJ)) (jf 5 6) (zp (wG (zi zI ql qk) jw qc) zw)) (zp (qt (mQ j4 (zN 1 [] (zY ql) (zE 0) zQ (zH (mQ j4 (qi zm)))))) zw)))
abbrev Ug:Stmt:=top 24
def YC:qI ["table","firsts","a","row","b","kind"] ["table"] (qm Ug):=qT (by kernel_rfl)
def V3:Ex:=zp (z8 1 P5) (zp (jA (yA zm) (jf 2 3) (zp (jA (yA zU) (jf 4 5) (zp (jS (Jk g0 zt qk (qz (zc zJ (zc ql zq))))) zw)) zw)) (zp (qt zt) zw))
abbrev V2:Stmt:=top 25
def WK:qI ["table","firsts","pairs"] ["table"] (qm V2):=qT (by kernel_rfl)
def V7 (K:Fn)(Y:Fn)(w:Fn):Ex:=zp (z8 1 (zA w (zc zm zq))) (zp (z8 2 (qv (zN 1 [1] (jI (zA K (zc zm zq))) (zE 0) zQ (zH (zi KH zt zm))))) (zp (qt (qv (zN 2 [0] (zY zJ) (jf 0 1) zQ (zH (zA Y (zc zJ (zc zm (zc zt zq)))))))) zw))
abbrev VS:Stmt:=top 26
def JC:qI ["table","kind","a","b","shares","c","row","e","by"] ["table"] (qm VS):=qT (by kernel_rfl)
def VM (Y:Fn)(w:Fn):Ex:=zp (jA (Ya (zA w (zc zm zq))) (Ko 1 2 3) (zp (z8 4 (zA Y (zc zm (zc zJ (zc zU zq))))) (zp (jA (yA zm) (jf 5 6) (zp (jA (yA jw) (jf 7 8) (zp (qy (jl (zi jg QK zt) (zi qj (zA Y (zc zm (zc qk (zc yi zq)))) ql)) (zp (qt (qz (zc zJ (zc zU (zc qk (zc yi zq)))))) zw) zw) zw)) zw)) zw))) (zp (qt yK) zw)
abbrev VC:Stmt:=top 27
def OT:qI ["table"] ["table"] (qm VC):=qT (by kernel_rfl)
def Vx (w:Fn)(N:Fn):Ex:=zp (jS (zA w (zc zm zq))) (zp (qy (zi (jL true) (zA N (zc zm zq)) yK) (zp ZZ zw) zw) zw)
abbrev U0:Stmt:=top 29
def Mq:qI ["shares","one","other"] ["shares","one","other"] (qm U0):=qT (by kernel_rfl)
def U5 (N:Fn):Ex:=zp (qt (mQ j4 (zN 1 [1,2] (zY zm) (zE 0) zQ (zH (zA N (zc zm (zc zt (zc zJ zq)))))))) zw
abbrev V5:Stmt:=top 30
def Nm:qI ["by_kind","one","other"] ["by_kind","one","other"] (qm V5):=qT (by kernel_rfl)
def Uc:Ex:=zp (qt (mQ kN (zN 4 [2] (wJ zt zm) (jf 0 1) zQ (yQ (wJ ql zt) (jf 2 3) zQ (zH (zi qw (zi qw zm zJ) zU)))))) zw
abbrev V8:Stmt:=top 36
def Nj:qI ["table","lot"] ["table","lot"] (qm V8):=qT (by kernel_rfl)
def VV (w:Fn):Ex:=zp (qy (yD (zA w (zc zt (zc qe (zc (zi kq (mQ qR (qi zm)) qc) zq))))) (zp ZZ zw) zw) zw
abbrev Vj:Stmt:=top 37
def OB:qI ["table","kinds"] ["table","kinds"] (qm Vj):=qT (by kernel_rfl)
def Vf (K:Fn)(w:Fn):Ex:=zp (qy (yD (zA w (zc zt (zc qc (zc (zi kq (zA K (zc zm zq)) qc) zq))))) (zp ZZ zw) zw) zw
abbrev TY:Stmt:=top 38
def YV:qI ["table","lot","counts","a","b"] ["table","lot"] (qm TY):=qT (by kernel_rfl)
def Si (K:Fn)(a:Fn)(w:Fn):Ex:=zp (jS (zA w (zc zm zq))) (zp (jS (zA a (zc zm (zc zt zq)))) (zp (z8 2 (zi qw (qW (zc qe zq)) (zA K (zc zm zq)))) (zp (jA (zY zt) (zE 3) (zp (jA (zY zt) (zE 4) (zp (wG zJ (zi zI (zi zI zm zU) ql) qc) zw)) zw)) (zp (qt zJ) zw))))
abbrev Sx:Stmt:=top 39
def HB:qI ["table","kinds","lot","place"] ["table","kinds","lot","place"] (qm Sx):=qT (by kernel_rfl)
def Rz:Ex:=zp (qt (mQ kQ (zN 1 [0,1,3] (zY zJ) (zE 0) zQ (zH (zi Jv (zi zI (zi zI zt zm) zU) zJ))))) zw
abbrev Tu:Stmt:=top 40
def M8:qI ["table","kinds","lot"] ["table","kinds","lot"] (qm Tu):=qT (by kernel_rfl)
def TL (L:Fn)(a:Fn)(w:Fn)(g:Fn):Ex:=zp (jS (zA w (zc zm zq))) (zp (jS (zA g (zc zm (zc zt zq)))) (zp (jS (zA a (zc zm (zc zJ zq)))) (zp (qt (mQ kQ (zN 2 [0,1,2] (yA zJ) (jf 0 1) zQ (zH (zA L (zc zJ (zc zU (zc (gL ql gk (gc zm)) (zc zt zq))))))))) zw)))
abbrev Vs:Stmt:=top 41
def Jx:qI ["table","kinds","lots","longer"] ["table","kinds"] (qm Vs):=qT (by kernel_rfl)
def Vv (g:Fn):Ex:=zp (z8 2 (qW zq)) (zp (z8 3 (qv (zN 1 [] (jI (mQ qR (qi zm))) (zE 0) zQ (zH (qz (zc zm zq)))))) (zp (J5 1000 (QH zU) (zp (z8 2 zU) (zp (z8 3 (qv (zN 2 [0,1] (zY zJ) (zE 0) zQ (yQ (yT (zi qL (zi zI zm (jq k6 qc)) qc) (mQ qR (qi zJ))) (zE 1) (zA g (zc zJ (zc zU (zc zm (zc zt zq))))) (zH (zi qL zm (qz (zc zt zq)))))))) zw))) (zp (qt zJ) zw)))
abbrev RI:Stmt:=top 42
def EF:qI ["table","kinds"] ["table","kinds"] (qm RI):=qT (by kernel_rfl)
def RR (w:Fn)(g:Fn)(y:Fn):Ex:=zp (jS (zA w (zc zm zq))) (zp (jS (zA g (zc zm (zc zt zq)))) (zp (qt (mQ qR (qi (zi zI (zA y (zc zm (zc zt zq))) qe)))) zw))
abbrev U8:Stmt:=top 43
def Me:qI ["table","kinds"] ["table","kinds"] (qm U8):=qT (by kernel_rfl)
def UT (w:Fn)(g:Fn)(y:Fn):Ex:=zp (jS (zA w (zc zm zq))) (zp (jS (zA g (zc zm (zc zt zq)))) (zp (qt (zA y (zc zm (zc zt zq)))) zw))
abbrev VZ:Stmt:=top 44
def YD:qI ["shares","kinds","mixes","squares","summed","least"] ["shares","kinds","mixes"] (qm VZ):=qT (by kernel_rfl)
def V4 (L:Fn):Ex:=zp (z8 3 (qv (zN 1 [0] (zY zJ) (zE 0) zQ (zH (zA L (zc zt (zc zm (zc zm zq)))))))) (zp (z8 4 (qv (zN 1 [3] (jI (mQ qR (qi zm))) (zE 0) zQ (zH (mQ kN (zN 1 [0] (zY zt) (zE 0) zQ (zH (zi zI zm zt)))))))) (zp (z8 5 (mQ (Zi 0) (zN 1 [4] (zY zt) (zE 0) zQ (zH (jq k6 (zi zI zt zm)))))) (zp (qy (zi jR qk qe) (zp (qt yK) zw) zw) (zp (qt (zi qL (zi w8 (zi zI ql qe) qk) qc)) zw))))
abbrev VA:Stmt:=top 45
def OQ:qI ["table","thing"] ["table","thing"] (qm VA):=qT (by kernel_rfl)
def VG (K:Fn)(w:Fn):Ex:=zp (qy (jH (yD (Zp .tup zt)) (yD (jZ jR jR qc (mQ qR (qi zt)) j5))) yr zw) (zp (qy (yD (mQ kQ (zN 1 [0] (zY zt) (zE 0) zQ (zH (zA w (zc zm (zc (zA K (zc zt zq)) zq))))))) yr zw) (zp (qt (mQ kQ (zN 2 [] (zY zt) (zE 0) zQ (yQ (zY zm) (zE 1) zQ (zH (jZ jR jR (jq k6 (z7 (.int 99))) zt (z7 (.int 99)))))))) zw))
abbrev UM:Stmt:=top 46
def Mw:qI ["table","kinds","thing"] ["table","kinds","thing"] (qm UM):=qT (by kernel_rfl)
def UL (J:Fn)(o:Fn)(j:Fn)(w:Fn)(g:Fn):Ex:=zp (jS (zA w (zc zm zq))) (zp (jS (zA g (zc zm (zc zt zq)))) (zp (qt (jl (zA o (zc zm (zc zJ zq))) (zi (jL true) (zA J (zc (zA j (zc zm zq)) (zc zt (zc zJ zq)))) yK))) zw))
abbrev Rp:Stmt:=top 47
def H9:qI ["table","kinds","paper"] ["table","kinds","paper"] (qm Rp):=qT (by kernel_rfl)
def Rv (J:Fn)(Z:Fn)(j:Fn):Ex:=zp (qy (yD (zA Z (zc zm (zc zt (zc zJ zq))))) (zp ZZ zw) zw) (zp (qt (zA J (zc (zA j (zc zm zq)) (zc zt (zc zJ zq))))) zw)
abbrev V0:Stmt:=top 48
def YA:qI ["many","mixes","kind"] ["many"] (qm V0):=qT (by kernel_rfl)
def VX:Ex:=zp (z8 1 (qW (zc (qz zq) zq))) (zp (jA (jI zm) (zE 2) (zp (z8 1 (qv (zN 2 [] (zY zt) (zE 0) zQ (yQ (yT (jq k6 jM) (zi qL jM qc)) (zE 1) zQ (zH (zi qL zm (qz (zc zt zq)))))))) zw)) (zp (qt zt) zw))
abbrev UU:Stmt:=top 49
def ZE:qI ["table","kinds","shares","best","least","mix","shown"] ["table","kinds"] (qm UU):=qT (by kernel_rfl)
def U6 (K:Fn)(J:Fn)(j:Fn)(w:Fn)(g:Fn)(N:Fn):Ex:=zp (jS (zA w (zc zm zq))) (zp (qy (zi Yw (zA K (zc zm zq)) j5) (zp ZZ zw) zw) (zp (jS (zA g (zc zm (zc zt zq)))) (zp (qy (zi jg zt (qz zq)) (zp ZZ zw) zw) (zp (z8 2 (zA j (zc zm zq))) (zp (z8 3 yK) (zp (z8 4 yK) (zp (jA (zY (zA N (zc (zA K (zc zm zq)) zq))) (zE 5) (zp (z8 6 (zA J (zc zJ (zc zt (zc (qz (zc qk zq)) zq))))) (zp (qy (jl (zi (jL true) jw yK) (jH (zi (jL false) ql yK) (zi yM jw ql))) (zp (z8 3 qk) (zp (z8 4 jw) zw)) zw) zw))) (zp (qt zU) zw))))))))
abbrev VO:Stmt:=top 51
def O7:qI ["_law_script","_law_k"] ["_law_script","_law_k"] (qm VO):=qT (by kernel_rfl)
def WI:Ex:=zp (qy (zi yM zt (mQ qR (qi zm))) (zp (qt (zi zI zm zt)) zw) zw) (zp (qt qe) zw)
abbrev Ut:Stmt:=top 52
def VW:qI ["_law_script","_law_k","_law_cell"] ["_law_script","_law_k"] (qm Ut):=qT (by kernel_rfl)
def W0 (N:Fn):Ex:=zp (z8 2 (zA N (zc zm (zc zt zq)))) (zp (qy (zi Wn zJ (zi KO XO (z7 (.int 18)))) (zp (qt (qW (zc (zi kq zJ (zi KO XO (z7 (.int 18)))) (zc zQ zq)))) zw) zw) (zp (qt (qW (zc (zi k5 zJ (z7 (.int 2147483647))) (zc Om zq)))) zw))
abbrev UG:Stmt:=top 53
def YL:qI ["_law_state_here","_law_many","_law_found","_law_stirred"] ["_law_state_here","_law_many"] (qm UG):=qT (by kernel_rfl)
def W5:Ex:=zp (qy (zi zI zm qc) (zp (z8 2 (zi k5 (zi zI zm qe) zt)) (zp (Jh kO (zi w8 (zi zI zm qe) zt) zm qe) (zp (qt zJ) zw))) zw) (zp (Jh kO (zi k5 (zi qL (zi qw (zi zI zm qe) (z7 (.int 48271))) (z7 (.int 29))) (z7 (.int 2147483647))) zm qe) (zp (z8 3 (zi k5 (zi qL (zi qL (zi qw (zi zI zm qe) (zi zI zm qe)) (zi qw (z7 (.int 39373)) (zi zI zm qe))) We) (z7 (.int 2147483629)))) (zp (z8 3 (zi k5 (zi qL (zi qw zU zU) (zi qw (z7 (.int 16807)) zU)) (z7 (.int 2147483587)))) (zp (qt (zi k5 (zi w8 zU gR) zt)) zw))))
abbrev VB:Stmt:=top 54
def Wz:qI ["_law_state_here","_law_things","_law_left","_law_found"] ["_law_state_here","_law_things"] (qm VB):=qT (by kernel_rfl)
def VH (y:Fn):Ex:=zp (z8 2 (qv (qi zt))) (zp (z8 3 (qW zq)) (zp (J5 1000 (zi qj zJ (qW zq)) (zp (jS (ko wY zU (ko gG zJ (zA y (zc zm (zc (mQ qR (qi zJ)) zq)))))) zw)) (zp (qt zU) zw)))
abbrev Uw:Stmt:=top 55
def V6:qI ["_law_rows","_law_some"] ["_law_rows"] (qm Uw):=qT (by kernel_rfl)
def Uj:Ex:=zp (z8 1 (Y1 (zi Zh (qv (zN 1 [] (zY zm) (zE 0) zQ (zH (qv (qi zm))))) (qW zq)))) (zp (qt (mQ j4 (zN 1 [1] (zY zm) (zE 0) zQ (zH (mQ j4 (zN 1 [1] (zY zm) (zE 0) zQ (zH (ko gF zt zm)))))))) zw)
abbrev Up:Stmt:=top 56
def kz:qI ["_law_state_here","_law_way","_law_many","_law_wide","_law_high","_law_some","_law_ring","_law_rows","_law_a","_law_near","_law_far"] ["_law_state_here"] (qm Up):=qT (by kernel_rfl)
def WZ (y:Fn):Ex:=zp (z8 1 (zA y (zc zm (zc gR zq)))) (zp (z8 2 (zi zI (qW (zc gR (zc We (zc Yq (zc Z3 (zc j5 (zc jM (zc qY (zc qc zq))))))))) (zA y (zc zm (zc gR zq))))) (zp (qy (zi jg zt qe) (zp (qt (qv (zN 1 [2] (jI zJ) (zE 0) zQ (zH (qv (zN 1 [0,1] (jI zt) (zE 0) zQ (zH (zi KL (jq Ym (zi kq zt zm)) (zi kq zJ (jq Ym (zi kq zt zm))))))))))) zw) zw) (zp (qy (zi jg zt qc) (zp (z8 2 (zi zI (qW (zc gR (zc j5 (zc qY zq)))) (zA y (zc zm (zc jM zq))))) (zp (qt (qv (zN 1 [2] (jI zJ) (zE 0) zQ (zH (qv (zN 1 [0] (jI zt) (zE 0) zQ (zH (zi zI (qW (zc qe (zc qc (zc qc (zc qY (zc qc (zc qY (zc qY (zc jM zq))))))))) (zi XH zt zm))))))))) zw)) zw) (zp (qy (zi jg zt qY) (zp (qt (qv (zN 1 [2] (jI zJ) (zE 0) zQ (zH (qv (zN 1 [0] (jI zt) (zE 0) zQ (zH (jq QG (zi qj zt zm))))))))) zw) zw) (zp (qy (zi jg zt jM) (zp (KR (zi zI (qW (zc (qz (zc qY (zc j5 zq))) (zc (qz (zc j5 (zc qY zq))) (zc (qz (zc qY (zc jM zq))) (zc (qz (zc jM (zc qY zq))) (zc (qz (zc qY (zc qY zq))) zq)))))) (zA y (zc zm (zc Z3 zq)))) (jf 3 4)) (zp (z8 2 (zi qw zU ql)) (zp (qt (qv (zN 1 [2,3] (jI zJ) (zE 0) zQ (zH (qv (zN 1 [0,2] (jI zt) (zE 0) zQ (zH (zi qL (jq QG (zi qj zt zm)) (jq QG (zi qj (zi w8 zt zJ) (zi w8 zm zJ))))))))))) zw))) zw) (zp (qy (zi jg zt j5) (zp (z8 5 (qW (zc (qz (zc qe (zc qc zq))) (zc (qz (zc qe (zc qY zq))) (zc (qz (zc qe (zc jM zq))) (zc (qz (zc qc (zc qY zq))) (zc (qz (zc qc (zc jM zq))) (zc (qz (zc qY (zc jM zq))) zq)))))))) (zp (qt (qv (zN 1 [5] (zY qk) (zE 0) zQ (zH (qv (zN 1 [0] (zY zt) (zE 0) zQ (zH (zi kq qY (mQ qR (zN 1 [0] (zY zt) (zE 0) (zi Jv zm zt) (zH zm))))))))))) zw)) zw) (zp (qy (zi jg zt Z3) (zp (z8 2 (zi zI (qW (zc j5 (zc gR (zc qY zq)))) (zA y (zc zm (zc jM zq))))) (zp (qt (qv (zN 1 [2] (jI zJ) (zE 0) zQ (zH (qv (zN 1 [0] (jI zt) (zE 0) zQ (zH (zi XH zt zm)))))))) zw)) zw) (zp (z8 3 (zi zI (qW (zc j5 (zc jM (zc qY zq)))) (zA y (zc zm (zc jM zq))))) (zp (z8 6 (qW (zc qe (zc qc (zc (zi zI (qW (zc qY (zc qc zq))) (jq QG (zi jg zU jM))) (zc qc zq)))))) (zp (z8 7 (qW zq)) (zp (jA (jI (zi qw qY zU)) (zE 8) (zp (z8 9 (qv (zN 1 [3,6,8] (jI (zi qw qY zU)) (zE 0) zQ (zH (zi zI zJ (zi k5 (jq Ym (zi kq zU zm)) zt)))))) (zp (z8 10 (qv (zN 1 [3,8] (jI (zi qw qY zU)) (zE 0) zQ (zH (jq QG (zi qj (zi w8 zJ zt) (zi w8 zm zt))))))) (zp (qy (zi jg zt Yq) (zp (jS (ko wY yi (qv (zN 1 [9,10] (jI (zi qw qY zU)) (zE 0) zQ (zH (zi qL (zi qw jM (zi zI zJ zm)) (zi zI zt zm))))))) zw) (zp (jS (ko wY yi (qv (zN 1 [9,10] (jI (zi qw qY zU)) (zE 0) zQ (zH (Oi (zi jg (zi zI zJ zm) qc) jM (zi zI zt zm))))))) zw)) zw)))) (zp (qt yi) zw))))))))))))
abbrev Uo:Stmt:=top 57
def YF:qI ["_law_state_here","_law_rows","_law_order","_law_kinds"] ["_law_state_here"] (qm Uo):=qT (by kernel_rfl)
def Um (v:Fn)(N:Fn)(n:Fn):Ex:=zp (z8 1 (zA N (zc (zA n (zc zm zq)) zq))) (zp (z8 2 (zA v (zc zm (zc (J0 (mQ qR (qi zt))) zq)))) (zp (z8 3 (zi qL (qW (zc qe zq)) (zA v (zc zm (zc (J2 qc (zi qL qc (mQ yf (zN 1 [] (zY zt) (zE 0) zQ (zH (mQ yf (qi zm))))))) zq))))) (zp (qt (mQ j4 (zN 1 [1,2,3] (zY zJ) (zE 0) zQ (zH (mQ j4 (zN 1 [0,1,3] (zY zJ) (zE 0) zQ (zH (zi zI zU (zi zI (zi zI zJ zt) zm))))))))) zw)))
abbrev Ur:Stmt:=top 58
def Z7:qI ["_law_state_here","_law_table","_law_kinds","_law_wide","_law_others","_law_many","_law_lot","_law_found","_law_mix"] ["_law_state_here","_law_table","_law_kinds"] (qm Ur):=qT (by kernel_rfl)
def Uu (y:Fn)(L:Fn)(I:Fn)(z:Fn)(Q:Fn)(Z:Fn)(J:Fn)(H:Fn):Ex:=zp (z8 3 (zA Q (zc zt zq))) (zp (z8 4 (mQ j4 (zN 1 [2] (yT qc zU) (zE 0) (zi Xh zm zt) (zH zm)))) (zp (z8 5 (zA Z (zc zt (zc zJ zq)))) (zp (qy (jH (zi Yw (zi qw qk (zA Z (zc zt (zc ql zq)))) (mQ qR (qi zt))) (zi qj (zA Z (zc zt (zc (J9 qc zU) zq))) (mQ qR (qi zt)))) yr zw) (zp (jA (zY (KD (zA L (zc zt (zc zJ zq))) gk (gc Yq))) (zE 6) (zp (z8 7 (zA H (zc zt (zc jw zq)))) (zp (qy (jH (zi qj (mQ qR (qi jw)) qk) (jH (zi (jL true) (zA I (zc zt (zc zJ (zc jw zq)))) zQ) (zi qj (mQ kN (qi yi)) (zi qw qk qk)))) yr zw) (zp (qy (jH (zi qj (qv (zN 1 [7] (zY ql) (zE 0) (zi qj (zi zI zt zm) qe) (zH zm))) (qW zq)) (zi qj (zi zI yi qe) qk)) yr zw) zw)))) (zp (qy (zi Yw (zA Z (zc zt (zc (gL zJ (gc qc) gk) zq))) qk) yr zw) (zp (z8 8 (zi qL (qz (zc (zi qL qc (zA y (zc zm (zc j5 zq)))) zq)) (mQ j4 (zN 1 [0] (yT qc zU) (zE 0) zQ (zH (zi kq qe (zA y (zc zt (zc j5 zq))))))))) (zp (qt (jH (zi (jL true) (zA z (zc zt (zc zJ (zc (qz (zc QK zq)) zq)))) zQ) (zi Wn (zA J (zc zt (zc zJ (zc (qz (zc QK zq)) zq)))) qk))) zw)))))))
abbrev KI:Stmt:=top 59
def Qx:qI ["_law_script","_law_k","_law_state_here","_law_table","_law_wide","_law_kinds","_law_best"] ["_law_script"] (qm KI):=qT (by kernel_rfl)
def XA (K:Fn)(M:Fn)(J:Fn)(y:Fn)(Y:Fn)(z:Fn)(Q:Fn)(Z:Fn)(j:Fn):Ex:=zp (jA (jI (zi Xp qc (zi KL (mQ qR (qi zm)) jM))) (zE 1) (zp (z8 2 (zA J (zc zm (zc zt zq)))) (zp (z8 3 (zA K (zc zJ zq))) (zp (z8 4 (zA Q (zc zU zq))) (zp (z8 5 (mQ j4 (zN 1 [2] (yT qc ql) (zE 0) (zi jg (zA y (zc zt (zc qY zq))) qc) (zH zm)))) (zp (qy (yD (zA M (zc zJ (zc zU (zc qk zq))))) yr zw) (zp (qy (jl (zi jg zt qe) (jl (zi qj qk (qz zq)) (zi yM ql Z3))) (zp (z8 6 (zA Y (zc zU (zc qk zq)))) (zp (qy (jl (zi (jL true) jw yK) (zi (jL true) (zA z (zc zU (zc qk (zc (qz (zc jw zq)) zq)))) zQ)) yr zw) (zp (qy (jl (zi (jL true) jw yK) (zi yM (zA j (zc zU (zc qk (zc (qz (zc jw zq)) zq)))) (zA Z (zc zU (zc qk zq))))) yr zw) zw))) zw) zw))))))) (zp (qt zQ) zw)
def o_law {K:Frag}{k:Nat}(T:Bu mg){f:Addr}(F:gT K "law" "law" KI f fd){a:Fn}(Z9:zL P w K mg base k "_law_known" 1 a){M:Fn}(Z8:zL P w K mg base k "_law_right" 3 M){J:Fn}(QT:zL P w K mg base k "_law_state" 2 J){y:Fn}(jT:zL P w K mg base k "_law_take" 2 y){Y:Fn}(QX:zL P w K mg base k "best_mix" 2 Y){z:Fn}(ZF:zL P w K mg base k "is_paper" 3 z){Q:Fn}(Qa:zL P w K mg base k "kinds_many" 1 Q){Z:Fn}(Qr:zL P w K mg base k "most" 2 Z){j:Fn}(Qk:zL P w K mg base k "shows" 3 j):yC P w K mg base wM (k+1) f fd ["_law_script"] (Zt K 1 (qH 7 (XA a M J y Y z Q Z j))):=
 AR F Qx λc A outer s H E h=>zu (y9 PassesOwn.never rfl (j7 rfl T.ju (Hg rfl T.Jm zB (TR rfl T.Xq (yG T.yI (j3 (zh 0))) zB))) (qg 1 Qx.nd) (zu (qF 2 Qx.nd (zR QT h (zo (zh 0) (zo (zh 1) zC)))) (zu (qF 3 Qx.nd (zR Z9 h (zo (zh 2) zC))) (zu (qF 4 Qx.nd (zR Qa h (zo (zh 3) zC))) (zu (qF 5 Qx.nd (gz T.ka (jO (qK (N:=["_law_kind","_law_state_here"]) 1 [2] (JY rfl T.ju zB (zh 4)) (λ_ _ _=>⟨qg 0 (qo (by kernel_rfl)),JT (jb (yS h) (zR jT h (zo (zh 1) (zo zB zC))) zB),qD (zh 0)⟩))))) (zu (jj (wy (wu (zR Z8 h (zo (zh 2) (zo (zh 3) (zo (zh 5) zC)))))) (zu (qf yk) zD) zD) (zu (jj (wm (Q6 (jb (yS h) (zh 1) zB) (Q6 (jb (ki h) (zh 5) (jN zC qJ)) (JR (jb Jr (zh 4) zB))))) (zu (qF 6 Qx.nd (zR QX h (zo (zh 3) (zo (zh 5) zC)))) (zu (jj (wm (Q6 (jb ZM (zh 6) gA) (JR (jb ZM (zR ZF h (zo (zh 3) (zo (zh 5) (zo (jN (zo (zh 6) zC) (zS qJ)) zC)))) yk)))) (zu (qf yk) zD) zD) (zu (jj (wm (Q6 (jb ZM (zh 6) gA) (JR (jb Jr (zR Qk h (zo (zh 3) (zo (zh 5) (zo (jN (zo (zh 6) zC) (zS qJ)) zC)))) (zR Qr h (zo (zh 3) (zo (zh 5) zC))))))) (zu (qf yk) zD) zD) zD))) zD) zD))))))) (zu (qf yk) zD)
def YS:Fn:=qH 1 US
def ZH:Fn :=  YS
def W6:Fn:=qH 1 Uy
def YN:Fn :=  W6
def Tj:Fn:=qH 5 Tv
def Gi:Fn:=iso Tj
def Vh:Fn:=qH 2 Vi
def Wu:Fn:=iso Vh
def VU:Fn:=qH 1 Ud
def kA:Fn:=iso VU
def WS:Fn:=qH 6 V3
def QR:Fn:=iso WS
def Ue:Fn:=qH 3 Uc
def YE:Fn:=iso Ue
def SV:Fn:=qH 4 Rz
def ZK:Fn:=iso SV
def Ua:Fn:=qH 3 VX
def WW:Fn:=iso Ua
def VR:Fn:=qH 2 WI
def YB:Fn :=  VR
def JI:Fn:=qH 4 W5
def jT:Fn:=wI JI
def W3:Fn:=qH 2 Uj
def YG:Fn :=  W3
def W4:Fn:=qH 2 (UC ZH)
def QV:Fn :=  W4
def Vl:Fn:=qH 3 (Vk ZH)
def Jy:Fn:=iso Vl
def VT:Fn:=qH 7 (VQ kA)
def gu:Fn:=iso VT
def Gg:Fn:=qH 3 (U5 YE)
def JK:Fn :=  Gg
def Vr:Fn:=qH 4 (Vv ZK)
def Jz:Fn:=iso Vr
def Uk:Fn:=qH 3 (W0 YB)
def QT:Fn :=  Uk
def WB:Fn:=qH 4 (VH jT)
def QN:Fn :=  WB
def WX:Fn:=qH 11 (WZ jT)
def YI:Fn :=  WX
def Wx:Fn:=qH 3 (Vu QV)
def JA:Fn :=  Wx
def Ww:Fn:=qH 3 (Vp YN Jy)
def QM:Fn :=  Ww
def VY:Fn:=qH 3 (V7 kA gu QR)
def JG:Fn:=iso VY
def VP:Fn:=qH 9 (VM gu QR)
def WG:Fn:=iso VP
def WN:Fn:=qH 6 (V4 JK)
def Z6:Fn :=  WN
def Vy:Fn:=qH 2 (VG kA QV)
def WD:Fn:=iso Vy
def YH:Fn:=qH 4 (Um QN YG YI)
def Z9:Fn:=wI YH
def W9:Fn:=qH 2 (UW Gi JA Wu)
def JJ:Fn :=  W9
def WU:Fn:=qH 2 (VV QM)
def JD:Fn :=  WU
def Wt:Fn:=qH 2 (Vf kA QM)
def ZC:Fn :=  Wt
def WE:Fn:=qH 1 (VI JJ)
def gX:Fn :=  WE
def Uv:Fn:=qH 1 (Ul kA gX)
def Qa:Fn:=iso Uv
def WA:Fn:=qH 1 (Vx gX WG)
def JB:Fn :=  WA
def TX:Fn:=qH 5 (Si kA JD gX)
def Y7:Fn:=iso TX
def Tz:Fn:=qH 3 (TL ZK JD gX ZC)
def JO:Fn:=iso Tz
def R1:Fn:=qH 2 (RR gX ZC Jz)
def Qr:Fn:=iso R1
def U1:Fn:=qH 2 (UT gX ZC Jz)
def YQ:Fn:=iso U1
def UJ:Fn:=qH 3 (UL Z6 WD JG JB ZC)
def ZF:Fn:=iso UJ
def Gf:Fn:=qH 7 (U6 kA Z6 JG JB ZC WW)
def QX:Fn:=iso Gf
def SD:Fn:=qH 3 (Rv Z6 ZF JG)
def Qk:Fn:=iso SD
def W2:Fn:=qH 9 (Uu jT YQ JO ZF Qa Qr Qk Y7)
def Z8:Fn:=wI W2
structure Tx (K:Frag):Prop where
 Ln:FD K "is_whole" UO
 Mk:FD K "is_rising" UE
 Iu:FD K "is_even" TB
 OE:FD K "leaves_no_kind_out" Vg
 Nt:FD K "count_kinds" V9
 NA:FD K "first_pairs" Ug
 Nw:FD K "multiply_at" V5
 Dv:FD K "joins" Sx
 Nz:FD K "small_mixes" V0
 Nd:FD K "_law_cell_at" VO
 Mv:FD K "_law_take" UG
 N6:FD K "_law_named" Uw
 My:FD K "is_wholes" UH
 OM:FD K "is_whole_between" Vq
 Nq:FD K "count_shares" VL
 M3:FD K "multiply" U0
 OZ:FD K "search_greatest" Vs
 NV:FD K "_law_state" Ut
 O4:FD K "_law_mixed_row" VB
 NR:FD K "_law_plain" Up
 OS:FD K "is_wholes_below" Vt
 OP:FD K "is_rising_wholes" Vn
 NK:FD K "kind_shares" V2
 Nl:FD K "search_break" VS
 Nv:FD K "count_shown" VZ
 O3:FD K "has_paper_form" VA
 NS:FD K "_law_known" Uo
 MO:FD K "is_table" UZ
 NJ:FD K "require_lot" V8
 OG:FD K "require_told_kinds" Vj
 O9:FD K "require_table" VJ
 NO:FD K "kinds_many" Ui
 O1:FD K "require_steady" VC
 HF:FD K "spread" TY
 Lz:FD K "is_free" Tu
 C9:FD K "most" RI
 Lk:FD K "greatest" U8
 M0:FD K "is_paper" UM
 La:FD K "best_mix" UU
 FR:FD K "shows" Rp
 NP:FD K "_law_right" Ur
 Ar:FD K "law" KI
 AD:nsIn K mainGlobals "abs"=some none
 AE:nsIn K mainGlobals "all"=some none
 DT:nsIn K mainGlobals "bool"=some none
 Ms:nsIn K mainGlobals "enumerate"=some none
 Ad:nsIn K mainGlobals "int"=some none
 N5:nsIn K mainGlobals "isinstance"=some none
 BK:nsIn K mainGlobals "len"=some none
 D2:nsIn K mainGlobals "list"=some none
 BG:nsIn K mainGlobals "max"=some none
 Az:nsIn K mainGlobals "min"=some none
 Df:nsIn K mainGlobals "range"=some none
 BE:nsIn K mainGlobals "set"=some none
 HZ:nsIn K mainGlobals "sorted"=some none
 BN:nsIn K mainGlobals "sum"=some none
 Dk:nsIn K mainGlobals "tuple"=some none
 Bp:nsIn K mainGlobals "zip"=some none
 Ll:CD K "FARTHEST" 99
 NU:CD K "MOST_KINDS" 4
 N0:CD K "MOST_MIXES" 4
 Nu:CD K "MOST_PLACES" 8
 EK:CD K "SMALL" 3
section
variable {K:Frag}
def bu (X:K.In h)(G:h.Ns mainGlobals mg)(T:Tx K):Bu mg:=⟨a5 X G T.AD,a5 X G T.AE,a5 X G T.DT,a5 X G T.Ms,a5 X G T.Ad,a5 X G T.N5,a5 X G T.BK,a5 X G T.D2,a5 X G T.BG,a5 X G T.Az,a5 X G T.Df,a5 X G T.BE,a5 X G T.HZ,a5 X G T.BN,a5 X G T.Dk,a5 X G T.Bp,(let ⟨t,e⟩:=T.Ll;⟨t,aV X G e⟩),(let ⟨t,e⟩:=T.NU;⟨t,aV X G e⟩),(let ⟨t,e⟩:=T.N0;⟨t,aV X G e⟩),(let ⟨t,e⟩:=T.Nu;⟨t,aV X G e⟩),(let ⟨t,e⟩:=T.EK;⟨t,aV X G e⟩)⟩
structure Zz (K:Frag)(h:Heap)(mg:bY):Prop where
 X:K.In h
 G:h.Ns mainGlobals mg
 T:Tx K
 B:Bu mg
def zz (X:K.In h)(G:h.Ns mainGlobals mg)(T:Tx K):Zz K h mg:=⟨X,G,T,bu X G T⟩
def UP (Z:Zz K h mg):zL P w K mg base 1 "is_whole" 1 ZH:=by
 obtain⟨f,fd,F,a⟩:=Z.T.Ln;exact(qV F (aV Z.X Z.G a) Mh (λ_ _ _ _ _ _=>yW λ_=>rfl) λc A outer s H E r=>zu (qf (ZL (Ji .int Z.B.QU Z.B.Jn (by rfl) (zh 0)) (ZN (ES (Ji .bl Z.B.QU Z.B.CP (by rfl) (zh 0)))))) (zD):zL P w K mg base 1 "is_whole" 1 YS)
def Mm (Z:Zz K h mg):zL P w K mg base 1 "is_rising" 1 YN:=by
 obtain⟨f,fd,F,a⟩:=Z.T.Mk;exact(qV F (aV Z.X Z.G a) N4 (λ_ _ _ _ _ _=>yW λ_=>rfl) λc A outer s H E r=>zu (qf (gC rfl Z.B.gH (jO (qK (N:=["one","other"]) 2 [] (Kh rfl Z.B.Ky (zh 0) (GA (zh 0) (Kb zB) Km)) (λ_ _ _=>⟨kX 0 1 rfl (qo (by kernel_rfl)),qA,qD (wH Jr (zh 0) (zh 1))⟩))))) (zD):zL P w K mg base 1 "is_rising" 1 W6)
def Lu (Z:Zz K h mg):zL P w K mg base 1 "is_even" 1 Gi:=by
 obtain⟨f,fd,F,a⟩:=Z.T.Iu;exact(qV F (aV Z.X Z.G a) Ga (λ_ _ _ _ _ _=>yW λ_=>rfl) λc A outer s H E r=>zu (y9 PassesOwn.never rfl (Qi rfl Z.B.Qb (zh 0)) (kX 1 2 rfl Ga.nd) (zu (y9 PassesOwn.never rfl (Qi rfl Z.B.Qb (zh 2)) (kX 3 4 rfl Ga.nd) (zu (jj (wm (ZU (jb (ki r) (wH (yS r) (zh 4) zB) (wH (yS r) (zh 1) (zh 3))) (Qo (jb (ki r) (ja (ja (zh 0) (zh 3)) (zh 1)) (zh 4))))) (zu (qf yk) zD) zD) zD)) zD)) (zu (qf yk) zD):zL P w K mg base 1 "is_even" 1 Tj).iso
def OF (Z:Zz K h mg):zL P w K mg base 1 "leaves_no_kind_out" 1 Wu:=by
 obtain⟨f,fd,F,a⟩:=Z.T.OE;exact(qV F (aV Z.X Z.G a) Ve (λ_ _ _ _ _ _=>yW λ_=>rfl) λc A outer s H E r=>zu (qF 1 Ve.nd (j6 (qK (N:=["row","kind"]) 2 [] (jm (zh 0)) (λ_ _ _=>⟨qg 0 (qo (by kernel_rfl)),qA,J3 (λ_ _ z=>z) rfl rfl (by intro _ h;cases h<;>rfl) (jm (zh 0)) (qg 1 (qo (by kernel_rfl))) qA (qD (zh 1))⟩)))) (zu (qf (gC rfl Z.B.gH (jO (qK (N:=["kind","standing"]) 1 [1] (j7 rfl Z.B.ju (JX rfl Z.B.Jm (j3 (zh 1)))) (λ_ _ _=>⟨qg 0 (qo (by kernel_rfl)),qA,qD (Pg XW (zh 0) (zh 1))⟩))))) zD):zL P w K mg base 1 "leaves_no_kind_out" 1 Vh).iso
def ZD (Z:Zz K h mg):zL P w K mg base 1 "count_kinds" 1 kA:=by
 obtain⟨f,fd,F,a⟩:=Z.T.Nt;exact(qV F (aV Z.X Z.G a) Nb (λ_ _ _ _ _ _=>yW λ_=>rfl) λc A outer s H E r=>zu (qf (yP (JX rfl Z.B.Jm (jO (qK (N:=["row"]) 1 [] (jm (zh 0)) (λ_ _ _=>⟨qg 0 (qo (by kernel_rfl)),qA,qD (JX rfl Z.B.Jm (j3 (zh 0)))⟩)))) zB)) (zD):zL P w K mg base 1 "count_kinds" 1 VU).iso
def Uh (Z:Zz K h mg):zL P w K mg base 1 "first_pairs" 1 QR:=by
 obtain⟨f,fd,F,a⟩:=Z.T.NA;exact(qV F (aV Z.X Z.G a) YC (λ_ _ _ _ _ _=>yW λ_=>rfl) λc A outer s H E r=>zu (qF 1 YC.nd De) (zu (y9 PassesOwn.never rfl (Qi rfl Z.B.Qb (zh 0)) (kX 2 3 rfl YC.nd) (zu (y9 PassesOwn.never rfl (Qi rfl Z.B.Qb (zh 3)) (kX 4 5 rfl YC.nd) (zu (yt (Lo (zh 1) (zh 5) (jN (zo (zh 2) (zo (zh 4) zC)) (zS (zS qJ))))) zD)) zD)) (zu (qf (zh 1)) zD)):zL P w K mg base 1 "first_pairs" 1 WS).iso
def Nx (Z:Zz K h mg):zL P w K mg base 1 "multiply_at" 3 YE:=by
 obtain⟨f,fd,F,a⟩:=Z.T.Nw;exact(qV F (aV Z.X Z.G a) Nm (λ_ _ _ _ _ _=>gr λ_ _ _=>rfl) λc A outer s H E r=>zu (qf (GH rfl Z.B.Kv (jO (qK (N:=["first","row","second","many","other"]) 4 [2] (Kh rfl Z.B.Ky (zh 1) (zh 0)) (λ_ _ _=>⟨kX 0 1 rfl (qo (by kernel_rfl)),qA,J3 (λ_ _ z=>z) rfl rfl (by intro _ h;cases h<;>rfl) (Kh rfl Z.B.Ky (zh 4) (zh 1)) (kX 2 3 rfl (qo (by kernel_rfl))) qA (qD (yx (yx (zh 0) (zh 2)) (zh 3)))⟩))))) (zD):zL P w K mg base 1 "multiply_at" 3 Ue).iso
def S8 (Z:Zz K h mg):zL P w K mg base 1 "joins" 4 ZK:=by
 obtain⟨f,fd,F,a⟩:=Z.T.Dv;exact(qV F (aV Z.X Z.G a) HB (λ_ _ _ _ _ _=>cF λ_ _ _ _=>rfl) λc A outer s H E r=>zu (qf (gC rfl Z.B.gH (jO (qK (N:=["other","table","kinds","place"]) 1 [0,1,3] (jm (zh 2)) (λ_ _ _=>⟨qg 0 (qo (by kernel_rfl)),qA,qD (Pg XW (ja (ja (zh 1) (zh 0)) (zh 3)) (zh 2))⟩))))) (zD):zL P w K mg base 1 "joins" 4 SV).iso
def NC (Z:Zz K h mg):zL P w K mg base 1 "small_mixes" 1 WW:=by
 obtain⟨f,fd,F,a⟩:=Z.T.Nz;exact(qV F (aV Z.X Z.G a) YA (λ_ _ _ _ _ _=>yW λ_=>rfl) λc A outer s H E r=>zu (qF 1 YA.nd (yc (zo (jN zC qJ) zC) (zS qJ))) (zu (y9 PassesOwn.never rfl (j7 rfl Z.B.ju (zh 0)) (qg 2 YA.nd) (zu (JH 1 (N:=["mix","part"]) 2 [] YA.nd rfl (cps (by kernel_rfl)) (by kernel_rfl) (jm (zh 1)) (λ_ _ _=>⟨qg 0 (qo (by kernel_rfl)),qA,J3 (λ_ _ z=>z) rfl rfl (by intro _ h;cases h<;>rfl) (JY rfl Z.B.ju (Kf (Qf rfl Z.B.Rh.choose_spec)) (yP (Qf rfl Z.B.Rh.choose_spec) zB)) (qg 1 (qo (by kernel_rfl))) qA (qD (yP (zh 0) (jN (zo (zh 1) zC) (zS qJ))))⟩)) zD)) (zu (qf (zh 1)) zD)):zL P w K mg base 1 "small_mixes" 1 Ua).iso
def Nn (Z:Zz K h mg):zL P w K mg base 1 "_law_cell_at" 2 YB:=by
 obtain⟨f,fd,F,a⟩:=Z.T.Nd;exact(qV F (aV Z.X Z.G a) O7 (λ_ _ _ _ _ _=>wd λ_ _=>rfl) λc A outer s H E r=>zu (jj (jb Jr (zh 1) (yG Z.B.yI (j3 (zh 0)))) (zu (qf (ja (zh 0) (zh 1))) zD) zD) (zu (qf zB) zD):zL P w K mg base 1 "_law_cell_at" 2 VR)
def gv (Z:Zz K h mg):zL P w K mg base 1 "_law_take" 2 jT:=by
 obtain⟨f,fd,F,a⟩:=Z.T.Mv;exact(qV F (aV Z.X Z.G a) YL (λ_ _ _ _ _ _=>wd λ_ _=>rfl) λc A outer s H E r=>zu (jj (wu (ja (zh 0) zB)) (zu (qF 2 YL.nd (Ql (ja (zh 0) zB) (zh 1))) (zu (SN (Qh (ja (zh 0) zB) (zh 1)) (zh 0) zB) (zu (qf (zh 2)) zD))) zD) (zu (SN (Ql (yP (yx (ja (zh 0) zB) zB) zB) zB) (zh 0) zB) (zu (qF 3 YL.nd (Ql (yP (yP (yx (ja (zh 0) zB) (ja (zh 0) zB)) (yx zB (ja (zh 0) zB))) zB) zB)) (zu (qF 3 YL.nd (Ql (yP (yx (zh 3) (zh 3)) (yx zB (zh 3))) zB)) (zu (qf (Ql (Qh (zh 3) zB) (zh 1))) zD)))):zL P w K mg base 1 "_law_take" 2 JI).wI
def NY (Z:Zz K h mg):zL P w K mg base 1 "_law_named" 1 YG:=by
 obtain⟨f,fd,F,a⟩:=Z.T.N6;exact(qV F (aV Z.X Z.G a) V6 (λ_ _ _ _ _ _=>yW λ_=>rfl) λc A outer s H E r=>zu (qF 1 V6.nd (Mp rfl Z.B.Hu Z.B.Ai (Fi rfl Z.B.Kv (j6 (qK (N:=["_law_row"]) 1 [] (jm (zh 0)) (λ_ _ _=>⟨qg 0 (qo (by kernel_rfl)),qA,qD (Sr Z.B.Kt (j3 (zh 0)))⟩))) (yc zC qJ)))) (zu (qf (gz Z.B.ka (jO (qK (N:=["_law_row","_law_some"]) 1 [1] (jm (zh 0)) (λ_ _ _=>⟨qg 0 (qo (by kernel_rfl)),qA,qD (gz Z.B.ka (jO (qK (N:=["_law_kind","_law_some"]) 1 [1] (jm (zh 0)) (λ_ _ _=>⟨qg 0 (qo (by kernel_rfl)),qA,qD (LM r (zh 1) (zh 0))⟩))))⟩))))) zD):zL P w K mg base 1 "_law_named" 1 W3)
def UA (Z:Zz K h mg):zL P w K mg base 2 "is_wholes" 2 QV:=by
 obtain⟨f,fd,F,a⟩:=Z.T.My;exact(qV F (aV Z.X Z.G a) NX (λ_ _ _ _ _ _=>wd λ_ _=>rfl) λc A outer s H E r=>zu (qf (ZL (Ji .tup Z.B.QU Z.B.ka (by rfl) (zh 0)) (ZL (wH (yS r) (yG Z.B.yI (j3 (zh 0))) (zh 1)) (ZN (gC rfl Z.B.gH (jO (qK (N:=["part"]) 1 [] (jm (zh 0)) (λ_ _ _=>⟨qg 0 (qo (by kernel_rfl)),qA,qD (zR (UP Z).up r (zo (zh 0) zC))⟩)))))))) (zD):zL P w K mg base 2 "is_wholes" 2 W4)
def ON (Z:Zz K h mg):zL P w K mg base 2 "is_whole_between" 3 Jy:=by
 obtain⟨f,fd,F,a⟩:=Z.T.OM;exact(qV F (aV Z.X Z.G a) OH (λ_ _ _ _ _ _=>gr λ_ _ _=>rfl) λc A outer s H E r=>zu (qf (ZL (zR (UP Z).up r (zo (zh 0) zC)) (ZN (GZ gK gK (zh 1) (zh 0) (zh 2))))) (zD):zL P w K mg base 2 "is_whole_between" 3 Vl).iso
def WL (Z:Zz K h mg):zL P w K mg base 2 "count_shares" 3 gu:=by
 obtain⟨f,fd,F,a⟩:=Z.T.Nq;exact(qV F (aV Z.X Z.G a) Yy (λ_ _ _ _ _ _=>gr λ_ _ _=>rfl) λc A outer s H E r=>zu (qF 3 Yy.nd (zR (ZD Z).up r (zo (zh 0) zC))) (zu (JH 4 (N:=["kind","many"]) 1 [3] Yy.nd rfl (cps (by kernel_rfl)) (by kernel_rfl) (j7 rfl Z.B.ju (zh 3)) (λ_ _ _=>⟨qg 0 (qo (by kernel_rfl)),qA,qD (yx (yc (zo zB zC) (zS qJ)) (zh 1))⟩)) (zu (y9 PassesOwn.never rfl (Kh rfl Z.B.Ky (ja (zh 0) (zh 1)) (ja (zh 0) (zh 2))) (kX 5 6 rfl Yy.nd) (zu (TQ (ja (zh 4) (zh 5)) (zh 6) zB) zD)) (zu (qf (gz Z.B.ka (jO (qK (N:=["row"]) 1 [] (jm (zh 4)) (λ_ _ _=>⟨qg 0 (qo (by kernel_rfl)),qA,qD (gz Z.B.ka (j3 (zh 0)))⟩))))) zD))):zL P w K mg base 2 "count_shares" 3 VT).iso
def MZ (Z:Zz K h mg):zL P w K mg base 2 "multiply" 3 JK:=by
 obtain⟨f,fd,F,a⟩:=Z.T.M3;exact(qV F (aV Z.X Z.G a) Mq (λ_ _ _ _ _ _=>gr λ_ _ _=>rfl) λc A outer s H E r=>zu (qf (gz Z.B.ka (jO (qK (N:=["by_kind","one","other"]) 1 [1,2] (jm (zh 0)) (λ_ _ _=>⟨qg 0 (qo (by kernel_rfl)),qA,qD (zR (Nx Z).up r (zo (zh 0) (zo (zh 1) (zo (zh 2) zC))))⟩))))) (zD):zL P w K mg base 2 "multiply" 3 Gg)
def Vw (Z:Zz K h mg):zL P w K mg base 2 "search_greatest" 2 Jz:=by
 obtain⟨f,fd,F,a⟩:=Z.T.OZ;exact(qV F (aV Z.X Z.G a) Jx (λ_ _ _ _ _ _=>wd λ_ _=>rfl) λc A outer s H E r=>zu (qF 2 Jx.nd (yc zC qJ)) (zu (JH 3 (N:=["place"]) 1 [] Jx.nd rfl (cps (by kernel_rfl)) (by kernel_rfl) (j7 rfl Z.B.ju (yG Z.B.yI (j3 (zh 0)))) (λ_ _ _=>⟨qg 0 (qo (by kernel_rfl)),qA,qD (jN (zo (zh 0) zC) (zS qJ))⟩)) (zu (TF 1000 PassesOwn.never (F6 (zh 3)) (zu (qF 2 Jx.nd (zh 3)) (zu (JH 3 (N:=["lot","place","table","kinds"]) 2 [0,1] Jx.nd rfl (cps (by kernel_rfl)) (by kernel_rfl) (jm (zh 2)) (λ_ _ _=>⟨qg 0 (qo (by kernel_rfl)),qA,J3 (λ_ _ z=>z) rfl rfl (by intro _ h;cases h<;>rfl) (JY rfl Z.B.ju (yP (ja (zh 0) (Kf zB)) zB) (yG Z.B.yI (j3 (zh 2)))) (qg 1 (qo (by kernel_rfl))) (JT (wu (zR (S8 Z).up r (zo (zh 2) (zo (zh 3) (zo (zh 0) (zo (zh 1) zC))))))) (qD (yP (zh 0) (jN (zo (zh 1) zC) (zS qJ))))⟩)) zD))) (zu (qf (zh 2)) zD))):zL P w K mg base 2 "search_greatest" 2 Vr).iso
def N9 (Z:Zz K h mg):zL P w K mg base 2 "_law_state" 2 QT:=by
 obtain⟨f,fd,F,a⟩:=Z.T.NV;exact(qV F (aV Z.X Z.G a) VW (λ_ _ _ _ _ _=>wd λ_ _=>rfl) λc A outer s H E r=>zu (qF 2 VW.nd (zR (Nn Z).up r (zo (zh 0) (zo (zh 1) zC)))) (zu (jj (jb Oc (zh 2) (Rc zB zB)) (zu (qf (yc (zo (g7 (zh 2) (Rc zB zB)) (zo yk zC)) (zS (zS qJ)))) zD) zD) (zu (qf (yc (zo (Ql (zh 2) zB) (zo yk zC)) (zS (zS qJ)))) zD)):zL P w K mg base 2 "_law_state" 2 Uk)
def VE (Z:Zz K h mg):zL P w K mg base 2 "_law_mixed_row" 2 QN:=by
 obtain⟨f,fd,F,a⟩:=Z.T.O4;exact(qV F (aV Z.X Z.G a) Wz (λ_ _ _ _ _ _=>wd λ_ _=>rfl) λc A outer s H E r=>zu (qF 2 Wz.nd (Sr Z.B.Kt (j3 (zh 1)))) (zu (qF 3 Wz.nd (yc zC qJ)) (zu (TF 1000 PassesOwn.never (jb (ki r) (zh 2) (yc zC qJ)) (zu (yt (Ge (zh 3) (LO (zh 2) (zR (gv Z).up r (zo (zh 0) (zo (yG Z.B.yI (j3 (zh 2))) zC)))))) zD)) (zu (qf (zh 3)) zD))):zL P w K mg base 2 "_law_mixed_row" 2 WB)
def NZ (Z:Zz K h mg):zL P w K mg base 2 "_law_plain" 1 YI:=by
 obtain⟨f,fd,F,a⟩:=Z.T.NR;exact(qV F (aV Z.X Z.G a) kz (λ_ _ _ _ _ _=>yW λ_=>rfl) λc A outer s H E r=>zu (qF 1 kz.nd (zR (gv Z).up r (zo (zh 0) (zo zB zC)))) (zu (qF 2 kz.nd (ja (yc (zo zB (zo zB (zo zB (zo zB (zo zB (zo zB (zo zB (zo zB zC)))))))) (zS (zS (zS (zS (zS (zS (zS (zS qJ))))))))) (zR (gv Z).up r (zo (zh 0) (zo zB zC))))) (zu (jj (jb (yS r) (zh 1) zB) (zu (qf (j6 (qK (N:=["_law_a","_law_many"]) 1 [2] (j7 rfl Z.B.ju (zh 2)) (λ_ _ _=>⟨qg 0 (qo (by kernel_rfl)),qA,qD (j6 (qK (N:=["_law_b","_law_a","_law_many"]) 1 [0,1] (j7 rfl Z.B.ju (zh 1)) (λ_ _ _=>⟨qg 0 (qo (by kernel_rfl)),qA,qD (TR rfl Z.B.Xq (GQ Z.B.Xt (g7 (zh 1) (zh 0))) (g7 (zh 2) (GQ Z.B.Xt (g7 (zh 1) (zh 0)))))⟩)))⟩)))) zD) zD) (zu (jj (jb (yS r) (zh 1) zB) (zu (qF 2 kz.nd (ja (yc (zo zB (zo zB (zo zB zC))) (zS (zS (zS qJ)))) (zR (gv Z).up r (zo (zh 0) (zo zB zC))))) (zu (qf (j6 (qK (N:=["_law_a","_law_many"]) 1 [2] (j7 rfl Z.B.ju (zh 2)) (λ_ _ _=>⟨qg 0 (qo (by kernel_rfl)),qA,qD (j6 (qK (N:=["_law_b","_law_a"]) 1 [0] (j7 rfl Z.B.ju (zh 1)) (λ_ _ _=>⟨qg 0 (qo (by kernel_rfl)),qA,qD (ja (yc (zo zB (zo zB (zo zB (zo zB (zo zB (zo zB (zo zB (zo zB zC)))))))) (zS (zS (zS (zS (zS (zS (zS (zS qJ))))))))) (SU (zh 1) (zh 0)))⟩)))⟩)))) zD)) zD) (zu (jj (jb (yS r) (zh 1) zB) (zu (qf (j6 (qK (N:=["_law_a","_law_many"]) 1 [2] (j7 rfl Z.B.ju (zh 2)) (λ_ _ _=>⟨qg 0 (qo (by kernel_rfl)),qA,qD (j6 (qK (N:=["_law_b","_law_a"]) 1 [0] (j7 rfl Z.B.ju (zh 1)) (λ_ _ _=>⟨qg 0 (qo (by kernel_rfl)),qA,qD (JN Z.B.Jn (wH (ki r) (zh 1) (zh 0)))⟩)))⟩)))) zD) zD) (zu (jj (jb (yS r) (zh 1) zB) (zu (Ey (ja (yc (zo (jN (zo zB (zo zB zC)) (zS (zS qJ))) (zo (jN (zo zB (zo zB zC)) (zS (zS qJ))) (zo (jN (zo zB (zo zB zC)) (zS (zS qJ))) (zo (jN (zo zB (zo zB zC)) (zS (zS qJ))) (zo (jN (zo zB (zo zB zC)) (zS (zS qJ))) zC))))) (zS (zS (zS (zS (zS qJ)))))) (zR (gv Z).up r (zo (zh 0) (zo zB zC)))) (kX 3 4 rfl kz.nd)) (zu (qF 2 kz.nd (yx (zh 3) (zh 4))) (zu (qf (j6 (qK (N:=["_law_a","_law_many","_law_wide"]) 1 [2,3] (j7 rfl Z.B.ju (zh 2)) (λ_ _ _=>⟨qg 0 (qo (by kernel_rfl)),qA,qD (j6 (qK (N:=["_law_b","_law_a","_law_wide"]) 1 [0,2] (j7 rfl Z.B.ju (zh 1)) (λ_ _ _=>⟨qg 0 (qo (by kernel_rfl)),qA,qD (yP (JN Z.B.Jn (wH (ki r) (zh 1) (zh 0))) (JN Z.B.Jn (wH (ki r) (Qh (zh 1) (zh 2)) (Qh (zh 0) (zh 2)))))⟩)))⟩)))) zD))) zD) (zu (jj (jb (yS r) (zh 1) zB) (zu (qF 5 kz.nd (yc (zo (jN (zo zB (zo zB zC)) (zS (zS qJ))) (zo (jN (zo zB (zo zB zC)) (zS (zS qJ))) (zo (jN (zo zB (zo zB zC)) (zS (zS qJ))) (zo (jN (zo zB (zo zB zC)) (zS (zS qJ))) (zo (jN (zo zB (zo zB zC)) (zS (zS qJ))) (zo (jN (zo zB (zo zB zC)) (zS (zS qJ))) zC)))))) (zS (zS (zS (zS (zS (zS qJ)))))))) (zu (qf (j6 (qK (N:=["_law_a","_law_some"]) 1 [5] (jm (zh 5)) (λ_ _ _=>⟨qg 0 (qo (by kernel_rfl)),qA,qD (j6 (qK (N:=["_law_b","_law_a"]) 1 [0] (jm (zh 1)) (λ_ _ _=>⟨qg 0 (qo (by kernel_rfl)),qA,qD (g7 zB (yG Z.B.yI (jO (qK (N:=["_law_one","_law_b"]) 1 [0] (jm (zh 1)) (λ_ _ _=>⟨qg 0 (qo (by kernel_rfl)),JT (RS XW (zh 0) (zh 1)),qD (zh 0)⟩)))))⟩)))⟩)))) zD)) zD) (zu (jj (jb (yS r) (zh 1) zB) (zu (qF 2 kz.nd (ja (yc (zo zB (zo zB (zo zB zC))) (zS (zS (zS qJ)))) (zR (gv Z).up r (zo (zh 0) (zo zB zC))))) (zu (qf (j6 (qK (N:=["_law_a","_law_many"]) 1 [2] (j7 rfl Z.B.ju (zh 2)) (λ_ _ _=>⟨qg 0 (qo (by kernel_rfl)),qA,qD (j6 (qK (N:=["_law_b","_law_a"]) 1 [0] (j7 rfl Z.B.ju (zh 1)) (λ_ _ _=>⟨qg 0 (qo (by kernel_rfl)),qA,qD (SU (zh 1) (zh 0))⟩)))⟩)))) zD)) zD) (zu (qF 3 kz.nd (ja (yc (zo zB (zo zB (zo zB zC))) (zS (zS (zS qJ)))) (zR (gv Z).up r (zo (zh 0) (zo zB zC))))) (zu (qF 6 kz.nd (yc (zo zB (zo zB (zo (ja (yc (zo zB (zo zB zC)) (zS (zS qJ))) (JN Z.B.Jn (wH (yS r) (zh 3) zB))) (zo zB zC)))) (zS (zS (zS (zS qJ)))))) (zu (qF 7 kz.nd (yc zC qJ)) (zu (y9 PassesOwn.never rfl (j7 rfl Z.B.ju (yx zB (zh 3))) (qg 8 kz.nd) (zu (qF 9 kz.nd (j6 (qK (N:=["_law_b","_law_wide","_law_ring","_law_a"]) 1 [3,6,8] (j7 rfl Z.B.ju (yx zB (zh 3))) (λ_ _ _=>⟨qg 0 (qo (by kernel_rfl)),qA,qD (ja (zh 2) (Ql (GQ Z.B.Xt (g7 (zh 3) (zh 0))) (zh 1)))⟩)))) (zu (qF 10 kz.nd (j6 (qK (N:=["_law_b","_law_wide","_law_a"]) 1 [3,8] (j7 rfl Z.B.ju (yx zB (zh 3))) (λ_ _ _=>⟨qg 0 (qo (by kernel_rfl)),qA,qD (JN Z.B.Jn (wH (ki r) (Qh (zh 2) (zh 1)) (Qh (zh 0) (zh 1))))⟩)))) (zu (jj (jb (yS r) (zh 1) zB) (zu (yt (Ge (zh 7) (j6 (qK (N:=["_law_b","_law_near","_law_far"]) 1 [9,10] (j7 rfl Z.B.ju (yx zB (zh 3))) (λ_ _ _=>⟨qg 0 (qo (by kernel_rfl)),qA,qD (yP (yx zB (ja (zh 2) (zh 0))) (ja (zh 1) (zh 0)))⟩))))) zD) (zu (yt (Ge (zh 7) (j6 (qK (N:=["_law_b","_law_near","_law_far"]) 1 [9,10] (j7 rfl Z.B.ju (yx zB (zh 3))) (λ_ _ _=>⟨qg 0 (qo (by kernel_rfl)),qA,qD (Bb (jb (yS r) (ja (zh 2) (zh 0)) zB) zB (ja (zh 1) (zh 0)))⟩))))) zD)) zD)))) (zu (qf (zh 7)) zD)))))))))))):zL P w K mg base 2 "_law_plain" 1 WX)
def OU (Z:Zz K h mg):zL P w K mg base 3 "is_wholes_below" 3 JA:=by
 obtain⟨f,fd,F,a⟩:=Z.T.OS;exact(qV F (aV Z.X Z.G a) OK (λ_ _ _ _ _ _=>gr λ_ _ _=>rfl) λc A outer s H E r=>zu (qf (ZL (zR (UA Z).up r (zo (zh 0) (zo (zh 1) zC))) (ZN (gC rfl Z.B.gH (jO (qK (N:=["part","limit"]) 1 [2] (jm (zh 0)) (λ_ _ _=>⟨qg 0 (qo (by kernel_rfl)),qA,qD (GZ gK Jr zB (zh 0) (zh 1))⟩))))))) (zD):zL P w K mg base 3 "is_wholes_below" 3 Wx)
def Vm (Z:Zz K h mg):zL P w K mg base 3 "is_rising_wholes" 3 QM:=by
 obtain⟨f,fd,F,a⟩:=Z.T.OP;exact(qV F (aV Z.X Z.G a) OI (λ_ _ _ _ _ _=>gr λ_ _ _=>rfl) λc A outer s H E r=>zu (jj (wy (wu (Ji .tup Z.B.QU Z.B.ka (by rfl) (zh 0)))) (zu (qf yk) zD) zD) (zu (qf (ZL (gC rfl Z.B.gH (jO (qK (N:=["part","least","greatest"]) 1 [1,2] (jm (zh 0)) (λ_ _ _=>⟨qg 0 (qo (by kernel_rfl)),qA,qD (zR (ON Z).up r (zo (zh 0) (zo (zh 1) (zo (zh 2) zC))))⟩)))) (ZN (zR (Mm Z).up r (zo (zh 0) zC))))) zD):zL P w K mg base 3 "is_rising_wholes" 3 Ww)
def WM (Z:Zz K h mg):zL P w K mg base 3 "kind_shares" 1 JG:=by
 obtain⟨f,fd,F,a⟩:=Z.T.NK;exact(qV F (aV Z.X Z.G a) WK (λ_ _ _ _ _ _=>yW λ_=>rfl) λc A outer s H E r=>zu (qF 1 WK.nd (zR (Uh Z).up r (zo (zh 0) zC))) (zu (JH 2 (N:=["kind","firsts"]) 1 [1] WK.nd rfl (cps (by kernel_rfl)) (by kernel_rfl) (j7 rfl Z.B.ju (zR (ZD Z).up r (zo (zh 0) zC))) (λ_ _ _=>⟨qg 0 (qo (by kernel_rfl)),qA,qD (Ia r (zh 1) (zh 0))⟩)) (zu (qf (j6 (qK (N:=["a","b","table"]) 2 [0] (jm (zh 2)) (λ_ _ _=>⟨kX 0 1 rfl (qo (by kernel_rfl)),qA,qD (zR (WL Z).up r (zo (zh 2) (zo (zh 0) (zo (zh 1) zC))))⟩)))) zD)):zL P w K mg base 3 "kind_shares" 1 VY).iso
def Ni (Z:Zz K h mg):zL P w K mg base 3 "search_break" 1 WG:=by
 obtain⟨f,fd,F,a⟩:=Z.T.Nl;exact(qV F (aV Z.X Z.G a) JC (λ_ _ _ _ _ _=>yW λ_=>rfl) λc A outer s H E r=>zu (y9 PassesOwn.never rfl (L3 (zR (Uh Z).up r (zo (zh 0) zC))) (L6 1 2 3 rfl JC.nd) (zu (qF 4 JC.nd (zR (WL Z).up r (zo (zh 0) (zo (zh 2) (zo (zh 3) zC))))) (zu (y9 PassesOwn.never rfl (Qi rfl Z.B.Qb (zh 0)) (kX 5 6 rfl JC.nd) (zu (y9 PassesOwn.never rfl (Qi rfl Z.B.Qb (zh 6)) (kX 7 8 rfl JC.nd) (zu (jj (wm (Q6 (jb (yS r) (zh 8) (zh 1)) (JR (jb (ki r) (zR (WL Z).up r (zo (zh 0) (zo (zh 5) (zo (zh 7) zC)))) (zh 4))))) (zu (qf (jN (zo (zh 2) (zo (zh 3) (zo (zh 5) (zo (zh 7) zC)))) (zS (zS (zS (zS qJ)))))) zD) zD) zD)) zD)) zD))) (zu (qf gA) zD):zL P w K mg base 3 "search_break" 1 VP).iso
def WT (Z:Zz K h mg):zL P w K mg base 3 "count_shown" 3 Z6:=by
 obtain⟨f,fd,F,a⟩:=Z.T.Nv;exact(qV F (aV Z.X Z.G a) YD (λ_ _ _ _ _ _=>gr λ_ _ _=>rfl) λc A outer s H E r=>zu (qF 3 YD.nd (j6 (qK (N:=["mix","shares"]) 1 [0] (jm (zh 2)) (λ_ _ _=>⟨qg 0 (qo (by kernel_rfl)),qA,qD (zR (MZ Z).up r (zo (zh 1) (zo (zh 0) (zo (zh 0) zC))))⟩)))) (zu (qF 4 YD.nd (j6 (qK (N:=["kind","squares"]) 1 [3] (j7 rfl Z.B.ju (yG Z.B.yI (j3 (zh 0)))) (λ_ _ _=>⟨qg 0 (qo (by kernel_rfl)),qA,qD (GH rfl Z.B.Kv (jO (qK (N:=["numbers","kind"]) 1 [0] (jm (zh 1)) (λ_ _ _=>⟨qg 0 (qo (by kernel_rfl)),qA,qD (ja (zh 0) (zh 1))⟩))))⟩)))) (zu (qF 5 YD.nd (Fg rfl Z.B.Xq (jO (qK (N:=["kind","summed"]) 1 [4] (jm (zh 1)) (λ_ _ _=>⟨qg 0 (qo (by kernel_rfl)),qA,qD (Kf (ja (zh 1) (zh 0)))⟩))))) (zu (jj (jb gK (zh 5) zB) (zu (qf gA) zD) zD) (zu (qf (yP (Qh (ja (zh 4) zB) (zh 5)) zB)) zD)))):zL P w K mg base 3 "count_shown" 3 WN)
def O0 (Z:Zz K h mg):zL P w K mg base 3 "has_paper_form" 2 WD:=by
 obtain⟨f,fd,F,a⟩:=Z.T.O3;exact(qV F (aV Z.X Z.G a) OQ (λ_ _ _ _ _ _=>wd λ_ _=>rfl) λc A outer s H E r=>zu (jj (wm (ZU (wy (wu (Ji .tup Z.B.QU Z.B.ka (by rfl) (zh 1)))) (Qo (wy (RW gK gK zB (yG Z.B.yI (j3 (zh 1))) (Qf rfl Z.B.NN.choose_spec)))))) (zu (qf yk) zD) zD) (zu (jj (wy (wu (gC rfl Z.B.gH (jO (qK (N:=["mix","table"]) 1 [0] (jm (zh 1)) (λ_ _ _=>⟨qg 0 (qo (by kernel_rfl)),qA,qD (zR (UA Z).up r (zo (zh 0) (zo (zR (ZD Z).up r (zo (zh 1) zC)) zC)))⟩)))))) (zu (qf yk) zD) zD) (zu (qf (gC rfl Z.B.gH (jO (qK (N:=["mix","part"]) 2 [] (jm (zh 1)) (λ_ _ _=>⟨qg 0 (qo (by kernel_rfl)),qA,J3 (λ_ _ z=>z) rfl rfl (by intro _ h;cases h<;>rfl) (jm (zh 0)) (qg 1 (qo (by kernel_rfl))) qA (qD (GZ gK gK (Kf (Qf rfl Z.B.U2.choose_spec)) (zh 1) (Qf rfl Z.B.U2.choose_spec)))⟩))))) zD)):zL P w K mg base 3 "has_paper_form" 2 Vy).iso
def N8 (Z:Zz K h mg):zL P w K mg base 3 "_law_known" 1 Z9:=by
 obtain⟨f,fd,F,a⟩:=Z.T.NS;exact(qV F (aV Z.X Z.G a) YF (λ_ _ _ _ _ _=>yW λ_=>rfl) λc A outer s H E r=>zu (qF 1 YF.nd (zR (NY Z).up r (zo (zR (NZ Z).up r (zo (zh 0) zC)) zC))) (zu (qF 2 YF.nd (zR (VE Z).up r (zo (zh 0) (zo (M5 rfl Z.B.Kt Z.B.ju (yG Z.B.yI (j3 (zh 1)))) zC)))) (zu (qF 3 YF.nd (yP (yc (zo zB zC) (zS qJ)) (zR (VE Z).up r (zo (zh 0) (zo (MW rfl Z.B.Kt Z.B.ju zB (yP zB (JX rfl Z.B.Jm (jO (qK (N:=["_law_row"]) 1 [] (jm (zh 1)) (λ_ _ _=>⟨qg 0 (qo (by kernel_rfl)),qA,qD (JX rfl Z.B.Jm (j3 (zh 0)))⟩)))))) zC))))) (zu (qf (gz Z.B.ka (jO (qK (N:=["_law_a","_law_rows","_law_order","_law_kinds"]) 1 [1,2,3] (jm (zh 2)) (λ_ _ _=>⟨qg 0 (qo (by kernel_rfl)),qA,qD (gz Z.B.ka (jO (qK (N:=["_law_b","_law_a","_law_rows","_law_kinds"]) 1 [0,1,3] (jm (zh 2)) (λ_ _ _=>⟨qg 0 (qo (by kernel_rfl)),qA,qD (ja (zh 3) (ja (ja (zh 2) (zh 1)) (zh 0)))⟩))))⟩))))) zD))):zL P w K mg base 3 "_law_known" 1 YH).wI
def M7 (Z:Zz K h mg):zL P w K mg base 4 "is_table" 1 JJ:=by
 obtain⟨f,fd,F,a⟩:=Z.T.MO;exact(qV F (aV Z.X Z.G a) Uz (λ_ _ _ _ _ _=>yW λ_=>rfl) λc A outer s H E r=>zu (jj (wm (ZU (wy (wu (Ji .tup Z.B.QU Z.B.ka (by rfl) (zh 0)))) (Qo (wy (RW gK gK zB (yG Z.B.yI (j3 (zh 0))) (Qf rfl Z.B.Ny.choose_spec)))))) (zu (qf yk) zD) zD) (zu (qF 1 Uz.nd (yG Z.B.yI (j3 (zh 0)))) (zu (jj (wy (wu (gC rfl Z.B.gH (jO (qK (N:=["row","many"]) 1 [1] (jm (zh 0)) (λ_ _ _=>⟨qg 0 (qo (by kernel_rfl)),qA,qD (zR (OU Z).up r (zo (zh 0) (zo (zh 1) (zo (zh 1) zC))))⟩)))))) (zu (qf yk) zD) zD) (zu (qf (ZL (zR (Lu Z).up r (zo (zh 0) zC)) (ZN (zR (OF Z).up r (zo (zh 0) zC))))) zD))):zL P w K mg base 4 "is_table" 1 W9)
def V1 (Z:Zz K h mg):zL P w K mg base 4 "require_lot" 2 JD:=by
 obtain⟨f,fd,F,a⟩:=Z.T.NJ;exact(qV F (aV Z.X Z.G a) Nj (λ_ _ _ _ _ _=>wd λ_ _=>rfl) λc A outer s H E r=>zu (jj (wy (wu (zR (Vm Z).up r (zo (zh 1) (zo zB (zo (g7 (yG Z.B.yI (j3 (zh 0))) zB) zC)))))) (zu Qn zD) zD) (zD):zL P w K mg base 4 "require_lot" 2 WU)
def Jw (Z:Zz K h mg):zL P w K mg base 4 "require_told_kinds" 2 ZC:=by
 obtain⟨f,fd,F,a⟩:=Z.T.OG;exact(qV F (aV Z.X Z.G a) OB (λ_ _ _ _ _ _=>wd λ_ _=>rfl) λc A outer s H E r=>zu (jj (wy (wu (zR (Vm Z).up r (zo (zh 1) (zo zB (zo (g7 (zR (ZD Z).up r (zo (zh 0) zC)) zB) zC)))))) (zu Qn zD) zD) (zD):zL P w K mg base 4 "require_told_kinds" 2 Wt)
def QP (Z:Zz K h mg):zL P w K mg base 5 "require_table" 1 gX:=by
 obtain⟨f,fd,F,a⟩:=Z.T.O9;exact(qV F (aV Z.X Z.G a) O5 (λ_ _ _ _ _ _=>yW λ_=>rfl) λc A outer s H E r=>zu (jj (wy (wu (zR (M7 Z).up r (zo (zh 0) zC)))) (zu Qn zD) zD) (zD):zL P w K mg base 5 "require_table" 1 WE)
def Uq (Z:Zz K h mg):zL P w K mg base 6 "kinds_many" 1 Qa:=by
 obtain⟨f,fd,F,a⟩:=Z.T.NO;exact(qV F (aV Z.X Z.G a) NB (λ_ _ _ _ _ _=>yW λ_=>rfl) λc A outer s H E r=>zu (yt (zR (QP Z).up r (zo (zh 0) zC))) (zu (qf (zR (ZD Z).up r (zo (zh 0) zC))) zD):zL P w K mg base 6 "kinds_many" 1 Uv).iso
def VD (Z:Zz K h mg):zL P w K mg base 6 "require_steady" 1 JB:=by
 obtain⟨f,fd,F,a⟩:=Z.T.O1;exact(qV F (aV Z.X Z.G a) OT (λ_ _ _ _ _ _=>yW λ_=>rfl) λc A outer s H E r=>zu (yt (zR (QP Z).up r (zo (zh 0) zC))) (zu (jj (jb ZM (zR (Ni Z).up r (zo (zh 0) zC)) gA) (zu Qn zD) zD) zD):zL P w K mg base 6 "require_steady" 1 WA)
def Fc (Z:Zz K h mg):zL P w K mg base 6 "spread" 2 Y7:=by
 obtain⟨f,fd,F,a⟩:=Z.T.HF;exact(qV F (aV Z.X Z.G a) YV (λ_ _ _ _ _ _=>wd λ_ _=>rfl) λc A outer s H E r=>zu (yt (zR (QP Z).up r (zo (zh 0) zC))) (zu (yt (zR (V1 Z).up r (zo (zh 0) (zo (zh 1) zC)))) (zu (qF 2 YV.nd (yx (yc (zo zB zC) (zS qJ)) (zR (ZD Z).up r (zo (zh 0) zC)))) (zu (y9 PassesOwn.never rfl (jm (zh 1)) (qg 3 YV.nd) (zu (y9 PassesOwn.never rfl (jm (zh 1)) (qg 4 YV.nd) (zu (TQ (zh 2) (ja (ja (zh 0) (zh 3)) (zh 4)) zB) zD)) zD)) (zu (qf (zh 2)) zD)))):zL P w K mg base 6 "spread" 2 TX).iso
def Ih (Z:Zz K h mg):zL P w K mg base 6 "is_free" 3 JO:=by
 obtain⟨f,fd,F,a⟩:=Z.T.Lz;exact(qV F (aV Z.X Z.G a) M8 (λ_ _ _ _ _ _=>gr λ_ _ _=>rfl) λc A outer s H E r=>zu (yt (zR (QP Z).up r (zo (zh 0) zC))) (zu (yt (zR (Jw Z).up r (zo (zh 0) (zo (zh 1) zC)))) (zu (yt (zR (V1 Z).up r (zo (zh 0) (zo (zh 2) zC)))) (zu (qf (gC rfl Z.B.gH (jO (qK (N:=["at","place","table","kinds","lot"]) 2 [0,1,2] (Qi rfl Z.B.Qb (zh 2)) (λ_ _ _=>⟨kX 0 1 rfl (qo (by kernel_rfl)),qA,qD (zR (S8 Z).up r (zo (zh 2) (zo (zh 3) (zo (GA (zh 4) Km (Kb (zh 0))) (zo (zh 1) zC)))))⟩))))) zD))):zL P w K mg base 6 "is_free" 3 Tz).iso
def J6 (Z:Zz K h mg):zL P w K mg base 6 "most" 2 Qr:=by
 obtain⟨f,fd,F,a⟩:=Z.T.C9;exact(qV F (aV Z.X Z.G a) EF (λ_ _ _ _ _ _=>wd λ_ _=>rfl) λc A outer s H E r=>zu (yt (zR (QP Z).up r (zo (zh 0) zC))) (zu (yt (zR (Jw Z).up r (zo (zh 0) (zo (zh 1) zC)))) (zu (qf (yG Z.B.yI (j3 (ja (zR (Vw Z).up r (zo (zh 0) (zo (zh 1) zC))) zB)))) zD)):zL P w K mg base 6 "most" 2 R1).iso
def Lc (Z:Zz K h mg):zL P w K mg base 6 "greatest" 2 YQ:=by
 obtain⟨f,fd,F,a⟩:=Z.T.Lk;exact(qV F (aV Z.X Z.G a) Me (λ_ _ _ _ _ _=>wd λ_ _=>rfl) λc A outer s H E r=>zu (yt (zR (QP Z).up r (zo (zh 0) zC))) (zu (yt (zR (Jw Z).up r (zo (zh 0) (zo (zh 1) zC)))) (zu (qf (zR (Vw Z).up r (zo (zh 0) (zo (zh 1) zC)))) zD)):zL P w K mg base 6 "greatest" 2 U1).iso
def W8 (Z:Zz K h mg):zL P w K mg base 7 "is_paper" 3 ZF:=by
 obtain⟨f,fd,F,a⟩:=Z.T.M0;exact(qV F (aV Z.X Z.G a) Mw (λ_ _ _ _ _ _=>gr λ_ _ _=>rfl) λc A outer s H E r=>zu (yt (zR (VD Z).up r (zo (zh 0) zC))) (zu (yt (zR (Jw Z).up r (zo (zh 0) (zo (zh 1) zC)))) (zu (qf (ZL (zR (O0 Z).up r (zo (zh 0) (zo (zh 2) zC))) (ZN (wH ZM (zR (WT Z).up r (zo (zR (WM Z).up r (zo (zh 0) zC)) (zo (zh 1) (zo (zh 2) zC)))) gA)))) zD)):zL P w K mg base 7 "is_paper" 3 UJ).iso
def MX (Z:Zz K h mg):zL P w K mg base 7 "best_mix" 2 QX:=by
 obtain⟨f,fd,F,a⟩:=Z.T.La;exact(qV F (aV Z.X Z.G a) ZE (λ_ _ _ _ _ _=>wd λ_ _=>rfl) λc A outer s H E r=>zu (yt (zR (VD Z).up r (zo (zh 0) zC))) (zu (jj (jb XG (zR (ZD Z).up r (zo (zh 0) zC)) (Qf rfl Z.B.NW.choose_spec)) (zu Qn zD) zD) (zu (yt (zR (Jw Z).up r (zo (zh 0) (zo (zh 1) zC)))) (zu (jj (jb (yS r) (zh 1) (jN zC qJ)) (zu Qn zD) zD) (zu (qF 2 ZE.nd (zR (WM Z).up r (zo (zh 0) zC))) (zu (qF 3 ZE.nd gA) (zu (qF 4 ZE.nd gA) (zu (y9 PassesOwn.never rfl (jm (zR (NC Z).up r (zo (zR (ZD Z).up r (zo (zh 0) zC)) zC))) (qg 5 ZE.nd) (zu (qF 6 ZE.nd (zR (WT Z).up r (zo (zh 2) (zo (zh 1) (zo (jN (zo (zh 5) zC) (zS qJ)) zC))))) (zu (jj (wm (Q6 (jb ZM (zh 6) gA) (JR (wm (ZU (jb A9 (zh 4) gA) (Qo (jb Jr (zh 6) (zh 4)))))))) (zu (qF 3 ZE.nd (zh 5)) (zu (qF 4 ZE.nd (zh 6)) zD)) zD) zD))) (zu (qf (zh 3)) zD)))))))):zL P w K mg base 7 "best_mix" 2 Gf).iso
def SY (Z:Zz K h mg):zL P w K mg base 8 "shows" 3 Qk:=by
 obtain⟨f,fd,F,a⟩:=Z.T.FR;exact(qV F (aV Z.X Z.G a) H9 (λ_ _ _ _ _ _=>gr λ_ _ _=>rfl) λc A outer s H E r=>zu (jj (wy (wu (zR (W8 Z).up r (zo (zh 0) (zo (zh 1) (zo (zh 2) zC)))))) (zu Qn zD) zD) (zu (qf (zR (WT Z).up r (zo (zR (WM Z).up r (zo (zh 0) zC)) (zo (zh 1) (zo (zh 2) zC))))) zD):zL P w K mg base 8 "shows" 3 SD).iso
def N7 (Z:Zz K h mg):zL P w K mg base 9 "_law_right" 3 Z8:=by
 obtain⟨f,fd,F,a⟩:=Z.T.NP;exact(qV F (aV Z.X Z.G a) Z7 (λ_ _ _ _ _ _=>gr λ_ _ _=>rfl) λc A outer s H E r=>zu (qF 3 Z7.nd (zR (Uq Z).up r (zo (zh 1) zC))) (zu (qF 4 Z7.nd (gz Z.B.ka (jO (qK (N:=["_law_kind","_law_kinds"]) 1 [2] (JY rfl Z.B.ju zB (zh 3)) (λ_ _ _=>⟨qg 0 (qo (by kernel_rfl)),JT (RS F4 (zh 0) (zh 1)),qD (zh 0)⟩))))) (zu (qF 5 Z7.nd (zR (J6 Z).up r (zo (zh 1) (zo (zh 2) zC)))) (zu (jj (wm (ZU (jb XG (yx (zh 5) (zR (J6 Z).up r (zo (zh 1) (zo (zh 4) zC)))) (yG Z.B.yI (j3 (zh 1)))) (Qo (jb (ki r) (zR (J6 Z).up r (zo (zh 1) (zo (LD rfl Z.B.ka Z.B.ju zB (zh 3)) zC))) (yG Z.B.yI (j3 (zh 1))))))) (zu (qf yk) zD) zD) (zu (y9 PassesOwn.never rfl (jm (Hz (zR (Lc Z).up r (zo (zh 1) (zo (zh 2) zC))) Km (Kb zB))) (qg 6 Z7.nd) (zu (qF 7 Z7.nd (zR (Fc Z).up r (zo (zh 1) (zo (zh 6) zC)))) (zu (jj (wm (ZU (jb (ki r) (yG Z.B.yI (j3 (zh 6))) (zh 5)) (ZU (jb ZM (zR (Ih Z).up r (zo (zh 1) (zo (zh 2) (zo (zh 6) zC)))) yk) (Qo (jb (ki r) (GH rfl Z.B.Kv (j3 (zh 7))) (yx (zh 5) (zh 5))))))) (zu (qf yk) zD) zD) (zu (jj (wm (ZU (jb (ki r) (j6 (qK (N:=["_law_kind","_law_found"]) 1 [7] (jm (zh 4)) (λ_ _ _=>⟨qg 0 (qo (by kernel_rfl)),JT (jb (ki r) (ja (zh 1) (zh 0)) zB),qD (zh 0)⟩))) (yc zC qJ)) (Qo (jb (ki r) (ja (zh 7) zB) (zh 5))))) (zu (qf yk) zD) zD) zD)))) (zu (jj (jb XG (zR (J6 Z).up r (zo (zh 1) (zo (GA (zh 2) (Kb zB) Km) zC))) (zh 5)) (zu (qf yk) zD) zD) (zu (qF 8 Z7.nd (yP (jN (zo (yP zB (zR (gv Z).up r (zo (zh 0) (zo zB zC)))) zC) (zS qJ)) (gz Z.B.ka (jO (qK (N:=["_law_kind","_law_state_here"]) 1 [0] (JY rfl Z.B.ju zB (zh 3)) (λ_ _ _=>⟨qg 0 (qo (by kernel_rfl)),qA,qD (g7 zB (zR (gv Z).up r (zo (zh 1) (zo zB zC))))⟩)))))) (zu (qf (DZ (wH ZM (zR (W8 Z).up r (zo (zh 1) (zo (zh 2) (zo (jN (zo (zh 8) zC) (zS qJ)) zC)))) yk) (ZN (wH Oc (zR (SY Z).up r (zo (zh 1) (zo (zh 2) (zo (jN (zo (zh 8) zC) (zS qJ)) zC)))) (zh 5))))) zD))))))):zL P w K mg base 9 "_law_right" 3 W2).wI
end
end G
namespace Mi
open PySem L2
section
def g8 (h:m ρ A=.ok (.tup ws) A1):zY m ρ A=.ok ⟨λA i=>(z0 (.tup ws) A).map λws=>ws[i]?,ws.length⟩ A1:=by
 unfold zY K1;rw[h,zM]
 rfl
def ZI (h:m ρ A=.ok (.tup ws) A)(H:ws.length<=zT){g:W->W}(he:∀w∈ws,me (some w::cap.map λi=>(ρ[i]?).join) A=.ok (g w) A):
  zN 1 cap (zY m) (zE 0) (z7 (.bl true)) (zH me) ρ A=.ok (ws.map g) A:=by
 have e:=wR (cap:=cap) (me:=me) (ρ:=ρ) (A:=A) (N:=ws.length) (item:=λi=>ws.getD i .non) (g:=λi=>g (ws.getD i .non)) (g8 h) rfl H
  (λi hi=>by show some ws[i]? =_;rw[aa hi,ab,aa hi];rfl)
  (by show some ws[ws.length]? =_;rw[aB (aj _)])
  (λi hi=>by
   have:ws.getD i .non=ws[i]:=by rw[ab,aa hi];rfl
   rw[this];exact he _ (aK hi))
 rw[e]
 congr 1
 apply bL
 ·simp
 ·intro i b a
  have hi:i<ws.length:=by simpa using a
  simp[ab,aa hi]
theorem JM (p:α->Bool):∀l:List α,wZ (l.map λx=>W.bl (p x))=some (l.map p)
 |[]=>rfl|x::l=>by
  show(match Yl (.bl (p x)),wZ (l.map λx=>W.bl (p x)) with|some k,some ks=>some (k::ks)|_,_=>none)=_
  rw[JM p l];rfl
def Ki {p:α->Bool}{l:List α}(h:∀x∈l,p x=true):kQ (l.map λx=>W.bl (p x)) A=.ok (.bl true) A:=by
 show k9 (λks=>ks.all id) _ A=_;unfold k9;rw[JM];dsimp only
 have:(l.map p).all id=true:=by
  rw[all_map];exact cc.mpr λx H=>h x H
 rw[this]
theorem Jd {f:α->W}(h:∀x,(f x).nr=true):∀l:List α,qP (l.map f)=true
 |[]=>rfl|x::l=>by
  show((f x).nr&&qP (l.map f))=true;rw[h x,Jd h l];rfl
def Jt (i j:Int)(A:Hx):jg (.int i) (.int j) A=.ok (.bl (decide (i=j))) A:=by
 show R.ok (W.bl (PyData.eqv (.int i) (.int j))) A=_;simp[PyData.eqv]
 rfl
def Og (i j:Int)(A:Hx):qj (.int i) (.int j) A=.ok (.bl (!decide (i=j))) A:=by
 show R.ok (W.bl (!PyData.eqv (.int i) (.int j))) A=_;simp[PyData.eqv]
 rfl
def cG (i j:Bool)(A:Hx):qj (.bl i) (.bl j) A=.ok (.bl (!(i==j))) A:=by
 cases i<;>cases j<;>rfl
end
noncomputable def zj (r:bO):W:=.tup (r.map W.int)
def zr (t:bN):W:=.tup (t.map zj)
def kF (r:bO):(zj r).nr=true:=by
 show qP (r.map W.int)=true;exact Jd (λ_=>rfl) r
def yZ (t:bN):(zr t).nr=true:=by
 show qP (t.map zj)=true;exact Jd kF t
def Tt {st:W->Ex}{N:Nat}{item:Nat->W}{I:En->Prop}(t:∀i,i<N->j.at_ A i=some (some (item i)))(H:j.at_ A N=some none)
  (s:∀i,i<N->∀ρ,I ρ->∃a,st (item i) ρ A=.ok (.nx a) A/\I a):∀(n i:Nat)(ρ:En),i+n=N->I ρ->∃a,yd j st n i ρ A=.ok (.nx a) A/\I a:=by
 intro n
 induction n with
 |zero=>
  intro i ρ h c
  have:i=N:=by omega
  subst this;exact⟨ρ,U3 H,c⟩
 |succ n d=>
  intro i ρ h c;obtain⟨ρ1,E,g⟩:=s i (by omega) ρ c
  obtain⟨b,e,f⟩:=d (i+1) ρ1 (by omega) g
  exact⟨b,(T4 (t i (by omega)) E).trans e,f⟩
def Qc (h:m ρ A=.ok (.tup ws) A1):yA m ρ A=.ok (yB (.tup ws) ws.length) A1:=by
 unfold yA;rw[h,zM]
 rfl
def Qz {w:W}(h:ws[i]? =some w):(yB (.tup ws) ws.length).at_ A i=some (some (.tup [.int i,w])):=by
 show atEnd ws i _=_;unfold atEnd;rw[h]
def Qt:(yB (.tup ws) ws.length).at_ A ws.length=some none:=by
 show atEnd ws _ _=_;unfold atEnd;rw[aB (aj _)];exact ah rfl
noncomputable def at2 (t:bN)(a b:Nat):Int:=(t.getD a []).getD b 0
structure qa (t:bN):Prop where
 n1:1<=t.length
 n8:t.length<=8
 sq:∀r∈t,r.length=t.length
 lo:∀r∈t,∀v∈r,0<=v/\v<(t.length:Int)
 dg:∀a b,a<t.length->b<t.length->(at2 t a b=0↔a=b)
 sy:∀a b,a<t.length->b<t.length->at2 t a b=at2 t b a
 fu:∀k:Nat,(∃v∈t.flatten,(k:Int)<v)->(k:Int)∈t.flatten
section
variable {a b:Nat}
def J4 (h:a<t.length):(t.map zj)[a]? =some (zj (t.getD a [])):=by
 rw[ao,ab,aa h];rfl
def yy (h:a<t.length):t.getD a []∈t:=by
 rw[ab,aa h];exact aK h
def Je (h:a<t.length):zI (zr t) (.int a) A=.ok (zj (t.getD a [])) A:=by
 unfold zI;show(match yL (t.map zj) (a:Int) with|some w=>R.ok w A|none=>R.bad)=_
 rw[Kd (J4 h)]
def int_at {r:bO}(h:b<r.length):(r.map W.int)[b]? =some (.int (r.getD b 0)):=by
 rw[ao,ab,aa h];rfl
def Yb {r:bO}(h:b<r.length):zI (zj r) (.int b) A=.ok (.int (r.getD b 0)) A:=by
 unfold zI;show(match yL (r.map W.int) (b:Int) with|some w=>R.ok w A|none=>R.bad)=_
 rw[Kd (v:=.int (r.getD b 0)) (by rw[ao,ab,aa h];rfl)]
end
section
def HN {c:Option W}(a:∀i,i<ws.length->j.at_ A i=some (some (ws.getD i .non)))(H:j.at_ A ws.length=some none)(he:∀w,me [c,some w] A=.ok w A):
  ∀(f i:Nat)(x:Option W)(acc:List W),i+f=ws.length->acc.length+f<=zT->∃y,je j (zE 1) (z7 (.bl true)) (zH me) f i [c,x] acc A=.ok ([c,y],acc++ws.drop i) A:=by
 intro f
 induction f with
 |zero=>
  intro i x acc h l
  have:i=ws.length:=by omega
  subst this;refine⟨x,?_⟩;unfold je;rw[H,drop_length,append_nil]
 |succ f I=>
  intro i x acc h l;have hi:i<ws.length:=by omega
  have E:ws.getD i .non=ws[i]:=by rw[ab,aa hi];rfl
  obtain⟨y,e⟩:=I (i+1) (some ws[i]) (acc++[ws[i]]) (by omega) (by rw[aw,ba];omega)
  refine⟨y,?_⟩;rw[je,a i hi,E];dsimp only[zE,List.set,z7];rw[zM];dsimp only;have b:zH me [c,some ws[i]] acc A=.ok ([c,some ws[i]],acc++[ws[i]]) A:=by
   unfold zH;rw[he,zM,ah (by omega)]
  rw[b,zM];rw[e,aO]
  congr 3
  rw[List.singleton_append,<- bp hi]
def L0 (b:∀i,i<t.length->j.at_ A i=some (some (zj (t.getD i []))))(H:j.at_ A t.length=some none):
  ∀(f i:Nat)(x y:Option W)(acc:List W),i+f=t.length->acc.length+(t.drop i).flatten.length<=zT->
   ∃ρ,je j (zE 0) (z7 (.bl true)) (yQ (zY (qx 0)) (zE 1) (z7 (.bl true)) (zH (qx 1))) f i [x,y] acc A=.ok (ρ,acc++(t.drop i).flatten.map W.int) A:=by
 intro f
 induction f with
 |zero=>
  intro i x y acc h l
  have:i=t.length:=by omega
  subst this;refine⟨[x,y],?_⟩;unfold je;rw[H,drop_length];simp
 |succ f I=>
  intro i x y acc h l;have hi:i<t.length:=by omega
  have r:t.getD i []=t[i]:=by rw[ab,aa hi];rfl
  have e:t.drop i=t[i]::t.drop (i+1):=bp hi;rw[e,aZ,aw]at l;obtain⟨z,E⟩:=HN (A:=A) (j:=⟨λA i_1=>(z0 (zj t[i]) A).map λws=>ws[i_1]?,(t[i].map W.int).length⟩) (me:=qx 1) (ws:=t[i].map W.int) (c:=some (zj t[i]))
   (λk a=>by
    show some (t[i].map W.int)[k]? =_;rw[ab,aa a];rfl)
   (by show some (t[i].map W.int)[(t[i].map W.int).length]? =_;rw[aB (aj _)])
   (λw=>zl rfl) (t[i].map W.int).length 0 y acc (by omega) (by rw[af];omega)
  rw[drop_zero]at E;obtain⟨ρ,g⟩:=I (i+1) (some (zj t[i])) z (acc++t[i].map W.int) (by omega) (by rw[aw,af];omega)
  refine⟨ρ,?_⟩;rw[je,b i hi,r];dsimp only[zE,List.set,z7];rw[zM];dsimp only;have d:yQ (zY (qx 0)) (zE 1) (z7 (.bl true)) (zH (qx 1)) [some (zj t[i]),y] acc A=.ok ([some (zj t[i]),z],acc++t[i].map W.int) A:=by
   unfold yQ;rw[g8 (ws:=t[i].map W.int) (A1:=A) (zl (i:=0) rfl),zM];exact E
  rw[d,zM];rw[g,e,aZ,aG,aO]
def E6 (h:m ρ A=.ok (zr t) A)(H:t.flatten.length<=zT):
  zN 2 [] (zY m) (zE 0) (z7 (.bl true)) (yQ (zY (qx 0)) (zE 1) (z7 (.bl true)) (zH (qx 1))) ρ A=.ok (t.flatten.map W.int) A:=by
 have hlen:(t.map zj).length=t.length:=af ..;obtain⟨a,e⟩:=L0 (t:=t) (A:=A) (j:=⟨λA i=>(z0 (zr t) A).map λws=>ws[i]?,(t.map zj).length⟩) (λi hi=>by show some (t.map zj)[i]? =_;rw[J4 hi])
  (by show some (t.map zj)[t.length]? =_;rw[aB (by omega)]) t.length 0 none none [] (by omega) (by simpa using H)
 unfold zN;rw[g8 (ws:=t.map zj) h,zM];show R.bind (R.nox (je ⟨λA i=>(z0 (zr t) A).map λws=>ws[i]?,(t.map zj).length⟩ _ _ _ (t.map zj).length 0 [none,none] [] A)) _=_;rw[hlen]at e ⊢;rw[e];simp
 rfl
end
theorem QW:∀l:bO,intsOf (l.map W.int)=some l
 |[]=>rfl|i::l=>by
  show(match intsOf (l.map W.int) with|some is=>some (i::is)|none=>none)=_
  rw[QW l]
theorem Gx:∀(l:bO)(m:Int),jV l m=m∨jV l m∈l
 |[],_=>.inl rfl|i::l,m=>by
  show jV l (if i > m then i else m)=m∨jV l (if i > m then i else m)∈i::l;rcases Gx l (if i > m then i else m) with e|e
  ·by_cases h:i > m
   ·rw[ah h]at e ⊢;exact .inr (by rw[e];exact av ..)
   ·rw[aq h]at e ⊢;exact .inl e
  ·exact .inr (au _ e)
end Mi
namespace G
open PySem L2 Mi
def HA (h:qa t):t.flatten.length<=64:=by
 have:∀l:bN,(∀r∈l,r.length<=8)->l.flatten.length<=8 * l.length:=by
  intro l
  induction l with
  |nil=>intro _;simp|cons r l i=>
   intro H;have e:=H r (av ..);have d:=i λb a=>H b (au _ a);rw[aZ,aw,aS];omega
 have c:=h.n8
 have:=this t λr H=>by rw[h.sq r H];exact h.n8
 omega
section
def yY (h:n<1000000):q9 (n:Int)=true:=by
 unfold q9;simp;omega
end
def gZ (h:m ρ A=.ok (.ref n) A1)(H:A1[n]? =some (.lst ws)):zY m ρ A=.ok ⟨λA i=>(z0 (.ref n) A).map λws=>ws[i]?,ws.length⟩ A1:=by
 unfold zY K1;rw[h,zM];have e:z0 (.ref n) A1=some ws:=by unfold z0;dsimp only;rw[H]
 rw[e]
def ZQ (h:A[n]? =some (.lst ws)):((z0 (.ref n) A).map λws=>ws[i]?)=some ws[i]?:=by
 have e:z0 (.ref n) A=some ws:=by unfold z0;dsimp only;rw[h]
 rw[e];rfl
def kL:List Int->Int
 |[]=>0|i::is=>jV is i
def Rm {r:bO}(h:r≠[]):yf (r.map W.int) A=.ok (.int (kL r)) A:=by
 unfold yf;rw[QW];cases r with
 |nil=>exact absurd rfl h|cons i is=>rfl
def Y6 {r:bO}(h:r≠[]):kL r∈r:=by
 cases r with
 |nil=>exact absurd rfl h|cons i is=>
  rcases Gx is i with e|e
  ·show jV is i∈_;rw[e];exact av ..
  ·exact au _ e
def qu (t:bN):Int:=kL (t.map kL)+1
section
def _root_.Mi.qa.row_ne (h:qa t){r:bO}(H:r∈t):r≠[]:=λe=>by
 have a:=h.sq r H;have b:=h.n1;rw[e,length_nil]at a;omega
def _root_.Mi.qa.map_ne (h:qa t):t.map kL≠[]:=λe=>by
 have:=h.n1
 rw[List.map_eq_nil_iff]at e;rw[e]at this;simp at this
def km (h:qa t):1<=qu t/\qu t<=8:=by
 obtain⟨r,H,e⟩:=b7.mp (Y6 h.map_ne)
 have:=h.lo r H _ (Y6 (h.row_ne H))
 have:=h.n8
 unfold qu;rw[<- e];omega
def w6 (h:qa t){a b:Nat}(H:a<t.length)(d:b<t.length):0<=at2 t a b/\at2 t a b<8:=by
 have c:=h.sq _ (yy H)
 have:(t.getD a []).getD b 0∈t.getD a []:=by
  rw[ab (l:=t.getD a []),aa (by omega)];exact aK _
 have e:=h.lo _ (yy H) _ this
 have:=h.n8
 unfold at2;omega
def gE (h:q ρ A=.ok ws A1):mQ j4 q ρ A=.ok (.tup ws) A1:=(jJ h).trans rfl
end
end G
namespace Mi
open PySem L2
def ZJ {w:W}{s:Nat}(h:A[n]? =some (.lst ws))(H:ws[s]? =some w):zI (.ref n) (.int (s:Int)) A=.ok w A:=by
 unfold zI;have e:z0 (.ref n) A=some ws:=by unfold z0;dsimp only;rw[h]
 rw[e];dsimp only;rw[Kd H]
def yz {u:O}(h:A[n]? =some o):(A++[u])[n]? =some o:=by
 have:=(b8.mp h).1
 rw[ai this];exact h
def jx {u:O}:(A++[u])[A.length]? =some u:=by simp
theorem Xd:∀(n:Nat)(ks:bO),ks.Nodup->(∀r∈ks,0<=r/\r<(n:Int))->ks.length<=n
 |0,ks,_,h=>by
  cases ks with
  |nil=>exact aj _|cons r l=>have:=h r (av ..);omega
 |n+1,ks,nd,h=>by
  by_cases hm:(n:Int)∈ks
  ·have c:=Xd n (ks.erase (n:Int)) (nd.erase _) λr H=>by
    have b:=h r (List.mem_of_mem_erase H);have a:r≠(n:Int):=λz=>(List.Nodup.mem_erase_iff nd).mp H |>.1 z;omega
   rw[List.length_erase_of_mem hm]at c;omega
  ·have:=Xd n ks nd λr H=>by
    have b:=h r H;have a:r≠(n:Int):=λz=>hm (z ▸ H);omega
   omega
noncomputable def gN (μ:Nat->Nat->Int)(a b:Nat)(k:Int):Nat->Nat->Int:=λi j=>if i=a/\j=b then k else μ i j
structure Mu (n:Nat)(μ:Nat->Nat->Int)(c:Nat)(done:Nat->Nat->Prop):Prop where
 dg:∀i,μ i i=0
 sy:∀i j,μ i j=μ j i
 dn:∀i j,i<j->j<n->done i j->1<=μ i j/\μ i j<=(c:Int)
 un:∀i j,i<j->j<n->¬done i j->μ i j=0
 fu:∀k:Nat,1<=k->k<=c->∃i j,i<n/\j<n/\μ i j=(k:Int)
noncomputable def j8 (n:Nat)(μ:Nat->Nat->Int):bN:=(List.range n).map λi=>(List.range n).map (μ i)
def Jb {μ:Nat->Nat->Int}{j:Nat}(hi:i<n)(h:j<n):at2 (j8 n μ) i j=μ i j:=by
 unfold at2 j8;rw[ab (l:=(List.range n).map λi=>(List.range n).map (μ i)),ao,aT hi];show((List.range n).map (μ i)).getD j 0=_;rw[ab,ao,aT h]
 rfl
def Mu.tab {c:Nat}{μ:Nat->Nat->Int}{d:Nat->Nat->Prop}(h:Mu n μ c d)(all:∀i j,i<j->j<n->d i j)(n1:1<=n)(n8:n<=8)(x:n=1∨c<n):qa (j8 n μ):=by
 have len:(j8 n μ).length=n:=by unfold j8;simp
 have val:∀i j,i<n->j<n->i≠j->1<=μ i j/\μ i j<=(c:Int):=λi j hi H ne=>by
  rcases Nat.lt_or_gt_of_ne ne with q|q
  ·exact h.dn i j q H (all i j q H)
  ·rw[h.sy];exact h.dn j i q hi (all j i q hi)
 have mem:∀r∈j8 n μ,∀v∈r,∃i j,i<n/\j<n/\v=μ i j:=λr f v m=>by
  unfold j8 at f;obtain⟨i,hi,rfl⟩:=b7.mp f;obtain⟨j,H,rfl⟩:=b7.mp m;exact⟨i,j,b6.mp hi,b6.mp H,rfl⟩
 have I:∀i j,i<n->j<n->μ i j∈(j8 n μ).flatten:=λi j hi H=>List.mem_flatten.mpr ⟨_,b7.mpr ⟨i,b6.mpr hi,rfl⟩,b7.mpr ⟨j,b6.mpr H,rfl⟩⟩;refine⟨by rw[len];exact n1,by rw[len];exact n8,λr f=>?_,λr f v m=>?_,λa b l g=>?_,λa b l g=>?_,λk w=>?_⟩
 ·rw[len]
  unfold j8 at f;obtain⟨i,hi,rfl⟩:=b7.mp f;simp
 ·rw[len]
  obtain⟨i,j,hi,H,rfl⟩:=mem r f v m
  by_cases q:i=j
  ·subst q;rw[h.dg];omega
  ·have:=val i j hi H q
   omega
 ·rw[len]at l g
  rw[Jb l g]
  constructor
  ·intro e
   by_cases q:a=b
   ·exact q
   ·have:=val a b l g q;omega
  ·intro e;subst e;exact h.dg a
 ·rw[len]at l g
  rw[Jb l g,Jb g l];exact h.sy a b
 ·obtain⟨v,m,t⟩:=w
  obtain⟨r,f,o⟩:=List.mem_flatten.mp m;obtain⟨i,j,hi,H,rfl⟩:=mem r f v o
  by_cases K:k=0
  ·subst K
   have:=I 0 0 (by omega) (by omega)
   rw[h.dg]at this;exact this
  ·by_cases q:i=j
   ·subst q;rw[h.dg]at t;omega
   ·have:=val i j hi H q
    obtain⟨u,J,s,p,e⟩:=h.fu k (by omega) (by omega)
    have:=I u J s p
    rw[e]at this;exact this
end Mi
namespace G
open PySem L2 Mi
def Qy {i j:Int}(H:-(2 ^ 64)<i)(h:i<2 ^ 64):qw (.int i) (.int j) A=.ok (.int (i * j)) A:=by
 unfold qw;dsimp only;rw[ah];unfold QI;rw[bI,ak,ag,ag];exact .inl ⟨H,h⟩
def Jf {i j:Int}(h:0<j):k5 (.int i) (.int j) A=.ok (.int (i%j)) A:=by
 unfold k5 Zx;dsimp only;rw[ah];unfold KS;exact ay h
def GW {i j:Int}(h:0<j)(H:j<1152921504606846976):w8 (.int i) (.int j) A=.ok (.int (i/j)) A:=by
 unfold w8 Zx;dsimp only;rw[ah];unfold KC;rw[ak,ag,ag];exact⟨h,H⟩
def CF {c m:Int}(h:0<m)(H:m<1000000000000000):JI [.ref 0,.int m] [.lst [.int c,.bl true]]=.ok (.int (c%m)) [.lst [.int (c/m),.bl true]]:=by
 refine qS ?_;unfold W5;refine qQ (A1:=[.lst [.int (c/m),.bl true]]) ?_;refine(ZV (A1:=[.lst [.int c,.bl true]]) rfl).trans ?_;refine(zG (ρ1:=[some (.ref 0),some (.int m),some (.int (c%m)),none]) (A1:=[.lst [.int c,.bl true]]) ?_).trans ?_
 ·refine(qB (w:=.int (c%m)) (A1:=[.lst [.int c,.bl true]]) ?_).trans rfl
  exact(zK (x:=.int c) (y:=.int m) (A1:=[.lst [.int c,.bl true]]) (A2:=[.lst [.int c,.bl true]]) rfl rfl).trans (Jf h)
 ·refine(zG (ρ1:=[some (.ref 0),some (.int m),some (.int (c%m)),none]) (A1:=[.lst [.int (c/m),.bl true]]) ?_).trans rfl
  have e:zi w8 (zi zI zm qe) zt [some (.ref 0),some (.int m),some (.int (c%m)),none] [.lst [.int c,.bl true]]=.ok (.int (c/m)) [.lst [.int c,.bl true]]:=
   (zK (x:=.int c) (y:=.int m) (A1:=[.lst [.int c,.bl true]]) (A2:=[.lst [.int c,.bl true]]) rfl rfl).trans (GW h (by omega))
  unfold Jh;rw[e,zM]
  rfl
noncomputable def Z2 (c:Int):Int:=(c * 48271+29)%2147483647
noncomputable def wK (d:Int):Int:=(d * d+39373 * d+7)%2147483629
noncomputable def gm (e:Int):Int:=(e * e+16807 * e)%2147483587
def Xs (c:Int):0<=Z2 c/\Z2 c<2147483647:=⟨emod_nonneg _ (by decide),bH _ (by decide)⟩
def Bz (c:Int):0<=wK c/\wK c<2147483629:=⟨emod_nonneg _ (by decide),bH _ (by decide)⟩
def D3 {c m:Int}(i:0<=c)(h:c<2147483647)(H:0<m)(j:m<1000000000000000):JI [.ref 0,.int m] [.lst [.int c,.bl false]]=.ok (.int (gm (wK (Z2 c))/8%m)) [.lst [.int (Z2 c),.bl false]]:=by
 have l:=Xs c;refine qS ?_;unfold W5;refine(zG (ρ1:=[some (.ref 0),some (.int m),none,none]) (A1:=[.lst [.int c,.bl false]]) ((js (A1:=[.lst [.int c,.bl false]]) rfl).trans rfl)).trans ?_;have g:zi k5 (zi qL (zi qw (zi zI zm qe) (z7 (.int 48271))) (z7 (.int 29))) (z7 (.int 2147483647)) [some (.ref 0),some (.int m),none,none] [.lst [.int c,.bl false]]=.ok (.int (Z2 c)) [.lst [.int c,.bl false]]:=by
  have em:zi qw (zi zI zm qe) (z7 (.int 48271)) [some (.ref 0),some (.int m),none,none] [.lst [.int c,.bl false]]=.ok (.int (c * 48271)) [.lst [.int c,.bl false]]:=
   (zK (x:=.int c) (y:=.int 48271) (A1:=[.lst [.int c,.bl false]]) (A2:=[.lst [.int c,.bl false]]) rfl rfl).trans (Qy (by omega) (by omega))
  refine(zK (x:=.int (c * 48271+29)) (y:=.int 2147483647) (A1:=[.lst [.int c,.bl false]]) (A2:=[.lst [.int c,.bl false]]) ((zK em rfl).trans rfl) rfl).trans ?_;exact Jf (by decide)
 refine(zG (ρ1:=[some (.ref 0),some (.int m),none,none]) (A1:=[.lst [.int (Z2 c),.bl false]]) ?_).trans ?_
 ·unfold Jh
  rw[g,zM]
  rfl
 generalize Z2 c=d at*;have b:zi k5 (zi qL (zi qL (zi qw (zi zI zm qe) (zi zI zm qe)) (zi qw (z7 (.int 39373)) (zi zI zm qe))) We) (z7 (.int 2147483629)) [some (.ref 0),some (.int m),none,none] [.lst [.int d,.bl false]]=
   .ok (.int (wK d)) [.lst [.int d,.bl false]]:=by
  have em:zi qw (zi zI zm qe) (zi zI zm qe) [some (.ref 0),some (.int m),none,none] [.lst [.int d,.bl false]]=.ok (.int (d * d)) [.lst [.int d,.bl false]]:=
   (zK (x:=.int d) (y:=.int d) (A1:=[.lst [.int d,.bl false]]) (A2:=[.lst [.int d,.bl false]]) rfl rfl).trans (Qy (by omega) (by omega))
  have E:zi qw (z7 (.int 39373)) (zi zI zm qe) [some (.ref 0),some (.int m),none,none] [.lst [.int d,.bl false]]=.ok (.int (39373 * d)) [.lst [.int d,.bl false]]:=
   (zK (x:=.int 39373) (y:=.int d) (A1:=[.lst [.int d,.bl false]]) (A2:=[.lst [.int d,.bl false]]) rfl rfl).trans (Qy (by decide) (by decide))
  have s:zi qL (zi qw (zi zI zm qe) (zi zI zm qe)) (zi qw (z7 (.int 39373)) (zi zI zm qe)) [some (.ref 0),some (.int m),none,none] [.lst [.int d,.bl false]]=.ok (.int (d * d+39373 * d)) [.lst [.int d,.bl false]]:=
   (zK em E).trans rfl
  refine(zK (x:=.int (d * d+39373 * d+7)) (y:=.int 2147483629) (A1:=[.lst [.int d,.bl false]]) (A2:=[.lst [.int d,.bl false]]) ((zK s rfl).trans rfl) rfl).trans ?_;exact Jf (by decide)
 refine(zG (qB b)).trans ?_;have B:=Bz d;generalize wK d=e at*;have a:zi k5 (zi qL (zi qw zU zU) (zi qw (z7 (.int 16807)) zU)) (z7 (.int 2147483587)) [some (.ref 0),some (.int m),none,some (.int e)] [.lst [.int d,.bl false]]=.ok (.int (gm e)) [.lst [.int d,.bl false]]:=by
  have em:zi qw zU zU [some (.ref 0),some (.int m),none,some (.int e)] [.lst [.int d,.bl false]]=.ok (.int (e * e)) [.lst [.int d,.bl false]]:=
   (zK (x:=.int e) (y:=.int e) (A1:=[.lst [.int d,.bl false]]) (A2:=[.lst [.int d,.bl false]]) rfl rfl).trans (Qy (by omega) (by omega))
  have E:zi qw (z7 (.int 16807)) zU [some (.ref 0),some (.int m),none,some (.int e)] [.lst [.int d,.bl false]]=.ok (.int (16807 * e)) [.lst [.int d,.bl false]]:=
   (zK (x:=.int 16807) (y:=.int e) (A1:=[.lst [.int d,.bl false]]) (A2:=[.lst [.int d,.bl false]]) rfl rfl).trans (Qy (by decide) (by decide))
  refine(zK (x:=.int (e * e+16807 * e)) (y:=.int 2147483587) (A1:=[.lst [.int d,.bl false]]) (A2:=[.lst [.int d,.bl false]]) ((zK em E).trans rfl) rfl).trans ?_;exact Jf (by decide)
 refine(zG (qB a)).trans ?_;generalize gm e=f at*;refine qQ (jc ?_);refine(zK (x:=.int (f/8)) (y:=.int m) (A1:=[.lst [.int d,.bl false]]) (A2:=[.lst [.int d,.bl false]]) ?_ rfl).trans (Jf H);exact(zK (x:=.int f) (y:=.int 8) (A1:=[.lst [.int d,.bl false]]) (A2:=[.lst [.int d,.bl false]]) rfl rfl).trans (GW (by decide) (by decide))
def jd (n:Nat)(A:Hx):Prop:=∃c b,A[n]? =some (.lst [.int c,.bl b])/\0<=c/\(b=false->c<2147483647)
def Pf (h:jd n A){m:Int}(H:0<m)(g:m<1000000000000000):∃r o,jT [.ref n,.int m] A=.ok (.int r) (A.set n o)/\0<=r/\r<m/\jd n (A.set n o):=by
 obtain⟨c,b,f,d,i⟩:=h;have hn:n<A.length:=(b8.mp f).1;have fin:∀(r C:Int),JI [.ref 0,.int m] [.lst [.int c,.bl b]]=.ok (.int r) [.lst [.int C,.bl b]]->jT [.ref n,.int m] A=.ok (.int r) (A.set n (.lst [.int C,.bl b])):=λr C e=>by
  unfold jT wI;dsimp only;rw[f];dsimp only;have a:(qP [W.int c,W.bl b]&&qP [W.int m])=true:=rfl;rw[ah a,e]
  rfl
 cases b with
 |true=>
  refine⟨c%m,_,fin _ _ (CF H g),emod_nonneg _ (by omega),bH _ H,c/m,true,aM hn,Int.ediv_nonneg d (by omega),λz=>nomatch z⟩
 |false=>
  exact⟨_,_,fin _ _ (D3 d (i rfl) H g),emod_nonneg _ (by omega),bH _ H,Z2 c,false,aM hn,(Xs c).1,λ_=>(Xs c).2⟩
end G
namespace Mi
open PySem L2
def HK {k:Nat}{xs y:List W}(h:A[n]? =some (.lst xs))(a:A[k]? =some (.lst y))(H:xs.length+y.length<=zT):qL (.ref n) (.ref k) A=.ok (.ref A.length) (A++[.lst (xs++y)]):=by
 unfold qL;dsimp only;rw[h,a];dsimp only;rw[ah H]
def Ext (A a:Hx):Prop:=∃l,a=A++l
def Ext.refl:Ext A A:=⟨[],by simp⟩
def Ext.trans {B C:Hx}(a:Ext A B)(b:Ext B C):Ext A C:=let ⟨l,e⟩:=a;let ⟨k,f⟩:=b;⟨l++k,by rw[f,e,aO]⟩
def Ext.one:Ext A (A++[o]):=⟨[o],rfl⟩
def Ext.at {a:Hx}(x:Ext A a)(h:A[n]? =some o):a[n]? =some o:=by
 obtain⟨l,rfl⟩:=x
 have:=(b8.mp h).1
 rw[ai this];exact h
def JU {ifs:Ev}{N:Nat}
  (H:∀i ρ acc A,i<N->I i ρ acc A->∃w ρ1,j.at_ A i=some (some w)/\tw w ρ=some ρ1/\((∃A1 c a A2,ifs ρ1 A=.ok (.bl true) A1/\em ρ1 acc A1=.ok (c,a) A2/\I (i+1) c a A2)∨(∃A1,ifs ρ1 A=.ok (.bl false) A1/\I (i+1) ρ1 acc A1)))
  (e:∀ρ acc A,I N ρ acc A->j.at_ A N=some none):
  ∀(f i:Nat)(ρ:En)(acc:List W)(A:Hx),i+f=N->I i ρ acc A->∃d b n,je j tw ifs em f i ρ acc A=.ok (d,b) n/\I N d b n:=by
 intro f
 induction f with
 |zero=>
  intro i ρ acc A h g
  have:i=N:=by omega
  subst this;refine⟨ρ,acc,A,?_,g⟩;unfold je;rw[e _ _ _ g]
 |succ f m=>
  intro i ρ acc A h g;obtain⟨w,ρ1,q,p,o⟩:=H i ρ acc A (by omega) g
  rw[je,q];dsimp only;rw[p];dsimp only;rcases o with ⟨A1,c,a,A2,l,r,E⟩|⟨A1,l,E⟩
  ·rw[l,zM]
   dsimp only;rw[r,zM];exact m (i+1) _ _ _ (by omega) E
  ·rw[l,zM]
   dsimp only;exact m (i+1) _ _ _ (by omega) E
def wU {nl:Nat}{ifs:Ev}{N:Nat}(hm:mi ρ A=.ok j A1)(g:j.len=N)
  (h:∀i ρ acc A,i<N->I i ρ acc A->∃w ρ1,j.at_ A i=some (some w)/\tw w ρ=some ρ1/\((∃A1 d b A2,ifs ρ1 A=.ok (.bl true) A1/\em ρ1 acc A1=.ok (d,b) A2/\I (i+1) d b A2)∨(∃A1,ifs ρ1 A=.ok (.bl false) A1/\I (i+1) ρ1 acc A1)))
  (H:∀ρ acc A,I N ρ acc A->j.at_ A N=some none)(h0:I 0 (QA nl cap ρ) [] A1):∃c a f,zN nl cap mi tw ifs em ρ A=.ok a f/\I N c a f:=by
 obtain⟨c,a,f,e,l⟩:=JU h H N 0 _ _ _ (by omega) h0
 refine⟨c,a,f,?_,l⟩;unfold zN;rw[hm,zM,g,e]
 rfl
def wk {st:W->Ex}{N:Nat}{I:Nat->En->Hx->Prop}
  (H:∀i ρ A,i<N->I i ρ A->∃w ρ1 A1,j.at_ A i=some (some w)/\st w ρ A=.ok (.nx ρ1) A1/\I (i+1) ρ1 A1)(d:∀ρ A,I N ρ A->j.at_ A N=some none):
  ∀(f i:Nat)(ρ:En)(A:Hx),i+f=N->I i ρ A->∃a c,yd j st f i ρ A=.ok (.nx a) c/\I N a c:=by
 intro f
 induction f with
 |zero=>
  intro i ρ A h b
  have:i=N:=by omega
  subst this;exact⟨ρ,A,U3 (d _ _ b),b⟩
 |succ f e=>
  intro i ρ A h b;obtain⟨w,ρ1,A1,m,l,g⟩:=H i ρ A (by omega) b
  rw[T4 m l];exact e (i+1) _ _ (by omega) g
def wV {y:W}(h:me ρ A=.ok y A1)(H:acc.length<zT):zH me ρ acc A=.ok (ρ,acc++[y]) A1:=by
 unfold zH;rw[h,zM,ah H]
theorem take_succ {l:List α}(h:i<l.length):l.take (i+1)=l.take i++[l[i]]:=by
 rw[List.take_succ,aa h];rfl
def Ext.app {B:Hx}{l:Hx}(x:Ext A B):Ext A (B++l):=x.trans ⟨l,rfl⟩
def gY (h:A[n]? =some o):n<A.length:=(b8.mp h).1
end Mi
namespace G
open PySem L2 Mi
def Qw {w:W}(H:A[n]? =some (.lst ws))(h:ws[i]? =some w):((z0 (.ref n) A).map λws=>ws[i]?)=some (some w):=by
 rw[ZQ H,h]
def Qu (H:A[n]? =some (.lst ws))(h:ws.length<=i):((z0 (.ref n) A).map λws=>ws[i]?)=some none:=by
 rw[ZQ H,aB h]
theorem Kg:∀(l:bO)(m:Int),m<=jV l m/\∀x∈l,x<=jV l m
 |[],m=>⟨Int.le_refl _,λx h=>by cases h⟩|y::l,m=>by
  unfold jV
  split
  ·rename_i c
   obtain⟨b,a⟩:=Kg l y;refine⟨by omega,λx H=>?_⟩
   rcases b9.mp H with rfl|H
   ·exact b
   ·exact a x H
  ·rename_i c
   obtain⟨b,a⟩:=Kg l m;refine⟨b,λx H=>?_⟩;rcases b9.mp H with rfl|H
   ·omega
   ·exact a x H
theorem UY:∀{l:List α}{k:Nat}{w:α},l[k]? =some w->l.Perm (w::l.eraseIdx k)
 |[],_,_,h=>by simp at h|x::l,0,w,h=>by
  simp at h;subst h;simp
 |x::l,k+1,w,h=>by
  rw[List.getElem?_cons_succ]at h;rw[List.eraseIdx_cons_succ];exact((UY h).cons x).trans (List.Perm.swap w x _)
def MY {k:Nat}{i:Int}{w:W}(h:A[n]? =some (.lst ws))(hw:ws[k]? =some w)(H:q9 i=true)(e:seqIndex? i ws.length=some k):gG (.ref n) (.int i) A=.ok w (A.set n (.lst (ws.eraseIdx k))):=by
 unfold gG;dsimp only;rw[h];dsimp only;rw[ah H,e];dsimp only;rw[hw]
def Dy {k:Nat}(h:k<n):seqIndex? (k:Int) n=some k:=by
 have:=PySem.StrLaws.seqIndex_nonneg (i:=(k:Int)) (n:=n) (by omega) (by omega)
 rw[aE]at this;exact this
def LB {k:Nat}{w:W}(h:A[n]? =some (.lst ws))(hw:ws[k]? =some w)(H:k<1000000):gG (.ref n) (.int (k:Int)) A=.ok w (A.set n (.lst (ws.eraseIdx k))):=
 MY h hw (G.yY H) (Dy (b8.mp hw).1)
theorem Td {β:Type}(f:α->β):∀(l:List α)(k:Nat),(l.map f).eraseIdx k=(l.eraseIdx k).map f
 |[],_=>rfl|_::_,0=>rfl|a::l,k+1=>by
  rw[aQ,List.eraseIdx_cons_succ,List.eraseIdx_cons_succ,aQ,Td f l k]
def Gy {a b:Ev}{y:W}(c:a ρ A=.ok (.ref n) A)(d:A[n]? =some (.lst ws))(H:b ρ A=.ok y A1):ko g a b ρ A=g (.ref n) y A1:=by
 unfold ko;have h:Ju (.ref n) A=true:=by unfold Ju;dsimp only;rw[d]
 rw[c,zM,ah h,H,zM]
def Lq {y:W}(h:A[n]? =some (.lst ws))(H:ws.length<1000):wY (.ref n) y A=.ok .non (A.set n (.lst (ws++[y]))):=by
 unfold wY;dsimp only;rw[h];dsimp only;rw[ah (by unfold zT;omega)]
def SH {f:Fn}{us:List W}{c C:Int}{b B:Bool}{w:W}(a:A[n]? =some (.lst [.int c,.bl b]))(H:qP us=true)(h:f (.ref 0::us) [.lst [.int c,.bl b]]=.ok w A1)(g:A1[0]? =some (.lst [.int C,.bl B]))(hw:w.nr=true):wI f (.ref n::us) A=.ok w (A.set n (.lst [.int C,.bl B])):=by
 unfold wI;dsimp only;rw[a];dsimp only;have e:(qP [W.int c,W.bl b]&&qP us)=true:=by rw[H];rfl
 rw[ah e,h];dsimp only;rw[List.head?_eq_getElem?,g];dsimp only;have d:(qP [W.int C,W.bl B]&&w.nr)=true:=by rw[hw];rfl
 rw[ah d]
noncomputable abbrev iL (l:bS):List W:=l.map λ(a:Nat)=>W.int (a:Int)
def Io (h:m ρ A=.ok (.int (n:Int)) A1)(hn:n<=100):J0 m ρ A=.ok (.ref A1.length) (A1++[.lst (iL (List.range n))]):=by
 unfold J0;rw[h,zM];dsimp only;rw[yY (by omega),aE,ay (by unfold zT;omega)]
 rfl
def IX {o:List α}{f:α->W}{G:α->W}(h:m ρ A=.ok (.tup (o.map f)) A)(H:o.length<=zT)(he:∀a∈o,me (some (f a)::cap.map λi=>(ρ[i]?).join) A=.ok (G a) A):
  zN 1 cap (zY m) (zE 0) zQ (zH me) ρ A=.ok (o.map G) A:=by
 by_cases h0:o=[]
 ·subst h0
  have e:=wR (cap:=cap) (me:=me) (ρ:=ρ) (A:=A) (N:=0) (item:=λ_=>.non) (g:=λ_=>.non) (g8 h) rfl (by unfold zT;omega) (λi hi=>by omega) rfl (λi hi=>by omega)
  exact e
 ·obtain⟨x,c⟩:∃x,x∈o:=List.exists_mem_of_ne_nil o h0
  have e:=wR (cap:=cap) (me:=me) (ρ:=ρ) (A:=A) (N:=o.length) (item:=λi=>f (o.getD i x)) (g:=λi=>G (o.getD i x)) (g8 h) (af ..) H
   (λi hi=>by show some (o.map f)[i]? =_;rw[ao,aa hi,ab,aa hi];rfl)
   (by show some (o.map f)[o.length]? =_;rw[aB (by rw[af];exact aj _)])
   (λi hi=>by
    have:o.getD i x=o[i]:=by rw[ab,aa hi];rfl
    rw[this];exact he _ (aK hi))
  rw[e]
  congr 1
  apply bL
  ·simp
  ·intro i d b
   have hi:i<o.length:=by simpa using b
   simp[ab,aa hi]
def QQ {β:Type}(o:List α)(x:α)(f:α->β):o.map f=(List.range o.length).map λi=>f (o.getD i x):=by
 apply bL
 ·simp
 ·intro i h H
  have hi:i<o.length:=by simpa using h
  simp[ab,aa hi]
def S6 (q:∀r∈t,r.length=t.length){v:Int}(h:v∈t.flatten):∃a b,a<t.length/\b<t.length/\at2 t a b=v:=by
 obtain⟨r,H,e⟩:=List.mem_flatten.mp h;obtain⟨a,d,g⟩:=bo H;obtain⟨b,c,f⟩:=bo e;refine⟨a,b,d,by rw[<- q r H];exact c,?_⟩
 unfold at2;have E:t.getD a []=r:=by rw[ab,aa d];exact g
 rw[E,ab,aa c];exact f
def Dr (q:∀r∈t,r.length=t.length){a b:Nat}(e:a<t.length)(d:b<t.length):∃r∈t,at2 t a b∈r/\at2 t a b∈t.flatten:=by
 have H:t.getD a []∈t:=yy e;have c:at2 t a b∈t.getD a []:=by
  unfold at2;have h:b<(t.getD a []).length:=by rw[q _ H];exact d
  rw[ab (l:=t.getD a []),aa h];exact aK _
 exact⟨_,H,c,List.mem_flatten.mpr ⟨_,H,c⟩⟩
def SR {r:bO}{x:Int}(h:x∈r):x<=kL r:=by
 cases r with
 |nil=>cases h|cons i is=>
  show x<=jV is i;rcases b9.mp h with rfl|h
  ·exact(Kg is x).1
  ·exact(Kg is i).2 x h
section
def J8 (h:qa t){a b:Nat}(d:a<t.length)(c:b<t.length):at2 t a b<qu t:=by
 obtain⟨r,H,e,_⟩:=Dr h.sq d c;have f:=SR e;have E:=SR (b7.mpr ⟨r,H,rfl⟩:kL r∈t.map kL);unfold qu;omega
def GS (h:qa t):qu t-1∈t.flatten:=by
 obtain⟨r,H,e⟩:=b7.mp (Y6 h.map_ne)
 have:qu t-1=kL r:=by unfold qu;omega
 rw[this];exact List.mem_flatten.mpr ⟨r,H,Y6 (h.row_ne H)⟩
def Be (h:qa t):qu t<=(t.length:Int):=by
 obtain⟨r,a,H⟩:=List.mem_flatten.mp (GS h)
 have:=h.lo r a _ H
 omega
def G8 (h:qa t){v:Nat}(H:(v:Int)<qu t):∃a b,a<t.length/\b<t.length/\at2 t a b=(v:Int):=by
 by_cases e:(v:Int)=qu t-1
 ·rw[e];exact S6 h.sq (GS h)
 ·exact S6 h.sq (h.fu v ⟨_,GS h,by omega⟩)
noncomputable def qZ (p:bS):bO:=0::p.map λ(k:Nat)=>1+(k:Int)
def kK (t:bN)(p o:bS):bN:=o.map λa=>o.map λb=>(qZ p).getD (at2 t a b).toNat 0
def Q8 {p:bS}{v:Nat}(H:1<=v)(h:v<=p.length):(qZ p).getD v 0=1+((p[v-1]'(by omega):Nat):Int):=by
 obtain⟨v,rfl⟩:∃u,v=u+1:=⟨v-1,by omega⟩
 unfold qZ;rw[ab,List.getElem?_cons_succ,ao,aa (by omega)]
 rfl
def Gp (h:qa t){p o:bS}(m:p.Perm (List.range (qu t-1).toNat))(f:o.Perm (List.range t.length)):qa (kK t p o)/\(kK t p o).length=t.length:=by
 have l:o.length=t.length:=by rw[f.length_eq,aF]
 have L:=km h;have K:=Be h;have z:p.length=(qu t-1).toNat:=by rw[m.length_eq,aF]
 have n1:=h.n1;have H:∀i,o.getD i 0<t.length:=λi=>by
  by_cases hi:i<o.length
  ·rw[ab,aa hi]
   exact b6.mp (f.mem_iff.mp (aK hi))
  ·rw[ab,aB (by omega)]
   exact n1
 have s:o.Nodup:=(f.nodup_iff).mpr nodup_range;have r:∀a,a<t.length->∃i,i<t.length/\o.getD i 0=a:=λa x=>by
  obtain⟨i,hi,e⟩:=bo (f.mem_iff.mpr (b6.mpr x));exact⟨i,by omega,by rw[ab,aa hi];exact e⟩
 have c:∀q (g:q<p.length),p[q]<p.length:=λq g=>by
  have:=b6.mp (m.mem_iff.mp (aK g))
  omega
 have M:Mu t.length (λi j=>(qZ p).getD (at2 t (o.getD i 0) (o.getD j 0)).toNat 0) p.length (λ_ _=>True):=by
  refine⟨λi=>?_,λi j=>?_,λi j A y _=>?_,λi j _ _ hn=>absurd trivial hn,λk N J=>?_⟩
  ·show(qZ p).getD (at2 t (o.getD i 0) (o.getD i 0)).toNat 0=0
   rw[(h.dg _ _ (H i) (H i)).mpr rfl]
   rfl
  ·show(qZ p).getD (at2 t (o.getD i 0) (o.getD j 0)).toNat 0=(qZ p).getD (at2 t (o.getD j 0) (o.getD i 0)).toNat 0
   rw[h.sy _ _ (H i) (H j)]
  ·show 1<=(qZ p).getD (at2 t (o.getD i 0) (o.getD j 0)).toNat 0/\(qZ p).getD (at2 t (o.getD i 0) (o.getD j 0)).toNat 0<=(p.length:Int)
   have n:o.getD i 0≠o.getD j 0:=by
    have w:i<o.length:=by omega
    have u:j<o.length:=by omega
    rw[ab,aa w,ab,aa u];intro e;have I:o[i]=o[j]:=e
    have:=(getElem_inj s).mp I
    omega
   have d:=h.dg _ _ (H i) (H j);have S:=w6 h (H i) (H j);have Q:=J8 h (H i) (H j);have P:at2 t (o.getD i 0) (o.getD j 0)≠0:=λe=>n (d.mp e);rw[Q8 (by omega) (by omega)]
   have:=c ((at2 t (o.getD i 0) (o.getD j 0)).toNat-1) (by omega)
   omega
  ·obtain⟨q,g,e⟩:=bo (m.mem_iff.mpr (b6.mpr (by omega:k-1<(qu t-1).toNat)))
   obtain⟨a,b,x,B,D⟩:=G8 h (v:=q+1) (by omega)
   obtain⟨i,hi,C⟩:=r a x;obtain⟨j,y,E⟩:=r b B;refine⟨i,j,hi,y,?_⟩;show(qZ p).getD (at2 t (o.getD i 0) (o.getD j 0)).toNat 0=(k:Int);rw[C,E,D,aE,Q8 (by omega) (by omega)]
   have:p[q+1-1]'(by omega)=k-1:=e
   rw[this];omega
 have T:kK t p o=j8 t.length (λi j=>(qZ p).getD (at2 t (o.getD i 0) (o.getD j 0)).toNat 0):=by
  unfold kK j8;rw[QQ o 0,l]
  congr 1
  funext i
  rw[QQ o 0 (λb=>(qZ p).getD (at2 t (o.getD i 0) b).toNat 0),l]
 refine⟨?_,by unfold kK;rw[af,l]⟩
 rw[T];exact M.tab (λ_ _ _ _=>trivial) n1 h.n8 (.inr (by omega))
end
end G
namespace Mi
open PySem L2
def Ra {r b:Nat}{v:W}(h:A[r]? =some (.lst ws))(H:b<ws.length):kO (.ref r) (.int (b:Int)) v A=.ok () (A.set r (.lst (ws.set b v))):=by
 have e:wb ws.length (b:Int)=some b:=by unfold wb;rw[ah (by omega),ah (by omega),aE]
 unfold kO;dsimp only;rw[h];dsimp only;rw[e]
structure Kp (n:Nat)(A B:Hx):Prop where
 len:A.length<=B.length
 at_:∀i,i<A.length->i≠n->B[i]? =A[i]?
section
variable {B C:Hx}
def Kp.refl:Kp n A A:=⟨aj _,λ_ _ _=>rfl⟩
theorem Kp.trans (a:Kp n A B)(b:Kp n B C):Kp n A C:=⟨bf a.len b.len,λi H h=>(b.at_ i (aI H a.len) h).trans (a.at_ i H h)⟩
theorem Kp.set:Kp n A (A.set n o):=⟨by rw[length_set];exact aj _,λi _ h=>aN (Ne.symm h)⟩
def Kp.ext (x:Ext A B):Kp n A B:=by
 obtain⟨l,rfl⟩:=x;exact⟨by simp,λi h _=>ai h⟩
def Kp.put (a:Kp n A B){k:Nat}(h:A.length<=k):Kp n A (B.set k o):=⟨by rw[length_set];exact a.len,λi b H=>by rw[aN (by omega)];exact a.at_ i b H⟩
def Kp.get (a:Kp n A B)(h:A[i]? =some o)(hn:i≠n):B[i]? =some o:=by rw[a.at_ i (gY h) hn];exact h
end
end Mi
namespace G
open PySem L2 Mi
section
abbrev Sq (t:bN):Prop:=∀r∈t,r.length=t.length
end
def XI (t:bN):Bool:=decide (1<=t.length)&&(decide (t.length<=8)&&((t.all λr=>r.length==t.length&&r.all λv=>decide (0<=v)&&decide (v<(t.length:Int)))&&
 (((List.range t.length).all λa=>(List.range t.length).all λb=>(decide (at2 t a b=0)==decide (a=b))&&decide (at2 t a b=at2 t b a))&&(List.range 8).all λk=>!(t.flatten.any λv=>decide ((k:Int)<v)) || t.flatten.contains (k:Int))))
def Eu (h:XI t=true):qa t:=by
 unfold XI at h;rw[ak,ak,ak,ak,ag,ag]at h;obtain⟨n1,n8,i,s,hf⟩:=h;have rw_:∀r∈t,r.length=t.length/\∀v∈r,0<=v/\v<(t.length:Int):=λr hm=>by
  have:=cc.mp i r hm
  rw[ak,a6]at this;refine⟨this.1,λv d=>?_⟩
  have:=cc.mp this.2 v d
  rw[ak,ag,ag]at this;exact this
 have at_:∀a b,a<t.length->b<t.length->(decide (at2 t a b=0)==decide (a=b))=true/\at2 t a b=at2 t b a:=λa b c H=>by
  have:=cc.mp (cc.mp s a (b6.mpr c)) b (b6.mpr H)
  rw[ak,ag]at this;exact this
 refine⟨n1,n8,λr hm=>(rw_ r hm).1,λr hm=>(rw_ r hm).2,λa b c H=>?_,λa b c H=>(at_ a b c H).2,λk j=>?_⟩
 ·have:=a6.mp (at_ a b c H).1
  by_cases q:a=b
  ·rw[ay q]at this;exact⟨λ_=>q,λ_=>of_decide_eq_true this⟩
  ·rw[aC q]at this;exact⟨λz=>absurd z (of_decide_eq_false this),λz=>absurd z q⟩
 ·obtain⟨v,d,f⟩:=j
  obtain⟨r,hm,e⟩:=List.mem_flatten.mp d
  have:=(rw_ r hm).2 v e
  have g:=cc.mp hf k (b6.mpr (by omega))
  rw[bI]at g;rcases g with z|z
  ·exfalso
   have:(t.flatten.any λv=>decide ((k:Int)<v))=true:=List.any_eq_true.mpr ⟨v,d,ay f⟩
   rw[this]at z;cases z
  ·exact List.contains_iff_mem.mp z
def Z5 (t:bN):((zr t).nr&&true)=true:=by rw[yZ];rfl
noncomputable def Ol:W->Bool
 |.int _=>true|_=>false
def PD {w:W}{ty c:Ty}(h:m ρ A=.ok w A1)(H:ZA w A1=some ty):Zp c m ρ A=.ok (.bl (Z0 ty c)) A1:=by
 unfold Zp;rw[h,zM,H]
def Kx (h:ρ[i]? =some (some (.tup ws))):mQ qR (qi (qx i)) ρ A=.ok (.int ws.length) A:=by
 rw[jJ (kD (w:=.tup ws) (A1:=A) (zl h) rfl)]
 rfl
def Li (i:Int)(A:Hx):ZH [.int i] A=.ok (.bl true) A:=by
 unfold ZH YS;exact qS (w:=.bl true) (A1:=A) rfl
def Sj {r:bO}(h:r.length<=8)(A:Hx):QV [zj r,.int r.length] A=.ok (.bl true) A:=by
 unfold QV W4;refine qS ?_;unfold UC;refine qQ (jc ?_);refine(kG (A1:=A) rfl).trans ?_;have e:mQ qR (qi zm) [some (zj r),some (.int r.length)] A=.ok (.int r.length) A:=by
  rw[jJ (kD (w:=zj r) (A1:=A) (zl rfl) rfl)];unfold qR;rw[af]
 refine(kG (A1:=A) ((zK e (zl (i:=1) rfl)).trans ((Jt _ _ _).trans (by rw[ay rfl])))).trans ?_
 have E:=ZI (cap:=[]) (A:=A) (ρ:=[some (zj r),some (.int r.length)]) (ws:=r.map W.int) (me:=zA ZH (zc zm zq)) (g:=λ_=>.bl true) (zl (i:=0) rfl) (by rw[af];unfold zT;omega) (λw hw=>by
  obtain⟨i,_,rfl⟩:=b7.mp hw;exact(zW (ws:=[.int i]) (A1:=A) rfl).trans (Li i A))
 exact(jJ E).trans (Ki (p:=λ_=>true) λ_ _=>rfl)
def Ed {r:bO}(l:r.length<=8)(H:∀v∈r,0<=v/\v<r.length)(A:Hx):JA [zj r,.int r.length,.int r.length] A=.ok (.bl true) A:=by
 unfold JA Wx;refine qS ?_;unfold Vu;refine qQ (jc ?_);refine(kG (A1:=A) ((zW (ws:=[zj r,.int r.length]) (A1:=A) rfl).trans (Sj l A))).trans ?_;have e:=ZI (cap:=[2]) (A:=A) (ρ:=[some (zj r),some (.int r.length),some (.int r.length)]) (ws:=r.map W.int) (me:=jZ jR yM (z7 (.int 0)) (qx 0) (qx 1)) (g:=λ_=>.bl true) (zl (i:=0) rfl) (by rw[af];unfold zT;omega) (λw hw=>by
  obtain⟨v,h,rfl⟩:=b7.mp hw;obtain⟨b,a⟩:=H v h;unfold jZ;rw[qh,zM,zl (i:=0) (w:=.int v) rfl,zM];show R.bind (R.ok (W.bl (decide ((0:Int)<=v))) A) _=_;rw[ay b,zM];dsimp only;rw[zl (i:=1) (w:=.int r.length) rfl,zM];show R.ok (W.bl (decide (v<(r.length:Int)))) A=_;rw[ay a])
 exact(jJ e).trans (Ki (p:=λ_=>true) λ_ _=>rfl)
def D5 (h:qa t)(A:Hx):Gi [zr t] A=.ok (.bl true) A:=by
 refine kf (A1:=[]) (Z5 t) rfl (qS ?_);unfold Tv;obtain⟨d,e,_⟩:=Tt (A:=[]) (N:=t.length) (item:=λi=>.tup [.int i,zj (t.getD i [])]) (I:=λρ=>∃m g Y y,ρ=[some (zr t),m,g,Y,y])
  (j:=yB (zr t) (t.map zj).length) (st:=turn (jf 1 2) (zp (jA (yA zJ) (jf 3 4) (zp (qy (jH (zi qj (zi jg ql qe) (zi jg zt zU)) (zi qj (zi zI (zi zI zm zU) zt) ql)) yr zw) zw)) zw))
  (λi hi=>Qz (J4 hi)) (by have:=Qt (A:=[]) (ws:=t.map zj);rw[af]at this;rw[af];exact this) (λa f ρ H=>by
   obtain⟨m,g,Y,y,rfl⟩:=H;have l:=h.sq _ (yy f);obtain⟨n,E,o,Z,p⟩:=Tt (A:=[]) (N:=t.length) (item:=λi=>.tup [.int i,.int ((t.getD a []).getD i 0)]) (I:=λρ=>∃Y y,ρ=[some (zr t),some (.int a),some (zj (t.getD a [])),Y,y])
    (j:=yB (zj (t.getD a [])) ((t.getD a []).map W.int).length) (st:=turn (jf 3 4) (zp (qy (jH (zi qj (zi jg ql qe) (zi jg zt zU)) (zi qj (zi zI (zi zI zm zU) zt) ql)) yr zw) zw))
    (λi hi=>Qz (int_at (by omega)))
    (by have:=Qt (A:=[]) (ws:=(t.getD a []).map W.int);rw[af,l]at this;rw[af,l];exact this)
    (λb c ρ H=>by
     obtain⟨Y,y,rfl⟩:=H;refine⟨[some (zr t),some (.int a),some (zj (t.getD a [])),some (.int b),some (.int ((t.getD a []).getD b 0))],?_,_,_,rfl⟩;refine(kE rfl).trans ?_;refine(zG ((js (A1:=[]) ?_).trans rfl)).trans rfl;have u:zi qj (zi jg ql qe) (zi jg zt zU) [some (zr t),some (.int a),some (zj (t.getD a [])),some (.int b),some (.int ((t.getD a []).getD b 0))] []=.ok (.bl false) []:=by
      refine(zK ((zK (zl (i:=4) rfl) (qh (w:=.int 0))).trans (Jt _ _ _)) ((zK (zl (i:=1) rfl) (zl (i:=3) rfl)).trans (Jt _ _ _))).trans ((cG _ _ _).trans ?_);have hd:(t.getD a []).getD b 0=0↔a=b:=h.dg a b f c
      have:decide ((t.getD a []).getD b 0=0)=decide ((a:Int)=(b:Int)):=by
       by_cases q:a=b
       ·rw[ay (hd.mpr q),ay (by omega)]
       ·rw[aC (λz=>q (hd.mp z)),aC (by omega)]
      rw[this];simp
     have E:zi qj (zi zI (zi zI zm zU) zt) ql [some (zr t),some (.int a),some (zj (t.getD a [])),some (.int b),some (.int ((t.getD a []).getD b 0))] []=.ok (.bl false) []:=by
      have r:=h.sq _ (yy c);refine(zK ((zK ((zK (zl (i:=0) rfl) (zl (i:=3) rfl)).trans (Je c)) (zl (i:=1) rfl)).trans (Yb (by omega))) (zl (i:=4) rfl)).trans ((Og _ _ _).trans ?_)
      have s:(t.getD b []).getD a 0=(t.getD a []).getD b 0:=(h.sy a b f c).symm;rw[s,ay rfl]
      rfl
     exact(Zg u).trans E) t.length 0 [some (zr t),some (.int a),some (zj (t.getD a [])),Y,y] (by omega) ⟨_,_,rfl⟩
   refine⟨[some (zr t),some (.int a),some (zj (t.getD a [])),o,Z],?_,_,_,_,_,rfl⟩;refine(kE rfl).trans ?_;rw[p]at E;have hlen:((t.getD a []).map W.int).length=t.length:=by rw[af,l]
   refine(zG ((wq (Qc (zl (i:=2) rfl))).trans ?_)).trans rfl;show yd (yB (zj (t.getD a [])) ((t.getD a []).map W.int).length) _ ((t.getD a []).map W.int).length 0 _ _=_;rw[hlen]at E ⊢;exact E) t.length 0 [some (zr t),none,none,none,none] (by omega) ⟨_,_,_,_,rfl⟩
 refine(zG (ρ1:=d) (A1:=[]) ((wq (Qc (zl (i:=0) rfl))).trans ?_)).trans (qQ rfl);show yd (yB (zr t) (t.map zj).length) _ (t.map zj).length 0 _ _=_;have hlen:(t.map zj).length=t.length:=af ..;rw[hlen]at e ⊢;exact e
def EM (h:qa t)(A:Hx):Wu [zr t] A=.ok (.bl true) A:=by
 have f:=HA h;have c:t.flatten≠[]:=by
  intro e;have q:=h.n1;have b:=h.sq _ (yy (t:=t) (a:=0) (by omega))
  have:t.getD 0 []=[]:=by
   have:=List.flatten_eq_nil_iff.mp e _ (yy (t:=t) (a:=0) (by omega))
   exact this
  rw[this]at b;simp at b;omega
 obtain⟨v0,l,E⟩:=List.exists_cons_of_ne_nil c;refine kf (A1:=[.lst (t.flatten.map W.int)]) (Z5 t) rfl (qS ?_);unfold Vi;refine(zG (qB (kY (E6 (zl rfl) (by unfold zT;omega))))).trans (qQ (jc ?_))
 generalize m:[O.lst (t.flatten.map W.int)]=B;have s:z0 (.ref 0) B=some (t.flatten.map W.int):=by rw[<- m];rfl
 have em:mQ yf (qi zt) [some (zr t),some (.ref 0)] B=.ok (.int (jV l v0)) B:=by
  rw[jJ (kD (w:=.ref 0) (A1:=B) (zl rfl) s)];unfold yf;rw[QW,E]
 have H:jV l v0∈t.flatten:=by
  rw[E];rcases Gx l v0 with e|e
  ·rw[e];exact av ..
  ·exact au _ e
 have d:0<=jV l v0/\jV l v0<8:=by
  obtain⟨r,b,v⟩:=List.mem_flatten.mp H
  have:=h.lo r b _ v
  have:=h.n8
  omega
 generalize jV l v0=M at em H d;obtain⟨K,rfl⟩:=aU d.1;have o:=wR (cap:=[1]) (me:=zi Jv zm zt) (ρ:=[some (zr t),some (.ref 0)]) (A:=B) (N:=K) (j:=yR 0 K) (item:=λi=>.int (0+i)) (g:=λ_=>.bl true)
  ((Qg em (by unfold q9;simp;omega)).trans (by rw[aE])) rfl (by unfold zT;omega) (λi hi=>wD hi) (wA (by omega))
  (λi hi=>by
   refine(zK (zl (i:=0) (w:=.int (0+i)) rfl) (zl (i:=1) (w:=.ref 0) rfl)).trans ?_;show gO false _ _ _=_;unfold gO;rw[s];dsimp only;have hf:(kH (.int (0+(i:Int)))&&(t.flatten.map W.int).all kH)=true:=by
    have:(t.flatten.map W.int).all kH=true:=cc.mpr λw hw=>by obtain⟨x,_,rfl⟩:=b7.mp hw;rfl
    rw[this];rfl
   rw[ah hf];have n:gU (.int (0+(i:Int))) (t.flatten.map W.int)=true:=by
    unfold gU;refine List.any_eq_true.mpr ⟨.int i,b7.mpr ⟨(i:Int),h.fu i ⟨_,H,by omega⟩,rfl⟩,?_⟩
    show((i:Int)==0+(i:Int))=true;rw[zero_add];exact bJ _
   rw[n]
   rfl)
 refine(jJ o).trans ?_;exact Ki (p:=λ_=>true) λ_ _=>rfl
def EU (h:qa t)(A:Hx):JJ [zr t] A=.ok (.bl true) A:=by
 have n1:=h.n1;have n8:=h.n8;unfold JJ W9;refine qS ?_;unfold UW;have e:∀ρ:En,mQ qR (qi (qx 0)) (some (zr t)::ρ) A=.ok (.int t.length) A:=λρ=>by
  rw[jJ (kD (w:=zr t) (A1:=A) (zl rfl) rfl)];unfold qR;rw[af]
 refine(zG (ρ1:=[some (zr t),none]) (A1:=A) ((js (A1:=A) ?_).trans rfl)).trans ?_
 ·refine(Zg (A1:=A) rfl).trans ?_
  refine wz (k:=true) ?_;show jZ jR jR (z7 (.int 1)) (mQ qR (qi (qx 0))) (z7 (.int 8)) [some (zr t),none] A=_;unfold jZ;rw[qh,zM,e,zM];show R.bind (R.ok (W.bl (decide ((1:Int)<=t.length))) A) _=_;rw[ay (by omega),zM]
  dsimp only;rw[qh,zM];show R.ok (W.bl (decide ((t.length:Int)<=8))) A=_;rw[ay (by omega)]
 refine(zG (qB (e _))).trans ?_;have E:=ZI (cap:=[1]) (A:=A) (ρ:=[some (zr t),some (.int t.length)]) (ws:=t.map zj) (me:=zA JA (zc (qx 0) (zc (qx 1) (zc (qx 1) zq)))) (g:=λ_=>.bl true) (zl (i:=0) rfl) (by rw[af];unfold zT;omega) (λw hw=>by
  obtain⟨r,H,rfl⟩:=b7.mp hw;have l:=h.sq r H;refine(zW (ws:=[zj r,.int t.length,.int t.length]) (A1:=A) rfl).trans ?_;rw[<- l];exact Ed (by omega) (λv a=>by have:=h.lo r H v a;omega) A)
 refine(zG (ρ1:=[some (zr t),some (.int t.length)]) (A1:=A) ((js (A1:=A) (wz (k:=true) ((jJ E).trans (Ki (p:=λ_=>true) λ_ _=>rfl)))).trans rfl)).trans (qQ (jc ?_));refine(kG (A1:=A) ((zW (ws:=[zr t]) (A1:=A) rfl).trans (D5 h A))).trans ?_;exact(zW (ws:=[zr t]) (A1:=A) rfl).trans (EM h A)
end G
namespace Mi
open PySem L2
theorem YO:∀(l m:bO),PyData.eqvAll (l.map PyData.int) (m.map PyData.int)=decide (l=m)
 |[],[]=>by simp[PyData.eqvAll]|[],_::_=>by simp[PyData.eqvAll]|_::_,[]=>by simp[PyData.eqvAll]|a::l,b::m=>by
  simp only[aQ,PyData.eqvAll,YO l m,PyData.eqv];rw[Bool.eq_iff_iff];simp
theorem TH:∀l:bO,jW (qd A n) (l.map W.int)=some (l.map PyData.int)
 |[]=>rfl|i::l=>by
  have:qd A n (.int i)=some (.int i):=by cases n<;>rfl
  show(match qd A n (.int i),jW (qd A n) (l.map W.int) with|some d,some ds=>some (d::ds)|_,_=>none)=_
  rw[this,TH l]
  rfl
def Xm {r:Nat}{l:bO}(h:A[r]? =some (.lst (l.map W.int))):qd A 8 (.ref r)=some (.list (l.map PyData.int)):=by
 show(match z0 (.ref r) A with|some ws=>(jW (qd A 7) ws).map PyData.list|none=>none)=_
 have:z0 (.ref r) A=some (l.map W.int):=by unfold z0;dsimp only;rw[h]
 rw[this];dsimp only;rw[TH]
 rfl
structure Kn (n:Nat)(A B:Hx):Prop where
 kp:Kp n A B
 st:G.jd n B
def _root_.G.jd.lt (h:G.jd n A):n<A.length:=by
 obtain⟨c,b,e,_⟩:=h;exact gY e
def _root_.G.jd.ext {B:Hx}(h:G.jd n A)(x:Ext A B):G.jd n B:=by
 obtain⟨c,b,e,r⟩:=h;exact⟨c,b,x.at e,r⟩
def _root_.G.jd.put {k:Nat}(h:G.jd n A)(H:k≠n):G.jd n (A.set k o):=by
 obtain⟨c,b,e,r⟩:=h;exact⟨c,b,by rw[aN H];exact e,r⟩
theorem Kn.trans {B C:Hx}(a:Kn n A B)(b:Kn n B C):Kn n A C:=⟨a.kp.trans b.kp,b.st⟩
theorem Kn.ext {B:Hx}(s:G.jd n A)(x:Ext A B):Kn n A B:=⟨Kp.ext x,s.ext x⟩
end Mi
namespace G
open PySem L2 Mi
def Kl (h:jd n A){m:Int}(c:0<m)(H:m<1000000000000000):∃(r:Nat) (B:Hx),jT [.ref n,.int m] A=.ok (.int r) B/\(r:Int)<m/\Kn n A B/\B.length=A.length:=by
 obtain⟨r,o,e,a,b,s⟩:=Pf h c H;exact⟨r.toNat,A.set n o,by rw[e,Int.toNat_of_nonneg a],by omega,⟨Kp.set,s⟩,length_set ..⟩
def Dg {m:Int}(h:jd n A)(h0:ρ[0]? =some (some (.ref n)))(hm:me ρ A=.ok (.int m) A)(b:0<m)(H:m<1000000000000000):∃(r:Nat) (B:Hx),zA jT (zc zm (zc me zq)) ρ A=.ok (.int r) B/\(r:Int)<m/\Kn n A B/\B.length=A.length:=by
 obtain⟨r,B,e,a⟩:=Kl h b H;exact⟨r,B,(zW (zy (zl h0) (zy hm zP))).trans e,a⟩
section
variable {B:Hx}
def El (hi:i<t.length):(B++(t.map λr=>O.lst (r.map W.int))++[O.lst ((List.range t.length).map λi=>W.ref (B.length+i))])[B.length+i]? =some (.lst ((t.getD i []).map W.int)):=by
 rw[ai (by simp;omega),az (by omega),show B.length+i-B.length=i by omega,ao,ab,aa hi]
 rfl
def Hj:(B++(t.map λr=>O.lst (r.map W.int))++[O.lst ((List.range t.length).map λi=>W.ref (B.length+i))])[B.length+t.length]? =some (.lst ((List.range t.length).map λi=>W.ref (B.length+i))):=by
 have:B.length+t.length=(B++(t.map λr=>O.lst (r.map W.int))).length:=by simp
 rw[this,jx]
end
def Yu {r s:Nat}{l m:bO}(h:A[r]? =some (.lst (l.map W.int)))(H:A[s]? =some (.lst (m.map W.int))):qj (.ref r) (.ref s) A=.ok (.bl (!decide (l=m))) A:=by
 show yV true _ _ A=_;unfold yV;rw[Xm h,Xm H];dsimp only;rw[PyData.eqv,YO]
 rfl
section
variable {p f:Nat}
def FG {x:Option W}(Y:A.length<=p)(hf:A.length<=f)(hn:n<A.length)(h:p≠f):∀(k fu:Nat)(l fd:bO)(B:Hx),l.length=k->k<fu->fd.length+l.length<=100->Kn n A B->B[p]? =some (.lst (l.map W.int))->B[f]? =some (.lst (fd.map W.int))->
  ∃(r:Hx) (b:bO),k7 (zi qj zJ (qW zq)) (zp (jS (ko wY zU (ko gG zJ (zA jT (zc zm (zc (mQ qR (qi zJ)) zq)))))) zw) fu [some (.ref n),x,some (.ref p),some (.ref f)] B=.ok (.nx [some (.ref n),x,some (.ref p),some (.ref f)]) r/\Kn n A r/\r[f]? =some (.lst (b.map W.int))/\b.Perm (fd++l):=by
 intro k
 induction k with
 |zero=>
  intro fu l fd B H D _ d t J;obtain⟨fu,rfl⟩:∃M,fu=M+1:=⟨fu-1,by omega⟩
  have:l=[]:=List.length_eq_zero_iff.mp H
  subst this;refine⟨B++[.lst []],fd,?_,d.trans (Kn.ext d.st Ext.one),yz J,by simp⟩
  unfold k7;have v:zi qj zJ (qW zq) [some (.ref n),x,some (.ref p),some (.ref f)] B=.ok (.bl false) (B++[.lst []]):=(zK (zl (i:=2) rfl) (wB zP)).trans (Yu (l:=[]) (m:=[]) (yz t) jx);rw[v,zM]
 |succ k U=>
  intro fu l fd B H D Z d t J;obtain⟨fu,rfl⟩:∃M,fu=M+1:=⟨fu-1,by omega⟩
  have v:zi qj zJ (qW zq) [some (.ref n),x,some (.ref p),some (.ref f)] B=.ok (.bl true) (B++[.lst []]):=by
   refine(zK (zl (i:=2) rfl) (wB zP)).trans ((Yu (m:=[]) (yz t) jx).trans ?_);have C:l≠[]:=λe=>by rw[e]at H;cases H
   rw[aC C]
   rfl
  have K:=d.trans (Kn.ext d.st (Ext.one (o:=.lst [])));have g1:=yz (u:=.lst []) t;have g2:=yz (u:=.lst []) J;generalize B++[O.lst []]=N at v K g1 g2;have E:mQ qR (qi zJ) [some (.ref n),x,some (.ref p),some (.ref f)] N=.ok (.int (l.length:Int)) N:=by
   rw[jJ (kD (w:=.ref p) (A1:=N) (ws:=l.map W.int) (zl rfl) (by unfold z0;dsimp only;rw[g1]))]
   unfold qR;rw[af]
  obtain⟨q,S,e1,X,s,_⟩:=Dg (ρ:=[some (.ref n),x,some (.ref p),some (.ref f)]) K.st rfl E (by omega) (by omega)
  have z:q<l.length:=by omega
  have j:=s.kp.get g1 (by omega)
  have L:=s.kp.get g2 (by omega)
  have hw:(l.map W.int)[q]? =some (.int l[q]):=by rw[ao,aa z];rfl
  have Q:=(Gy (g:=gG) (a:=qx 2) (zl rfl) g1 e1).trans (LB j hw (by omega))
  rw[Td]at Q;have c:(S.set p (.lst ((l.eraseIdx q).map W.int)))[f]? =some (.lst (fd.map W.int)):=by rw[aN h];exact L
  have P:=(Gy (g:=wY) (a:=qx 3) (zl rfl) g2 Q).trans (Lq c (by rw[af];omega))
  have I:fd.map W.int++[.int l[q]]=(fd++[l[q]]).map W.int:=by rw[aG];rfl
  rw[I]at P;have hlen:(l.eraseIdx q).length=k:=by rw[List.length_eraseIdx_of_lt z];omega
  have y:Kn n A ((S.set p (.lst ((l.eraseIdx q).map W.int))).set f (.lst ((fd++[l[q]]).map W.int))):=⟨((K.trans s).kp.put Y).put hf,((s.st).put (by omega)).put (by omega)⟩
  obtain⟨r,b,e4,s4,a4,T⟩:=U fu (l.eraseIdx q) (fd++[l[q]]) _ hlen (by omega) (by rw[aw,ba];omega) y
   (by rw[aN (Ne.symm h),aM (gY j)]) (by rw[aM (gY c)])
  refine⟨r,b,?_,s4,a4,T.trans ?_⟩
  ·unfold k7
   rw[v,zM];dsimp only;have eb:=(zG (m2:=zw) (yH P)).trans qG;rw[eb,zM];exact e4
  ·rw[aO]
   exact List.Perm.append_left fd (UY (aa z)).symm
def Su {q:Nat}{l:bO}(s:jd n A)(h:A[q]? =some (.lst (l.map W.int)))(H:l.length<=100):∃(r:Nat) (B:Hx) (fd:bO),QN [.ref n,.ref q] A=.ok (.ref r) B/\B[r]? =some (.lst (fd.map W.int))/\fd.Perm l/\Kn n A B/\A.length<=r:=by
 unfold QN WB;unfold VH;have a:qv (qi zt) [some (.ref n),some (.ref q),none,none] A=.ok (.ref A.length) (A++[.lst (l.map W.int)]):=kY (kD (w:=.ref q) (zl rfl) (by unfold z0;dsimp only;rw[h]))
 have x0:Ext A (A++[.lst (l.map W.int)]++[.lst []]):=Ext.one.app;have hlen:(A++[O.lst (l.map W.int)]).length=A.length+1:=by simp
 have a2:(A++[.lst (l.map W.int)]++[.lst []])[A.length+1]? =some (.lst (([]:bO).map W.int)):=by rw[<- hlen];exact jx
 obtain⟨B,fd,E,K,e,P⟩:=FG (A:=A) (p:=A.length) (f:=A.length+1) (x:=some (.ref q)) (aj _) (by omega) s.lt (by omega) l.length 1000 l [] _ rfl (by omega) (by simp;omega) (Kn.ext s x0) (yz jx) a2
 refine⟨A.length+1,B,fd,qS ?_,e,by simpa using P,K,by omega⟩
 refine(zG ((qB a).trans rfl)).trans ((zG (ρ1:=[some (.ref n),some (.ref q),some (.ref A.length),some (.ref (A.length+1))]) (A1:=A++[.lst (l.map W.int)]++[.lst []]) ?_).trans ((zG (m1:=J5 1000 _ _) E).trans (qQ (jc (zl rfl)))));refine(qB (wB zP)).trans ?_;rw[hlen]
 rfl
end
noncomputable def dist (t:bN):bS:=(List.range 8).filter λi=>decide ((i:Int)∈t.flatten)
def Ys (t:bN)(v:Int):Int:=((dist t).idxOf v.toNat:Nat)
def kh (t:bN):bN:=t.map λr=>r.map (Ys t)
def Fz:i∈dist t↔i<8/\(i:Int)∈t.flatten:=by
 unfold dist;rw[List.mem_filter,List.mem_range,ag]
theorem Te:∀{l:bO},(∀v∈l,0<=v/\v<8)->ZP l=some (l.map Int.toNat)
 |[],_=>rfl|v::l,h=>by
  unfold ZP;rw[ah (h v (av ..)),Te λx H=>h x (au _ H)]
  rfl
theorem Tw:∀{kws:List (Nat×List W)},(∀p∈kws,A[p.1]? =some (.lst p.2))->wC A (kws.map λ(p:Nat×List W)=>W.ref p.1)=some (kws.map (·.2))
 |[],_=>rfl|p::kws,h=>by
  show(match A[p.1]? with|some (.lst ws)=>(wC A (kws.map λ(p:Nat×List W)=>W.ref p.1)).map (ws::·)|_=>none)=_
  rw[h p (av ..)];dsimp only;rw[Tw λx H=>h x (au _ H)]
  rfl
theorem Ry (v:Nat):∀{l:bS},v∈l->gJ (λz=>PyData.eqv z (.int (v:Int))) (l.map λ(i:Nat)=>PyData.int (i:Int))=some (l.idxOf v)
 |[],h=>by cases h|a::l,h=>by
  rw[aQ,gJ,List.idxOf_cons]
  have:PyData.eqv (.int (a:Int)) (.int (v:Int))=(a==v):=by
   rw[PyData.eqv,Bool.eq_iff_iff];simp;omega
  rw[this]
  by_cases q:a=v
  ·subst q
   simp
  ·have Q:(a==v)=false:=by simp[q]
   rw[Q,aq (by simp)]
   rw[Ry v ((b9.mp h).resolve_left (Ne.symm q))]
   rfl
def LL (t:bN)(r:Nat)(B:Hx):Prop:=∃ks:bS,B[r]? =some (.lst (ks.map W.ref))/\ks.length=t.length/\∀i,i<t.length->B[ks.getD i 0]? =some (.lst ((t.getD i []).map W.int))
def Y5 {k:Nat}(h:m ρ A=.ok (.ref k) A)(H:A[k]? =some (.lst ws))(l:ws.length<=zT){g:W->W}(he:∀w∈ws,me (some w::cap.map λi=>(ρ[i]?).join) A=.ok (g w) A):
  zN 1 cap (zY m) (zE 0) zQ (zH me) ρ A=.ok (ws.map g) A:=by
 have e:=wR (cap:=cap) (me:=me) (ρ:=ρ) (A:=A) (N:=ws.length) (item:=λi=>ws.getD i .non) (g:=λi=>g (ws.getD i .non)) (gZ h H) rfl l
  (λi hi=>(ZQ H).trans (by rw[aa hi,ab,aa hi];rfl))
  ((ZQ H).trans (by rw[aB (aj _)]))
  (λi hi=>by
   have:ws.getD i .non=ws[i]:=by rw[ab,aa hi];rfl
   rw[this];exact he _ (aK hi))
 rw[e]
 congr 1
 apply bL
 ·simp
 ·intro i b a
  have hi:i<ws.length:=by simpa using a
  simp[ab,aa hi]
noncomputable def Oq (f:Int->Int):W->W
 |.int v=>.int (f v)|w=>w
def FZ (f:Int->Int)(l:bO):(l.map W.int).map (Oq f)=(l.map f).map W.int:=by
 rw[aL,aL];rfl
section
variable {r:Nat}
def LI {B:Hx}(l:t.length<=8)(L:LL t r B)(h0:ρ[i]? =some (some (.ref r))):qv (zN 1 [] (zY (qx i)) (zE 0) zQ (zH (qv (qi zm)))) ρ B=
  .ok (.ref (B.length+t.length)) (B++(t.map λr=>O.lst (r.map W.int))++[O.lst ((List.range t.length).map λi=>W.ref (B.length+i))]):=by
 obtain⟨ks,E,d,g⟩:=L;obtain⟨b,f,m,e,⟨z,g1⟩,g2,g3⟩:=wU (nl:=1) (cap:=[]) (tw:=zE 0) (ifs:=z7 (.bl true)) (em:=zH (qv (qi zm))) (ρ:=ρ) (A:=B) (N:=t.length)
  (I:=λp b a C=>(∃z,b=[z])/\C=B++((t.take p).map λr=>O.lst (r.map W.int))/\a=(List.range p).map λi=>W.ref (B.length+i)) (gZ (zl h0) E) (by simp[d])
  (λp b a C H ⟨⟨z,f1⟩,f2,j⟩=>by
   subst f1 f2 j;have x:Ext B (B++((t.take p).map λr=>O.lst (r.map W.int))):=⟨_,rfl⟩;have h:=x.at (g p H);have c:t.getD p []=t[p]:=by rw[ab,aa H];rfl
   rw[c]at h;refine⟨.ref (ks.getD p 0),[some (.ref (ks.getD p 0))],?_,rfl,.inl ⟨_,_,_,_,rfl,wV (kY (kD (w:=.ref (ks.getD p 0)) (ws:=t[p].map W.int) (zl rfl) (by unfold z0;dsimp only;rw[h]))) ?_,⟨_,rfl⟩,?_,?_⟩⟩
   ·refine(ZQ (x.at E)).trans ?_
    rw[ao,ab,aa (by omega)];rfl
   ·simp;unfold zT;omega
   ·rw[take_succ H,aG,aO];rfl
   ·rw[bb,aG,aw,af,a8,Nat.min_eq_left (bD H)];rfl)
  (λb a C ⟨_,f2,_⟩=>by
   subst f2;exact(ZQ (Ext.at ⟨_,rfl⟩ E)).trans (by rw[aB (by simp[d])])) ⟨⟨none,rfl⟩,by simp,by simp⟩
 rw[kY e,g2,g3,bw];simp
def LL.mono {B:Hx}(x:Ext A B)(h:LL t r A):LL t r B:=by
 obtain⟨ks,e,a,H⟩:=h;exact⟨ks,x.at e,a,λi hi=>x.at (H i hi)⟩
def FT (Y:1<=t.length)(I:t.length<=8)(D:Sq t)(s:∀v∈t.flatten,0<=v/\v<8)(L:LL t r A):∃B,YG [.ref r] A=.ok (zr (kh t)) B/\Ext A B:=by
 have X:t.flatten.length<=64:=by
  have:∀l:bN,(∀r∈l,r.length<=8)->l.flatten.length<=8 * l.length:=by
   intro l
   induction l with
   |nil=>intro _;simp|cons r l S=>
    intro e;have Y:=e r (av ..);have h2:=S λQ x=>e Q (au _ x);rw[aZ,aw,aS];omega
  have:=this t λr e=>by rw[D r e];exact I
  omega
 unfold YG W3;unfold Uj;have P:=LI (ρ:=[some (.ref r),none]) (i:=0) I L rfl;have x1:Ext A (A++(t.map λr=>O.lst (r.map W.int))++[O.lst ((List.range t.length).map λi=>W.ref (A.length+i))]):=⟨(t.map λr=>O.lst (r.map W.int))++[O.lst ((List.range t.length).map λi=>W.ref (A.length+i))],by rw[aO]⟩
 have a:∀i,i<t.length->_:=λi hi=>El (B:=A) (t:=t) (i:=i) hi;have H:=Hj (B:=A) (t:=t);generalize A++(t.map λr=>O.lst (r.map W.int))++[O.lst ((List.range t.length).map λi=>W.ref (A.length+i))]=b at P x1 a H;have M:zi Zh (qv (zN 1 [] (zY zm) (zE 0) zQ (zH (qv (qi zm))))) (qW zq) [some (.ref r),none] A=.ok (.ref (b.length+1)) (b++[.lst []]++[.lst (t.flatten.map W.int)]):=by
  refine(zK P (wB zP)).trans ?_;have o:=Tw (A:=b++[.lst []]) (kws:=(List.range t.length).map λi=>(A.length+i,(t.getD i []).map W.int)) (λp T=>by
   obtain⟨i,hi,rfl⟩:=b7.mp T;exact yz (a i (b6.mp hi)))
  rw[aL,aL]at o;have C:((λp:Nat×List W=>W.ref p.1) ∘ λi=>(A.length+i,(t.getD i []).map W.int))=λi=>W.ref (A.length+i):=rfl;have y:((λp:Nat×List W=>p.2) ∘ λi=>(A.length+i,(t.getD i []).map W.int))=λi=>(t.getD i []).map W.int:=rfl;rw[C,y,<- QQ t [] λr=>r.map W.int]at o;have hf:(t.map λr=>r.map W.int).flatten=t.flatten.map W.int:=by rw[List.map_flatten]
  unfold Zh;dsimp only;rw[yz H,jx];dsimp only;rw[o];dsimp only;rw[ah ⟨λz=>(by have:=congrArg List.length z;rw[af,aF]at this;exact absurd this (by rw[length_nil];omega)),by rw[hf,af];unfold zT;omega⟩,hf]
  simp
 have x2:Ext A (b++[.lst []]++[.lst (t.flatten.map W.int)]):=x1.app.app;have f:(b++[.lst []]++[.lst (t.flatten.map W.int)])[b.length+1]? =some (.lst (t.flatten.map W.int)):=by
  have:b.length+1=(b++[O.lst []]).length:=by simp
  rw[this,jx]
 generalize b++[.lst []]++[.lst (t.flatten.map W.int)]=c at M x2 f;have J:Y1 (zi Zh (qv (zN 1 [] (zY zm) (zE 0) zQ (zH (qv (qi zm))))) (qW zq)) [some (.ref r),none] A=.ok (.ref c.length) (c++[.lst (((dist t).map λ(i:Nat)=>(i:Int)).map W.int)]):=by
  unfold Y1;rw[M,zM];unfold Gw;dsimp only;rw[f];dsimp only;rw[QW];dsimp only;rw[Te s];dsimp only
  have:((List.range 8).filter λi=>decide (i∈t.flatten.map Int.toNat))=dist t:=by
   unfold dist
   apply List.filter_congr
   intro i _;rw[decide_eq_decide]
   constructor
   ·intro z
    obtain⟨v,h,rfl⟩:=b7.mp z;rw[Int.toNat_of_nonneg (s v h).1];exact h
   ·intro z
    exact b7.mpr ⟨_,z,rfl⟩
  rw[this,aL]
  rfl
 have x3:=x2.app (l:=[.lst (((dist t).map λ(i:Nat)=>(i:Int)).map W.int)]);have d:(c++[.lst (((dist t).map λ(i:Nat)=>(i:Int)).map W.int)])[c.length]? =some (.lst (((dist t).map λ(i:Nat)=>(i:Int)).map W.int)):=jx;generalize c++[.lst (((dist t).map λ(i:Nat)=>(i:Int)).map W.int)]=n at J x3 d;obtain⟨ks,K,E,e⟩:=LL.mono x3 L;refine⟨n,qS ((zG ((qB J).trans rfl)).trans (qQ (jc ?_))),x3⟩;have idx:∀v,v∈t.flatten->gF (.ref c.length) (.int v) n=.ok (.int (Ys t v)) n:=λv h=>by
  obtain⟨u,rfl⟩:=aU (s v h).1;have hm:u∈dist t:=Fz.mpr ⟨by have:=s _ h;omega,h⟩
  unfold gF;rw[Xm d];show(match gJ (λz=>PyData.eqv z (.int (u:Int))) (((dist t).map λ(i:Nat)=>(i:Int)).map PyData.int) with|some j=>if j<1000000 then R.ok (W.int (j:Int)) n else .bad|none=>.bad)=_
  have:((dist t).map λ(i:Nat)=>(i:Int)).map PyData.int=(dist t).map λ(i:Nat)=>PyData.int (i:Int):=by rw[aL];rfl
  rw[this,Ry u hm];dsimp only;have o:(dist t).idxOf u<(dist t).length:=List.idxOf_lt_length_of_mem hm;have U:(dist t).length<=8:=by unfold dist;exact bf (bC _ _) (by simp)
  rw[ah (by omega)]
  rfl
 have Z:=wR (cap:=[1]) (me:=mQ j4 (zN 1 [1] (zY zm) (zE 0) zQ (zH (ko gF zt zm)))) (ρ:=[some (.ref r),some (.ref c.length)]) (A:=n) (N:=t.length) (item:=λi=>.ref (ks.getD i 0)) (g:=λi=>zj ((t.getD i []).map (Ys t))) (gZ (zl (i:=0) rfl) K) (by simp[E]) (by unfold zT;omega)
  (λj q=>(ZQ K).trans (by rw[ao,ab,aa (by omega)];rfl)) ((ZQ K).trans (by rw[aB (by simp[E])]))
  (λj q=>by
   have:=Y5 (cap:=[1]) (m:=qx 0) (me:=ko gF zt zm) (ρ:=[some (.ref (ks.getD j 0)),some (.ref c.length)]) (g:=Oq (Ys t)) (zl rfl) (e j q) (by rw[af,D _ (yy q)];unfold zT;omega) (λw hw=>by
    obtain⟨v,h,rfl⟩:=b7.mp hw;exact(Gy (g:=gF) (zl rfl) d (zl (i:=0) rfl)).trans (idx v (List.mem_flatten.mpr ⟨_,yy q,h⟩)))
   rw[FZ]at this;exact gE this)
 refine(gE Z).trans ?_;unfold zr kh;rw[aL,QQ t [] (zj ∘ λr=>r.map (Ys t))]
 rfl
end
noncomputable def j9:Nat->List (bO)
 |0=>[[0,1,2,3,4,3,2,1],[1,0,1,2,3,4,3,2],[2,1,0,1,2,3,4,3],[3,2,1,0,1,2,3,4],[4,3,2,1,0,1,2,3],[3,4,3,2,1,0,1,2],[2,3,4,3,2,1,0,1],[1,2,3,4,3,2,1,0]]|1=>[[0,1,2,3,3,2,1],[1,0,1,2,3,3,2],[2,1,0,1,2,3,3],[3,2,1,0,1,2,3],[3,3,2,1,0,1,2],[2,3,3,2,1,0,1],[1,2,3,3,2,1,0]]|2=>[[0,1,2,3,2,1],[1,0,1,2,3,2],[2,1,0,1,2,3],[3,2,1,0,1,2],[2,3,2,1,0,1],[1,2,3,2,1,0]]|3=>[[0,1,2,2,1],[1,0,1,2,2],[2,1,0,1,2],[2,2,1,0,1],[1,2,2,1,0]]|4=>[[0,1,2,1],[1,0,1,2],[2,1,0,1],[1,2,1,0]]|5=>[[0,1,1],[1,0,1],[1,1,0]]|6=>[[0,1],[1,0]]|7=>[[0]]|8=>[[0,1,1,2,1,2,2,3],[1,0,2,1,2,1,3,2],[1,2,0,1,2,3,1,2],[2,1,1,0,3,2,2,1],[1,2,2,3,0,1,1,2],[2,1,3,2,1,0,2,1],[2,3,1,2,1,2,0,1],[3,2,2,1,2,1,1,0]]|9=>[[0,1,1,2],[1,0,2,1],[1,2,0,1],[2,1,1,0]]|10=>[[0,1],[1,0]]|11=>[[0,1,1,1,1,1,1,1],[1,0,1,1,1,1,1,1],[1,1,0,1,1,1,1,1],[1,1,1,0,1,1,1,1],[1,1,1,1,0,1,1,1],[1,1,1,1,1,0,1,1],[1,1,1,1,1,1,0,1],[1,1,1,1,1,1,1,0]]|12=>[[0,1,1,1,1,1,1],[1,0,1,1,1,1,1],[1,1,0,1,1,1,1],[1,1,1,0,1,1,1],[1,1,1,1,0,1,1],[1,1,1,1,1,0,1],[1,1,1,1,1,1,0]]|13=>[[0,1,1,1,1,1],[1,0,1,1,1,1],[1,1,0,1,1,1],[1,1,1,0,1,1],[1,1,1,1,0,1],[1,1,1,1,1,0]]|14=>[[0,1,1,1,1],[1,0,1,1,1],[1,1,0,1,1],[1,1,1,0,1],[1,1,1,1,0]]|15=>[[0,1,1,1],[1,0,1,1],[1,1,0,1],[1,1,1,0]]|16=>[[0,1,1],[1,0,1],[1,1,0]]|17=>[[0,1],[1,0]]|18=>[[0]]|19=>[[0,1,2,2,2,2,2,2],[1,0,2,2,2,2,2,2],[2,2,0,1,2,2,2,2],[2,2,1,0,2,2,2,2],[2,2,2,2,0,1,2,2],[2,2,2,2,1,0,2,2],[2,2,2,2,2,2,0,1],[2,2,2,2,2,2,1,0]]|20=>[[0,1,1,1,2,2,2,2],[1,0,1,1,2,2,2,2],[1,1,0,1,2,2,2,2],[1,1,1,0,2,2,2,2],[2,2,2,2,0,1,1,1],[2,2,2,2,1,0,1,1],[2,2,2,2,1,1,0,1],[2,2,2,2,1,1,1,0]]|21=>[[0,1,2,2,2,2],[1,0,2,2,2,2],[2,2,0,1,2,2],[2,2,1,0,2,2],[2,2,2,2,0,1],[2,2,2,2,1,0]]|22=>[[0,1,1,2,2,2],[1,0,1,2,2,2],[1,1,0,2,2,2],[2,2,2,0,1,1],[2,2,2,1,0,1],[2,2,2,1,1,0]]|23=>[[0,1,2,2],[1,0,2,2],[2,2,0,1],[2,2,1,0]]|24=>[[0,1,1,1,1,2],[1,0,1,1,2,1],[1,1,0,2,1,1],[1,1,2,0,1,1],[1,2,1,1,0,1],[2,1,1,1,1,0]]|25=>[[0,1,2,3],[1,0,3,2],[2,3,0,1],[3,2,1,0]]|26=>[[0,1,2,3,4,5,6,7],[1,0,3,2,5,4,7,6],[2,3,0,1,6,7,4,5],[3,2,1,0,7,6,5,4],[4,5,6,7,0,1,2,3],[5,4,7,6,1,0,3,2],[6,7,4,5,2,3,0,1],[7,6,5,4,3,2,1,0]]|27=>[[0,1],[1,0]]|28=>[[0,1,2,1,3,4,5,4],[1,0,1,2,4,3,4,5],[2,1,0,1,5,4,3,4],[1,2,1,0,4,5,4,3],[3,4,5,4,0,1,2,1],[4,3,4,5,1,0,1,2],[5,4,3,4,2,1,0,1],[4,5,4,3,1,2,1,0]]|29=>[[0,1,1,3,4,4],[1,0,1,4,3,4],[1,1,0,4,4,3],[3,4,4,0,1,1],[4,3,4,1,0,1],[4,4,3,1,1,0]]|30=>[[0,1,3,4],[1,0,4,3],[3,4,0,1],[4,3,1,0]]|31=>[[0,1,2,1,3,3,3,3],[1,0,1,2,3,3,3,3],[2,1,0,1,3,3,3,3],[1,2,1,0,3,3,3,3],[3,3,3,3,0,1,2,1],[3,3,3,3,1,0,1,2],[3,3,3,3,2,1,0,1],[3,3,3,3,1,2,1,0]]|32=>[[0,1,1,3,3,3],[1,0,1,3,3,3],[1,1,0,3,3,3],[3,3,3,0,1,1],[3,3,3,1,0,1],[3,3,3,1,1,0]]|33=>[[0,1,3,3],[1,0,3,3],[3,3,0,1],[3,3,1,0]]|_=>[]
def CM:((List.range 34).all λi=>XI (kh (j9 i))&&((j9 i).all λr=>r.length==(j9 i).length)&&((j9 i).flatten.all λv=>decide (0<=v)&&decide (v<8)))=true:=by decide +kernel
def GK (h:i<34):qa (kh (j9 i))/\G.Sq (j9 i)/\∀v∈(j9 i).flatten,0<=v/\v<8:=by
 have:=cc.mp CM i (b6.mpr h)
 rw[ak,ak]at this;refine⟨Eu this.1.1,λr a=>?_,λv H=>?_⟩
 ·exact eq_of_beq (cc.mp this.1.2 r a)
 ·have:=cc.mp this.2 v H
  rw[ak,ag,ag]at this;exact this
theorem Rj:∀{us:List W}{w:List (List W)},wC A us=some w->∃ks:bS,us=ks.map W.ref/\ks.length=w.length/\∀i,i<w.length->A[ks.getD i 0]? =some (.lst (w.getD i []))
 |[],w,e=>by
  cases e;exact⟨[],rfl,rfl,λi hi=>by cases hi⟩
 |.ref k::us,w,e=>by
  unfold wC at e;cases h:A[k]? with
  |none=>rw[h]at e;cases e|some o=>
   rw[h]at e;cases o with
   |lst ws=>
    dsimp only at e;cases H:wC A us with
    |none=>rw[H]at e;cases e|some v=>
     rw[H]at e;cases e;obtain⟨ks,rfl,l,a⟩:=Rj H;refine⟨k::ks,rfl,by simp[l],λi hi=>?_⟩
     cases i with
     |zero=>exact h|succ i=>exact a i (by simpa using hi)
   |_=>cases e
 |.non::_,_,e=>by cases e|.bl _::_,_,e=>by cases e|.int _::_,_,e=>by cases e|.str _::_,_,e=>by cases e|.tup _::_,_,e=>by cases e|.clo _ _ _::_,_,e=>by cases e|.xc _::_,_,e=>by cases e
def XJ (x:R Fl):Option (Option O×Option (List (List W))):=match x with
 |.ok (.rt (.ref r)) B=>some (B[0]?,match B[r]? with
  |some (.lst us)=>wC B us|_=>none)
 |_=>none
def E5 {x:R Fl}(h:XJ x=some (some o,some (t.map λr=>r.map W.int))):∃r B,x=.ok (.rt (.ref r)) B/\B[0]? =some o/\LL t r B:=by
 unfold XJ at h
 split at h
 ·rename_i r B
  injection h with h
  injection h with c H
  cases a:B[r]? with
  |none=>rw[a]at H;cases H|some o'=>
   rw[a]at H;cases o' with
   |lst us=>
    dsimp only at H;obtain⟨ks,rfl,l,b⟩:=Rj H;rw[af]at l b;refine⟨r,B,rfl,c,ks,a,l,λi hi=>(b i hi).trans ?_⟩;rw[ab,ao,ab,aa hi]
    rfl
   |_=>cases H
 ·cases h
def Plain (X:Ex)(ρ:En)(A:Hx):Prop:=∃i,i<34/\∃r B,X ρ A=.ok (.rt (.ref r)) B/\jd 0 B/\LL (j9 i) r B
section
variable {m1 m2:Ex}{ρ1:En}{L:Hx}{c:Ev}
def wF (h:m1 ρ A=.ok (.nx ρ1) A1)(q:Plain m2 ρ1 A1):Plain (zp m1 m2) ρ A:=by
 unfold Plain;rw[zG h];exact q
def Jl (q:Plain m1 ρ A):Plain (zp m1 m2) ρ A:=by
 obtain⟨i,hi,r,B,e,s,l⟩:=q;exact⟨i,hi,r,B,qQ e,s,l⟩
def Jp (h:c ρ A=.ok (.bl true) A1)(q:Plain m1 ρ A1):Plain (qy c m1 m2) ρ A:=by
 unfold Plain;rw[ZV h];exact q
def jF {m:Ex}(h:c ρ A=.ok (.bl false) A)(q:Plain m ρ A):Plain (zp (qy c m1 zw) m) ρ A:=wF ((js h).trans qG) q
def Bh {l:Hx}(s:jd 0 (o::L)):jd 0 (o::l):=s
def ji (i:Nat)(hi:i<34)(s:jd 0 (o::L))(h:XJ (m1 ρ A)=some (some o,some ((j9 i).map λr=>r.map W.int))):Plain m1 ρ A:=by
 obtain⟨r,B,e,h0,l⟩:=E5 h;obtain⟨c,b,a,q⟩:=s;have E:some o=some (O.lst [.int c,.bl b]):=a;exact⟨i,hi,r,B,e,⟨c,b,by rw[h0];exact E,q⟩,l⟩
def take1 (s:jd 0 (o::L)){m:Int}(H:0<m)(h:m<1000000000000000):∃(r:Nat) (o':O),jT [.ref 0,.int m] (o::L)=.ok (.int (r:Int)) (o'::L)/\(r:Int)<m/\jd 0 (o'::L):=by
 obtain⟨r,o',e,a,b,S⟩:=Pf s H h;exact⟨r.toNat,o',by rw[e,Int.toNat_of_nonneg a];rfl,by omega,S⟩
def Q0 {a:Ea}{vs:List W}{k:Nat}(s:jd 0 (o::L))(h0:ρ[0]? =some (some (.ref 0)))(b:∀A,a ρ A=.ok vs A)(f:vs.length=k)(c:0<k)(K:k<1000):∃(j:Nat) (w:W) (o':O),zi zI (qW a) (zA jT (zc zm (zc (z7 (.int (k:Int))) zq))) ρ (o::L)=.ok w (o'::(L++[.lst vs]))/\j<k/\vs[j]? =some w/\jd 0 (o'::(L++[.lst vs])):=by
 obtain⟨r,o',e,d,S⟩:=take1 (L:=L++[.lst vs]) (m:=(k:Int)) (Bh s) (by omega) (by omega)
 have h:r<vs.length:=by omega
 refine⟨r,vs[r],o',?_,by omega,aa h,S⟩
 refine(zK (wB (b _)) ((zW (zy (zl h0) (zy qh zP))).trans e)).trans ?_;have H:(o'::(L++[O.lst vs]))[(o::L).length]? =some (.lst vs):=by
  show(L++[O.lst vs])[L.length]? =_;exact jx
 exact ZJ H (aa h)
end
def three {j:Nat}(h:j<3):j=0∨j=1∨j=2:=by omega
def XM {j:Nat}(h:j<5):j=0∨j=1∨j=2∨j=3∨j=4:=by omega
def Xr {j:Nat}(h:j<8):j=0∨j=1∨j=2∨j=3∨j=4∨j=5∨j=6∨j=7:=by omega
def Ee (s:jd 0 [o]):Plain (WZ jT) [some (.ref 0),none,none,none,none,none,none,none,none,none,none] [o]:=by
 unfold WZ;obtain⟨way,p,n,hw,s1⟩:=take1 s (m:=8) (by decide) (by decide)
 refine wF (ρ1:=[some (.ref 0),some (.int (way:Int)),none,none,none,none,none,none,none,none,none]) (A1:=[p]) ((qB ((zW (ws:=[.ref 0,.int 8]) (A1:=[o]) rfl).trans n)).trans rfl) ?_;obtain⟨j,w,c,E,l,f,s2⟩:=Q0 (k:=8) (ρ:=[some (.ref 0),some (.int (way:Int)),none,none,none,none,none,none,none,none,none]) (a:=zc gR (zc We (zc Yq (zc Z3 (zc j5 (zc jM (zc qY (zc qc zq)))))))) (vs:=[.int 8,.int 7,.int 6,.int 5,.int 4,.int 3,.int 2,.int 1]) s1 rfl (λ_=>rfl) rfl (by decide) (by decide)
 refine wF (ρ1:=[some (.ref 0),some (.int (way:Int)),some w,none,none,none,none,none,none,none,none]) (A1:=[c,.lst [.int 8,.int 7,.int 6,.int 5,.int 4,.int 3,.int 2,.int 1]]) ((qB E).trans rfl) ?_;have y:way<8:=by omega
 clear n E hw s s1;rcases Xr y with rfl|rfl|rfl|rfl|rfl|rfl|rfl|rfl
 ·refine Jl (Jp (A1:=[c,.lst [.int 8,.int 7,.int 6,.int 5,.int 4,.int 3,.int 2,.int 1]]) (by kernel_rfl) ?_)
  rcases Xr l with rfl|rfl|rfl|rfl|rfl|rfl|rfl|rfl<;>cases f
  ·exact ji 0 (by decide) s2 (by kernel_rfl)
  ·exact ji 1 (by decide) s2 (by kernel_rfl)
  ·exact ji 2 (by decide) s2 (by kernel_rfl)
  ·exact ji 3 (by decide) s2 (by kernel_rfl)
  ·exact ji 4 (by decide) s2 (by kernel_rfl)
  ·exact ji 5 (by decide) s2 (by kernel_rfl)
  ·exact ji 6 (by decide) s2 (by kernel_rfl)
  ·exact ji 7 (by decide) s2 (by kernel_rfl)
 ·refine jF (by kernel_rfl) (Jl (Jp (A1:=[c,.lst [.int 8,.int 7,.int 6,.int 5,.int 4,.int 3,.int 2,.int 1]]) (by kernel_rfl) ?_))
  obtain⟨J,g,i,e,b,H,s3⟩:=Q0 (k:=3) (ρ:=[some (.ref 0),some (.int ((1:Nat):Int)),some w,none,none,none,none,none,none,none,none]) (a:=zc gR (zc j5 (zc qY zq))) (vs:=[.int 8,.int 4,.int 2]) s2 rfl (λ_=>rfl) rfl (by decide) (by decide)
  refine wF ((qB e).trans rfl) ?_;rcases three b with rfl|rfl|rfl<;>cases H
  ·exact ji 8 (by decide) s3 (by kernel_rfl)
  ·exact ji 9 (by decide) s3 (by kernel_rfl)
  ·exact ji 10 (by decide) s3 (by kernel_rfl)
 ·refine jF (by kernel_rfl) (jF (by kernel_rfl) (Jl (Jp (A1:=[c,.lst [.int 8,.int 7,.int 6,.int 5,.int 4,.int 3,.int 2,.int 1]]) (by kernel_rfl) ?_)))
  rcases Xr l with rfl|rfl|rfl|rfl|rfl|rfl|rfl|rfl<;>cases f
  ·exact ji 11 (by decide) s2 (by kernel_rfl)
  ·exact ji 12 (by decide) s2 (by kernel_rfl)
  ·exact ji 13 (by decide) s2 (by kernel_rfl)
  ·exact ji 14 (by decide) s2 (by kernel_rfl)
  ·exact ji 15 (by decide) s2 (by kernel_rfl)
  ·exact ji 16 (by decide) s2 (by kernel_rfl)
  ·exact ji 17 (by decide) s2 (by kernel_rfl)
  ·exact ji 18 (by decide) s2 (by kernel_rfl)
 ·refine jF (by kernel_rfl) (jF (by kernel_rfl) (jF (by kernel_rfl) (Jl (Jp (A1:=[c,.lst [.int 8,.int 7,.int 6,.int 5,.int 4,.int 3,.int 2,.int 1]]) (by kernel_rfl) ?_))))
  obtain⟨J,g,i,e,b,H,s3⟩:=Q0 (k:=5) (ρ:=[some (.ref 0),some (.int ((3:Nat):Int)),some w,none,none,none,none,none,none,none,none]) (a:=zc (qz (zc qY (zc j5 zq))) (zc (qz (zc j5 (zc qY zq))) (zc (qz (zc qY (zc jM zq))) (zc (qz (zc jM (zc qY zq))) (zc (qz (zc qY (zc qY zq))) zq))))) (vs:=[.tup [.int 2,.int 4],.tup [.int 4,.int 2],.tup [.int 2,.int 3],.tup [.int 3,.int 2],.tup [.int 2,.int 2]]) s2 rfl (λ_=>rfl) rfl (by decide) (by decide)
  have asg:∀{m:Ev}{tw:Tg}{ρ d:En}{A A1:Hx}{w:W},m ρ A=.ok w A1->tw w ρ=some d->KR m tw ρ A=.ok (.nx d) A1:=λh h'=>by
   unfold KR;rw[h,zM,h']
  rcases XM b with rfl|rfl|rfl|rfl|rfl<;>cases H
  ·exact wF (asg e rfl) (ji 19 (by decide) s3 (by kernel_rfl))
  ·exact wF (asg e rfl) (ji 20 (by decide) s3 (by kernel_rfl))
  ·exact wF (asg e rfl) (ji 21 (by decide) s3 (by kernel_rfl))
  ·exact wF (asg e rfl) (ji 22 (by decide) s3 (by kernel_rfl))
  ·exact wF (asg e rfl) (ji 23 (by decide) s3 (by kernel_rfl))
 ·exact jF (by kernel_rfl) (jF (by kernel_rfl) (jF (by kernel_rfl) (jF (by kernel_rfl) (Jl (Jp (A1:=[c,.lst [.int 8,.int 7,.int 6,.int 5,.int 4,.int 3,.int 2,.int 1]]) (by kernel_rfl) (ji 24 (by decide) s2 (by kernel_rfl)))))))
 ·refine jF (by kernel_rfl) (jF (by kernel_rfl) (jF (by kernel_rfl) (jF (by kernel_rfl) (jF (by kernel_rfl) (Jl (Jp (A1:=[c,.lst [.int 8,.int 7,.int 6,.int 5,.int 4,.int 3,.int 2,.int 1]]) (by kernel_rfl) ?_))))))
  obtain⟨J,g,i,e,b,H,s3⟩:=Q0 (k:=3) (ρ:=[some (.ref 0),some (.int ((5:Nat):Int)),some w,none,none,none,none,none,none,none,none]) (a:=zc j5 (zc gR (zc qY zq))) (vs:=[.int 4,.int 8,.int 2]) s2 rfl (λ_=>rfl) rfl (by decide) (by decide)
  refine wF ((qB e).trans rfl) ?_;rcases three b with rfl|rfl|rfl<;>cases H
  ·exact ji 25 (by decide) s3 (by kernel_rfl)
  ·exact ji 26 (by decide) s3 (by kernel_rfl)
  ·exact ji 27 (by decide) s3 (by kernel_rfl)
 ·refine jF (by kernel_rfl) (jF (by kernel_rfl) (jF (by kernel_rfl) (jF (by kernel_rfl) (jF (by kernel_rfl) (jF (by kernel_rfl) ?_)))))
  obtain⟨J,g,i,e,b,H,s3⟩:=Q0 (k:=3) (ρ:=[some (.ref 0),some (.int ((6:Nat):Int)),some w,none,none,none,none,none,none,none,none]) (a:=zc j5 (zc jM (zc qY zq))) (vs:=[.int 4,.int 3,.int 2]) s2 rfl (λ_=>rfl) rfl (by decide) (by decide)
  refine wF ((qB e).trans rfl) ?_;rcases three b with rfl|rfl|rfl<;>cases H
  ·exact ji 28 (by decide) s3 (by kernel_rfl)
  ·exact ji 29 (by decide) s3 (by kernel_rfl)
  ·exact ji 30 (by decide) s3 (by kernel_rfl)
 ·refine jF (by kernel_rfl) (jF (by kernel_rfl) (jF (by kernel_rfl) (jF (by kernel_rfl) (jF (by kernel_rfl) (jF (by kernel_rfl) ?_)))))
  obtain⟨J,g,i,e,b,H,s3⟩:=Q0 (k:=3) (ρ:=[some (.ref 0),some (.int ((7:Nat):Int)),some w,none,none,none,none,none,none,none,none]) (a:=zc j5 (zc jM (zc qY zq))) (vs:=[.int 4,.int 3,.int 2]) s2 rfl (λ_=>rfl) rfl (by decide) (by decide)
  refine wF ((qB e).trans rfl) ?_;rcases three b with rfl|rfl|rfl<;>cases H
  ·exact ji 31 (by decide) s3 (by kernel_rfl)
  ·exact ji 32 (by decide) s3 (by kernel_rfl)
  ·exact ji 33 (by decide) s3 (by kernel_rfl)
def EV (s:jd 0 [o]):∃i,i<34/\∃r B,YI [.ref 0] [o]=.ok (.ref r) B/\jd 0 B/\LL (j9 i) r B:=by
 obtain⟨i,hi,r,B,e,q⟩:=Ee s;refine⟨i,hi,r,B,?_,q⟩;unfold YI WX;exact qS e
noncomputable def X4 (g:Nat->W):W->W
 |.int v=>g v.toNat|w=>w
def Rq (g:Nat->W)(o:bS):((o.map λ(a:Nat)=>(a:Int)).map W.int).map (X4 g)=o.map g:=by
 rw[aL,aL]
 apply aY
 intro a _;show g (Int.toNat (a:Int))=g a;rw[aE]
def Sn {fd:bO}{M:Nat}{s:Int}(h:fd.Perm ((List.range M).map λ(k:Nat)=>s+(k:Int))):∃p:bS,fd=p.map (λ(k:Nat)=>s+(k:Int))/\p.Perm (List.range M):=by
 refine⟨fd.map λv=>(v-s).toNat,?_,?_⟩
 ·rw[aL]
  conv=>lhs;rw[<- map_id fd]
  apply aY
  intro v H;obtain⟨k,_,rfl⟩:=b7.mp (h.mem_iff.mp H);show s+(k:Int)=s+(((s+(k:Int)-s).toNat:Nat):Int);omega
 ·have:=h.map λv=>(v-s).toNat
  rw[aL]at this;have e:(List.range M).map ((λv:Int=>(v-s).toNat) ∘ λ(k:Nat)=>s+(k:Int))=List.range M:=by
   conv=>rhs;rw[<- map_id (List.range M)]
   apply aY
   intro k _;show(s+(k:Int)-s).toNat=k;omega
  rw[e]at this;exact this
section
variable {B:Hx}
def SO (h:qa t)(hi:ρ[i]? =some (some (zr t))):mQ yf (zN 1 [] (zY (qx i)) (zE 0) zQ (zH (mQ yf (qi zm)))) ρ A=.ok (.int (qu t-1)) A:=by
 have n8:=h.n8;have e:=IX (cap:=[]) (A:=A) (ρ:=ρ) (o:=t) (f:=zj) (m:=qx i) (me:=mQ yf (qi zm)) (G:=λr=>.int (kL r)) (zl hi) (by unfold zT;omega) (λr H=>(jJ (kD (w:=zj r) (ws:=r.map W.int) (A1:=A) (zl rfl) rfl)).trans (Rm (h.row_ne H)))
 have em:(t.map λr=>W.int (kL r))=(t.map kL).map W.int:=by rw[aL];rfl
 rw[em]at e;refine((jJ e).trans (Rm h.map_ne)).trans ?_
 have:qu t-1=kL (t.map kL):=by unfold qu;omega
 rw[this]
def Lr {ma mb:Ev}{M:Nat}(H:ma ρ A=.ok (.int 1) A)(h:mb ρ A=.ok (.int (1+(M:Int))) A)(a:M<=100):J2 ma mb ρ A=.ok (.ref A.length) (A++[.lst (((List.range M).map λ(k:Nat)=>1+(k:Int)).map W.int)]):=by
 unfold J2;rw[H,zM,h,zM];dsimp only;have e:(1+(M:Int)-1).toNat=M:=by omega
 rw[ah (by
  have s1:q9 1=true:=by decide
  have s2:q9 (1+(M:Int))=true:=by unfold q9;simp;omega
  rw[s1,s2,e,ay (by unfold zT;omega)];rfl),e,aL]
 rfl
def Known (t:bN):Prop:=∃i p o,i<34/\p.Perm (List.range (qu (kh (j9 i))-1).toNat)/\o.Perm (List.range (kh (j9 i)).length)/\t=kK (kh (j9 i)) p o
def Dl (s:jd 0 [o]):∃t B,YH [.ref 0] [o]=.ok (zr t) B/\jd 0 B/\qa t/\Known t:=by
 obtain⟨i,hi,r,B0,e0,s0,Y⟩:=EV s;obtain⟨tt,sq,q⟩:=GK hi;have hlen:(kh (j9 i)).length=(j9 i).length:=by unfold kh;rw[af]
 have m1:=tt.n1;have m8:=tt.n8;obtain⟨B1,e1,x1⟩:=FT (by omega) (by omega) sq q Y
 have s1:=s0.ext x1;generalize J:kh (j9 i)=u at*;clear hlen Y;have n1:=tt.n1;have n8:=tt.n8;have kb:=km tt;obtain⟨M,hM⟩:=aU (show 0<=qu u-1 by omega)
 have el:=Kx (ws:=u.map zj) (ρ:=[some (.ref 0),some (zr u),none,none]) (i:=1) (A:=B1) rfl;rw[af]at el;have e2:=Io el (by omega)
 have S:iL (List.range u.length)=((List.range u.length).map λ(a:Nat)=>0+(a:Int)).map W.int:=by
  rw[aL]
  apply aY
  intro a _;show W.int (a:Int)=W.int (0+(a:Int));rw[zero_add]
 rw[S]at e2;have s2:=s1.ext (Ext.one (o:=.lst (((List.range u.length).map λ(a:Nat)=>0+(a:Int)).map W.int)));obtain⟨j,h,fd,e3,U,p2,k2,N⟩:=Su s2 jx (by simp;omega)
 obtain⟨d,rfl,po⟩:=Sn p2;have Q:(d.map λ(k:Nat)=>(0:Int)+(k:Int))=d.map λ(k:Nat)=>(k:Int):=aY λa _=>by omega
 rw[Q]at U;have X:zA QN (zc zm (zc (J0 (mQ qR (qi zt))) zq)) [some (.ref 0),some (zr u),none,none] B1=.ok (.ref j) h:=(zW (zy (zl (i:=0) rfl) (zy e2 zP))).trans e3;have hr20:0<j:=by have:=s1.lt;simp at N;omega
 have e4:qW (zc qe zq) [some (.ref 0),some (zr u),some (.ref j),none] h=.ok (.ref h.length) (h++[.lst [.int 0]]):=wB (zy qh zP);have s3:=k2.st.ext (Ext.one (o:=.lst [.int 0]));have C:=yz (u:=.lst [.int 0]) U;have Z:(h++[.lst [.int 0]])[h.length]? =some (.lst [.int 0]):=jx;have h2l:=gY U;have hB2:0<h.length:=by omega
 generalize h++[.lst [.int 0]]=B3 at e4 s3 C Z;have D:=SO tt (ρ:=[some (.ref 0),some (zr u),some (.ref j),none]) (i:=1) (A:=B3) rfl;rw[hM]at D;have e5:=Lr (ρ:=[some (.ref 0),some (zr u),some (.ref j),none]) (A:=B3) (M:=M) (ma:=z7 (.int 1)) (mb:=zi qL qc (mQ yf (zN 1 [] (zY zt) (zE 0) zQ (zH (mQ yf (qi zm)))))) qh ((zK qh D).trans rfl) (by omega)
 have s4:=s3.ext (Ext.one (o:=.lst (((List.range M).map λ(k:Nat)=>1+(k:Int)).map W.int)));obtain⟨r3,f,fd3,e6,h3,p3,K,nw3⟩:=Su s4 jx (by simp;omega)
 obtain⟨P,rfl,pp⟩:=Sn p3;have z:=K.kp.get (yz C) (by omega)
 have I:=K.kp.get (yz Z) (by omega)
 have E:zi qL (qW (zc qe zq)) (zA QN (zc zm (zc (J2 qc (zi qL qc (mQ yf (zN 1 [] (zY zt) (zE 0) zQ (zH (mQ yf (qi zm))))))) zq))) [some (.ref 0),some (zr u),some (.ref j),none] h=.ok (.ref f.length) (f++[.lst ((qZ P).map W.int)]):=by
  refine(zK e4 ((zW (zy (zl (i:=0) rfl) (zy e5 zP))).trans e6)).trans ((HK I h3 ?_).trans rfl)
  have:=pp.length_eq
  rw[aF]at this;rw[af,af,this];unfold zT;simp;omega
 have T:=yz (u:=.lst ((qZ P).map W.int)) z;have h6:(f++[.lst ((qZ P).map W.int)])[f.length]? =some (.lst ((qZ P).map W.int)):=jx;have s5:=K.st.ext (Ext.one (o:=.lst ((qZ P).map W.int)));generalize hB5:f++[.lst ((qZ P).map W.int)]=c at E T h6 s5;have hol:d.length=u.length:=by rw[po.length_eq,aF]
 have n:∀a∈d,a<u.length:=λa x=>b6.mp (po.mem_iff.mp x);have hpl:P.length=M:=by rw[pp.length_eq,aF]
 have y:(qu u-1).toNat=M:=by omega
 have res:=Gp tt (p:=P) (o:=d) (by rw[y];exact pp) po
 refine⟨kK u P d,c,?_,s5,res.1,i,P,d,hi,by rw[J,y];exact pp,by rw[J];exact po,by rw[J]⟩
 unfold YH;refine qS ?_;unfold Um;refine(zG ((qB ((zW (zy ((zW (zy (zl (i:=0) rfl) zP)).trans e0) zP)).trans e1)).trans rfl)).trans ((zG ((qB X).trans rfl)).trans ((zG ((qB E).trans rfl)).trans (qQ (jc ?_))));have inner:∀a,a∈d->∀b,b∈d->zi zI zU (zi zI (zi zI zJ zt) zm) [some (.int (b:Int)),some (.int (a:Int)),some (zr u),some (.ref f.length)] c=.ok (.int ((qZ P).getD (at2 u a b).toNat 0)) c:=λa x b q=>by
  have la:=n a x;have L:=n b q;have bd:=w6 tt la L;have kg:=J8 tt la L;obtain⟨v,H⟩:=aU bd.1;have e:zi zI (zi zI zJ zt) zm [some (.int (b:Int)),some (.int (a:Int)),some (zr u),some (.ref f.length)] c=.ok (.int (v:Int)) c:=by
   rw[<- H];exact(zK ((zK (zl rfl) (zl rfl)).trans (Je la)) (zl rfl)).trans (Yb (by rw[tt.sq _ (yy la)];exact L))
  have l:v<(qZ P).length:=by
   show v<(P.map _).length+1;rw[af];omega
  refine(zK (zl (i:=3) rfl) e).trans (ZJ h6 ?_);rw[H,aE,ao,aa l,ab,aa l]
  rfl
 have ec:=Y5 (cap:=[1,2,3]) (m:=qx 2) (me:=mQ j4 (zN 1 [0,1,3] (zY zJ) (zE 0) zQ (zH (zi zI zU (zi zI (zi zI zJ zt) zm))))) (ρ:=[some (.ref 0),some (zr u),some (.ref j),some (.ref f.length)]) (A:=c) (g:=X4 λa=>zj (d.map λb=>(qZ P).getD (at2 u a b).toNat 0)) (zl rfl) T (by simp;unfold zT;omega) (λw hw=>by
  obtain⟨v,H,rfl⟩:=b7.mp hw;obtain⟨a,x,rfl⟩:=b7.mp H;have ei:=Y5 (cap:=[0,1,3]) (m:=qx 2) (me:=zi zI zU (zi zI (zi zI zJ zt) zm)) (ρ:=[some (.int (a:Int)),some (zr u),some (.ref j),some (.ref f.length)]) (A:=c) (g:=X4 λb=>.int ((qZ P).getD (at2 u a b).toNat 0)) (zl rfl) T (by simp;unfold zT;omega) (λw hw=>by
   obtain⟨v,H,rfl⟩:=b7.mp hw;obtain⟨b,q,rfl⟩:=b7.mp H;refine(inner a x b q).trans ?_;show _=R.ok (W.int ((qZ P).getD (at2 u a (Int.toNat (b:Int))).toNat 0)) c;rw[aE])
  rw[Rq]at ei;refine(gE ei).trans ?_;show _=R.ok (zj (d.map λb=>(qZ P).getD (at2 u (Int.toNat (a:Int)) b).toNat 0)) c;rw[aE];unfold zj;rw[aL]
  rfl)
 rw[Rq]at ec;refine(gE ec).trans ?_;unfold zr kK;rw[aL]
 rfl
def Ej (s:jd n A):∃t B,Z9 [.ref n] A=.ok (zr t) B/\qa t/\Known t/\Kn n A B/\B.length=A.length:=by
 obtain⟨c,b,a,f,g⟩:=s;have hm:=gY a;obtain⟨t,A1,e,⟨C,d,E,h,H⟩,T,K⟩:=Dl (o:=.lst [.int c,.bl b]) ⟨c,b,rfl,f,g⟩;refine⟨t,A.set n (.lst [.int C,.bl d]),?_,T,K,⟨Kp.set,C,d,aM hm,h,H⟩,length_set ..⟩;unfold Z9;exact SH a rfl e E (yZ t)
end
end G
namespace Mi
open PySem L2
def Ic {c:En}{N:Nat}{u v g:Nat->W}(t:∀i,i<N->j.at_ A i=some (some (.tup [u i,v i])))(H:j.at_ A N=some none)(he:∀i,i<N->me (some (u i)::some (v i)::c) A=.ok (g i) A):
  ∀(f i:Nat)(x y:Option W)(acc:List W),i+f=N->acc.length+f<=zT->∃ρ,je j (jf 0 1) (z7 (.bl true)) (zH me) f i (x::y::c) acc A=.ok (ρ,acc++(List.range' i f).map g) A:=by
 intro f
 induction f with
 |zero=>
  intro i x y acc h l
  have:i=N:=by omega
  subst this;refine⟨x::y::c,?_⟩;unfold je;rw[H];simp
 |succ f I=>
  intro i x y acc h l;obtain⟨ρ,e⟩:=I (i+1) (some (u i)) (some (v i)) (acc++[g i]) (by omega) (by rw[aw,ba];omega)
  refine⟨ρ,?_⟩;rw[je,t i (by omega)]
  dsimp only;rw[show jf 0 1 (.tup [u i,v i]) (x::y::c)=some (some (u i)::some (v i)::c) from rfl]
  dsimp only[z7];rw[zM];dsimp only;have E:zH me (some (u i)::some (v i)::c) acc A=.ok (some (u i)::some (v i)::c,acc++[g i]) A:=by
   unfold zH;rw[he i (by omega),zM,ah (by omega)]
  rw[E,zM];rw[e,aO,bK,aQ]
  rfl
def Mg {N:Nat}{u v g:Nat->W}(hm:mi ρ A=.ok j A)(b:j.len=N)(d:N<=1000)(H:∀i,i<N->j.at_ A i=some (some (.tup [u i,v i])))(h:j.at_ A N=some none)
  (he:∀i,i<N->me (some (u i)::some (v i)::cap.map λi=>(ρ[i]?).join) A=.ok (g i) A):zN 2 cap mi (jf 0 1) zQ (zH me) ρ A=.ok ((List.range N).map g) A:=by
 obtain⟨a,e⟩:=Ic (A:=A) (c:=cap.map λi=>(ρ[i]?).join) H h he N 0 none none [] (by omega) (by unfold zT;simp;omega)
 unfold zN;rw[hm,zM,b];show R.bind (R.nox (je j _ _ _ N 0 (none::none::cap.map λi=>(ρ[i]?).join) [] A)) _=_;rw[e,<- bE,nil_append]
 rfl
def Y0 {m':Ev}{us vs:List W}(h:m ρ A=.ok (.tup us) A)(h':m' ρ A=.ok (.tup vs) A):wJ m m' ρ A=.ok (kM (.tup us) (.tup vs) us.length) A:=by
 unfold wJ;rw[h,zM,h',zM]
 rfl
end Mi
namespace G
open PySem L2 Mi
def JZ {f:Fn}{us:List W}{k:Nat}(hn:qP us=true)(h:f us []=.ok (.ref k) A1)(H:A1[k]? =some (.lst ws))(hw:qP ws=true):iso f us A=.ok (.ref A.length) (A++[.lst ws]):=by
 unfold iso;rw[ah hn,h];dsimp only;rw[H];dsimp only;rw[ah hw]
section
def Mr (h:n<1000000):q9 (n:Int)=true:=by
 unfold q9;rw[ak,ag,ag];omega
def Ao {a b:W}{d:PyData}(c:qd A 8 a=some d)(H:qd A 8 b=some d)(h:PyData.eqv d d=true):qj a b A=.ok (.bl false) A:=by
 show yV true a b A=_;unfold yV;rw[c,H];dsimp only;rw[ah rfl,h]
 rfl
end
section
def DO (a:A[0]? =some (.ro (ns.map W.int)))(k:Nat):∃x:Int,YB [.ref 0,.int k] A=.ok (.int x) A:=by
 have H:z0 (.ref 0) A=some (ns.map W.int):=by unfold z0;dsimp only;rw[a]
 have l:mQ qR (qi zm) [some (.ref 0),some (.int k)] A=.ok (.int ns.length) A:=by
  rw[jJ (kD (w:=.ref 0) (A1:=A) (zl rfl) H)];unfold qR;rw[af]
 have e:zi yM zt (mQ qR (qi zm)) [some (.ref 0),some (.int k)] A=.ok (.bl (decide ((k:Int)<ns.length))) A:=(zK (zl (w:=.int k) rfl) l).trans rfl
 by_cases h:k<ns.length
 ·refine⟨ns[k],qS ?_⟩
  unfold WI;rw[ay (by omega)]at e
  refine qQ ((ZV e).trans (qQ (jc ?_)));refine(zK (x:=.ref 0) (y:=.int k) (A1:=A) (A2:=A) (zl rfl) (zl rfl)).trans ?_;unfold zI;rw[H];dsimp only;rw[Kd (v:=.int ns[k]) (by rw[ao,aa h];rfl)]
 ·refine⟨0,qS ?_⟩
  unfold WI;rw[aC (by omega)]at e
  exact(zG ((js e).trans rfl)).trans rfl
def E7 (H:A[0]? =some (.ro (ns.map W.int)))(k:Nat):∃o,QT [.ref 0,.int k] A=.ok (.ref A.length) (A++[o])/\jd A.length (A++[o]):=by
 obtain⟨x,e⟩:=DO H k;have a:z8 2 (zA YB (zc zm (zc zt zq))) [some (.ref 0),some (.int k),none] A=.ok (.nx [some (.ref 0),some (.int k),some (.int x)]) A:=by
  refine(qB (w:=.int x) (A1:=A) ?_).trans rfl;rw[zW (ws:=[.ref 0,.int k]) (A1:=A) rfl];exact e
 have E:zi Wn zJ (zi KO XO (z7 (.int 18))) [some (.ref 0),some (.int k),some (.int x)] A=.ok (.bl (decide ((1000000000000000000:Int)<=x))) A:=(zK (x:=.int x) (y:=.int 1000000000000000000) (A1:=A) (A2:=A) (zl rfl) rfl).trans rfl
 by_cases h:(1000000000000000000:Int)<=x
 ·refine⟨.lst [.int (x-1000000000000000000),.bl true],qS ?_,x-1000000000000000000,true,jx,by omega,λz=>nomatch z⟩
  unfold W0;rw[ay h]at E;refine(zG a).trans (qQ ((ZV E).trans (qQ (jc (wB ?_)))))
  rfl
 ·refine⟨.lst [.int (x%2147483647),.bl false],qS ?_,x%2147483647,false,jx,emod_nonneg _ (by decide),λ_=>bH _ (by decide)⟩
  unfold W0;rw[aC h]at E;refine(zG a).trans ((zG ((js E).trans rfl)).trans (qQ (jc (wB ?_))));refine zy (A1:=A) (A2:=A) ((zK (x:=.int x) (y:=.int 2147483647) (A1:=A) (A2:=A) (zl rfl) rfl).trans (Jf (by decide))) rfl
def F3 (h:qa t)(A:Hx):JJ [zr t] A=.ok (.bl true) A:=EU h A
def QZ (h:qa t)(A:Hx):gX [zr t] A=.ok .non A:=by
 unfold gX WE;refine Kc (ρ:=[some (zr t)]) ?_;unfold VI;refine(zG (ρ1:=[some (zr t)]) (A1:=A) ((js (A1:=A) ?_).trans rfl)).trans rfl;exact wz (k:=true) ((zW (ws:=[zr t]) (A1:=A) rfl).trans (F3 h A))
variable {a b k:Nat}{w:W}
def Ct {ty:Ty}(h:ZA w A=some ty):(Z0 ty .int&&!Z0 ty .bl)=Ol w:=by
 cases w with
 |ref k=>
  unfold ZA at h;dsimp only at h
  split at h
  ·cases h;rfl
  ·cases h;rfl
  ·cases h
 |clo _ _ _=>cases h|xc _=>cases h|_=>cases h;rfl
def Xy {a b:Ev}{p q:Bool}(h:a ρ A=.ok (.bl p) A)(H:b ρ A=.ok (.bl q) A):jl a b ρ A=.ok (.bl (p&&q)) A:=by
 cases p with
 |true=>exact(kG h).trans H|false=>exact Qs h
def Er {ty:Ty}(h:ZA w A=some ty):ZH [w] A=.ok (.bl (Ol w)) A:=by
 unfold ZH YS US;refine qS (qQ (jc ((Xy (PD (zl rfl) h) (wz (PD (zl rfl) h))).trans ?_)));rw[Ct h]
def Qm (h:qa t)(A:Hx):kA [zr t] A=.ok (.int (qu t)) A:=by
 refine kf (A1:=[]) (Z5 t) rfl (qS ?_);unfold Ud;refine qQ (jc ((zK (SO h rfl) qh).trans ?_));show R.ok (W.int (qu t-1+1)) []=_
 congr 2
 omega
def len_tab (hi:ρ[i]? =some (some (zr t))):mQ qR (qi (qx i)) ρ A=.ok (.int (t.length:Int)) A:=by
 have:=Kx (ws:=t.map zj) (A:=A) hi
 rw[af]at this;exact this
end
section
variable {N b:Nat}
def Ro {g:Nat->Int}{k:Int}(h:b<N):((List.range N).map λj=>W.int (g j)).set b (.int k)=(List.range N).map λj=>W.int (if j=b then k else g j):=by
 apply List.ext_getElem?
 intro i
 by_cases hi:i<N
 ·by_cases q:b=i
  ·subst q
   rw[aM (by simpa using hi),ao,aT hi]
   simp
  ·rw[aN q,ao,ao,aT hi]
   simp[Ne.symm q]
 ·rw[aB (by simp;omega),aB (by simp;omega)]
end
structure LC (K:Nat)(μ:Nat->Nat->Int)(C:Hx):Prop where
 top:C[2 * K]? =some (.lst ((List.range K).map λi=>W.ref (2 * i+1)))
 row:∀i,i<K->C[2 * i+1]? =some (.lst ((List.range K).map λj=>W.int (μ i j)))
section
variable {K a b j:Nat}{μ:Nat->Nat->Int}{C:Hx}
def LC.put (h:LC K μ C)(e:i<K)(d:j<K)(k:Int):∃b,kO (.ref (2 * i+1)) (.int (j:Int)) (.int k) C=.ok () b/\LC K (gN μ i j k) b:=by
 have r:=h.row i e;have H:=gY r;refine⟨_,Ra r (by simp;omega),?_,λc hi=>?_⟩
 ·rw[aN (by omega)];exact h.top
 ·by_cases q:c=i
  ·subst q
   rw[aM H,Ro d]
   congr 3
   funext a
   unfold gN
   by_cases z:a=j
   ·rw[ah z,ah ⟨rfl,z⟩]
   ·rw[aq z,aq (by rintro⟨_,w⟩;exact z w)]
  ·rw[aN (by omega),h.row c hi]
   congr 3
   funext a
   unfold gN;rw[aq (by rintro⟨w,_⟩;exact q w)]
def LC.aug (h:LC K μ C){mo mi:Ev}(o:mo ρ C=.ok (.ref (2 * i+1)) C)(hi:mi ρ C=.ok (.int (j:Int)) C)(a:i<K)(H:j<K):∃c,wG mo mi qc ρ C=.ok (.nx ρ) c/\LC K (gN μ i j (μ i j+1)) c:=by
 obtain⟨c,e,l⟩:=h.put a H (μ i j+1);refine⟨c,?_,l⟩;unfold wG;rw[o,zM,hi,zM];dsimp only;rw[ah (by omega),h.row i a]
 dsimp only;rw[aE,ao,aT H];show R.bind (kO (.ref (2 * i+1)) (.int (j:Int)) (.int (μ i j+1)) C) _=_;rw[e,zM]
def LC.ix (h:LC K μ C){mi:Ev}(hm:m ρ C=.ok (.ref (2 * K)) C)(hi:mi ρ C=.ok (.int (i:Int)) C)(H:i<K):zi zI m mi ρ C=.ok (.ref (2 * i+1)) C:=
 (zK hm hi).trans (ZJ h.top (by rw[ao,aT H];rfl))
def rep1 (w:W):∀n:Nat,(List.replicate n [w]).flatten=(List.range n).map λ_=>w:=λn=>by
 rw[List.map_const',aF]
 induction n with
 |zero=>rfl|succ n i=>rw[bg,aZ,i];rfl
def IZ (g:K<=8){x0 x1 x2 x4:Option W}{l:List (Option W)}:∃C,qv (zN 1 [3] (jI zU) (zE 0) zQ (zH (zi qw (qW (zc qe zq)) zt))) (x0::x1::x2::some (.int (K:Int))::x4::l) []=.ok (.ref (2 * K)) C/\LC K (λ_ _=>0) C:=by
 have hm:=Qg (m:=qx 3) (ρ:=x0::x1::x2::some (.int (K:Int))::x4::l) (A:=[]) (k:=(K:Int)) rfl (yY (by omega))
 rw[aE]at hm;obtain⟨f,acc,B,e,_,H,h⟩:=wU (nl:=1) (cap:=[3]) (tw:=zE 0) (ifs:=z7 (.bl true)) (em:=zH (zi qw (qW (zc qe zq)) zt)) (N:=K)
  (I:=λi ρ acc B=>(∃y,ρ=[y,some (.int (K:Int))])/\(B.length=2 * i/\∀c,c<i->B[2 * c+1]? =some (.lst ((List.range K).map λj=>W.int 0)))/\acc=(List.range i).map λc=>W.ref (2 * c+1)) hm rfl
  (λi ρ acc B hi ⟨⟨y,a⟩,⟨b,H⟩,h⟩=>by
   subst a h;refine⟨_,_,wD hi,rfl,.inl ⟨B,_,_,B++[.lst [.int 0]]++[.lst ((List.range K).map λj=>W.int 0)],rfl,wV (y:=.ref (2 * i+1)) ?_ (by rw[af,aF];unfold zT;omega),⟨_,rfl⟩,⟨by simp;omega,λc d=>?_⟩,by rw[bb,aG];rfl⟩⟩
   ·refine(zK (wB (zy qh zP)) (zl (i:=1) (w:=.int (K:Int)) rfl)).trans ?_
    unfold qw;dsimp only;rw[jx];dsimp only;rw[ah (by rw[yY (by omega),aE];simp;unfold zT;omega),aE,aw,b,rep1]
    rfl
   ·by_cases q:c=i
    ·subst q
     rw[az (by simp;omega)]
     simp[b]
    ·rw[ai (by simp;omega),ai (by omega)]
     exact H c (by omega))
  (λρ acc B _=>wA (by omega)) ⟨⟨none,rfl⟩,⟨rfl,λc d=>absurd d (not_lt_zero _)⟩,rfl⟩
 subst h;refine⟨B++[.lst ((List.range K).map λc=>W.ref (2 * c+1))],?_,?_,λi hi=>?_⟩
 ·rw[kY e,H.1]
 ·rw[<- H.1];exact jx
 ·exact yz (H.2 i hi)
theorem LC.tup (h:LC K μ C)(b:K<=8){i:Nat}(hi:ρ[i]? =some (some (.ref (2 * K)))):mQ j4 (zN 1 [] (zY (qx i)) (zE 0) zQ (zH (mQ j4 (qi zm)))) ρ C=.ok (zr (j8 K μ)) C:=by
 have e:=Y5 (cap:=[]) (ws:=(List.range K).map λi=>W.ref (2 * i+1)) (me:=mQ j4 (qi zm)) (zl hi) h.top (by simp;unfold zT;omega) (g:=λw=>match w with|.ref n=>(match C[n]? with|some (.lst ws)=>.tup ws|_=>.non)|_=>.non) (λw hw=>by
  obtain⟨c,a,rfl⟩:=b7.mp hw;have H:=h.row c (b6.mp a);dsimp only;rw[H];exact gE (kD (w:=.ref (2 * c+1)) (A1:=C) (zl rfl) (by unfold z0;dsimp only;rw[H])))
 rw[gE e]
 congr 1
 unfold zr j8;rw[aL,aL]
 congr 1
 refine aY λc a=>?_;have H:=h.row c (b6.mp a);show(match C[2 * c+1]? with|some (.lst ws)=>W.tup ws|_=>.non)=zj ((List.range K).map (μ c))
 rw[H];unfold zj;rw[aL]
 rfl
def shr (t:bN)(a b:Nat):Nat->Nat->Nat->Int
 |0=>λ_ _=>0|n+1=>gN (shr t a b n) (at2 t a n).toNat (at2 t b n).toNat (shr t a b n (at2 t a n).toNat (at2 t b n).toNat+1)
def yj (t:bN)(K a b:Nat):bN:=j8 K (shr t a b t.length)
def Qp (h:qa t)(d:qu t=(K:Int))(c:a<t.length)(H:b<t.length):((at2 t a b).toNat:Int)=at2 t a b/\(at2 t a b).toNat<K:=by
 have f:=w6 h c H;have e:=J8 h c H;omega
def Gj (h:qa t)(g:qu t=(K:Int))(d:a<t.length)(c:b<t.length)(A:Hx):gu [zr t,.int (a:Int),.int (b:Int)] A=.ok (zr (yj t K a b)) A:=by
 have n8:=h.n8;have w:=km h;have f:((t.getD a []).map W.int).length=t.length:=by rw[af,h.sq _ (yy d)]
 have s:((t.getD b []).map W.int).length=t.length:=by rw[af,h.sq _ (yy c)]
 obtain⟨C,u,p⟩:=IZ (K:=K) (by omega) (x0:=some (zr t)) (x1:=some (.int (a:Int))) (x2:=some (.int (b:Int))) (x4:=none) (l:=[none,none])
 obtain⟨i,B,E,L,Y,y,H⟩:=wk (j:=kM (.tup ((t.getD a []).map W.int)) (.tup ((t.getD b []).map W.int)) ((t.getD a []).map W.int).length) (st:=turn (jf 5 6) (zp (wG (zi zI ql qk) jw qc) zw)) (N:=t.length)
  (I:=λn ρ B=>LC K (shr t a b n) B/\∃Y y,ρ=[some (zr t),some (.int (a:Int)),some (.int (b:Int)),some (.int (K:Int)),some (.ref (2 * K)),Y,y])
  (λn ρ B hn ⟨l,Y,y,H⟩=>by
   subst H;obtain⟨o,q⟩:=Qp h g d hn;obtain⟨m,Q⟩:=Qp h g c hn;obtain⟨v,e,r⟩:=l.aug (ρ:=[some (zr t),some (.int (a:Int)),some (.int (b:Int)),some (.int (K:Int)),some (.ref (2 * K)),some (.int (at2 t a n)),some (.int (at2 t b n))]) (mo:=zi zI ql qk) (mi:=qx 6) (l.ix (zl rfl) (zl (by rw[o];rfl)) q) (zl (by rw[m];rfl)) q Q
   refine⟨.tup [.int (at2 t a n),.int (at2 t b n)],_,v,?_,(kE rfl).trans ((zG e).trans qG),r,_,_,rfl⟩;show some (zip2 ((t.getD a []).map W.int)[n]? ((t.getD b []).map W.int)[n]?)=_;rw[int_at (by rw[h.sq _ (yy d)];exact hn),int_at (by rw[h.sq _ (yy c)];exact hn)]
   rfl)
  (λρ B _=>by
   show some (zip2 ((t.getD a []).map W.int)[t.length]? ((t.getD b []).map W.int)[t.length]?)=_;rw[aB (by omega),aB (by omega)]
   rfl) t.length 0 [some (zr t),some (.int (a:Int)),some (.int (b:Int)),some (.int (K:Int)),some (.ref (2 * K)),none,none] C (by omega) ⟨p,_,_,rfl⟩
 subst H;refine kf (A1:=B) (Z5 t) (yZ _) (qS ?_);unfold VQ;refine(zG (qB ((zW (zy (zl rfl) zP)).trans ((Qm h []).trans (by rw[g]))))).trans ?_
 refine(zG (qB u)).trans ?_;refine(zG (ρ1:=[some (zr t),some (.int (a:Int)),some (.int (b:Int)),some (.int (K:Int)),some (.ref (2 * K)),Y,y]) (A1:=B) ((wq (Y0 ((zK (zl rfl) (zl rfl)).trans (Je d)) ((zK (zl rfl) (zl rfl)).trans (Je c)))).trans ?_)).trans (qQ (jc (L.tup (by omega) rfl)))
 have:(kM (.tup ((t.getD a []).map W.int)) (.tup ((t.getD b []).map W.int)) ((t.getD a []).map W.int).length).len=t.length:=f
 rw[this];exact E
end
def Z4 (t:bN)(a b:Nat):List (Int×Int):=(List.range t.length).map λc=>(at2 t a c,at2 t b c)
def kZ (t:bN):Prop:=∀a b c e,a<t.length->b<t.length->c<t.length->e<t.length->at2 t a b=at2 t c e->(Z4 t a b).Perm (Z4 t c e)
def cH (t:bN)(k:Int):Nat:=((List.range (t.length * t.length)).find? λm=>decide (at2 t (m/t.length) (m%t.length)=k)).getD 0
def GR (t:bN):Bool:=(List.range t.length).all λa=>(List.range t.length).all λb=>let m:=cH t (at2 t a b);(Z4 t a b).isPerm (Z4 t (m/t.length) (m%t.length))
def MU (h:GR t=true):kZ t:=λa b c e l j i he g=>by
 unfold GR at h;rw[bq]at h;have f:=h a (b6.mpr l);rw[bq]at f;have m:=List.isPerm_iff.mp (f b (b6.mpr j));have d:=h c (b6.mpr i);rw[bq]at d;have H:=List.isPerm_iff.mp (d e (b6.mpr he));rw[<- g]at H;exact m.trans H.symm
def Ld:((List.range 34).all λi=>GR (kh (j9 i)))=true:=by decide +kernel
def FW {p:bS}(b:p.Nodup){u v:Nat}(H:u<=p.length)(h:v<=p.length)(e:(qZ p).getD u 0=(qZ p).getD v 0):u=v:=by
 by_cases h1:u=0
 ·by_cases a:v=0
  ·omega
  ·exfalso
   subst h1;rw[Q8 (v:=v) (by omega) h]at e
   have:(qZ p).getD 0 0=0:=rfl
   omega
 ·by_cases a:v=0
  ·exfalso
   subst a;rw[Q8 (v:=u) (by omega) H]at e
   have:(qZ p).getD 0 0=0:=rfl
   omega
  ·rw[Q8 (by omega) H,Q8 (by omega) h]at e
   have E:p[u-1]'(by omega)=p[v-1]'(by omega):=by omega
   have:=(getElem_inj b).mp E
   omega
section
variable {p o:bS}
def JV (H:o.Perm (List.range t.length)){a b:Nat}(d:a<t.length)(c:b<t.length):at2 (kK t p o) a b=(qZ p).getD (at2 t (o.getD a 0) (o.getD b 0)).toNat 0:=by
 have h:o.length=t.length:=by rw[H.length_eq,aF]
 unfold at2 kK;rw[ab (l:=List.map _ o),ao,aa (by omega)]
 show(List.map _ o).getD b 0=_;rw[ab,ao,aa (by omega)]
 show(qZ p).getD (at2 t _ _).toNat 0=_;unfold at2;rw[ab (l:=o) (i:=a),aa (by omega),ab (l:=o) (i:=b),aa (by omega)]
 rfl
def Mc (h:qa t)(l:p.Perm (List.range (qu t-1).toNat))(g:o.Perm (List.range t.length))(s:kZ t):kZ (kK t p o):=by
 have hlen:=(Gp h l g).2;have m:o.length=t.length:=by rw[g.length_eq,aF]
 have w:p.length=(qu t-1).toNat:=by rw[l.length_eq,aF]
 have y:=km h;have n:p.Nodup:=(l.nodup_iff).mpr nodup_range;have H:∀i,i<t.length->o.getD i 0<t.length:=λi hi=>by
  rw[ab,aa (by omega)]
  exact b6.mp (g.mem_iff.mp (aK _))
 have u:∀a b,a<t.length->b<t.length->(at2 t a b).toNat<=p.length/\((at2 t a b).toNat:Int)=at2 t a b:=λa b f d=>by
  have:=w6 h f d
  have:=J8 h f d
  omega
 have r:∀a b,a<t.length->b<t.length->(Z4 (kK t p o) a b).Perm ((Z4 t (o.getD a 0) (o.getD b 0)).map λq=>((qZ p).getD q.1.toNat 0,(qZ p).getD q.2.toNat 0)):=λa b f d=>by
  unfold Z4;rw[hlen,aL];have x:(List.range t.length).map (λc=>(at2 (kK t p o) a c,at2 (kK t p o) b c))=(List.range t.length).map λc=>((qZ p).getD (at2 t (o.getD a 0) (o.getD c 0)).toNat 0,(qZ p).getD (at2 t (o.getD b 0) (o.getD c 0)).toNat 0):=aY λc j=>by
   rw[JV g f (b6.mp j),JV g d (b6.mp j)]
  rw[x];have E:=QQ o 0 λc=>((qZ p).getD (at2 t (o.getD a 0) c).toNat 0,(qZ p).getD (at2 t (o.getD b 0) c).toNat 0);rw[m]at E;rw[<- E];exact g.map _
 intro a b c e f d j he q;rw[hlen]at f d j he;rw[JV g f d,JV g j he]at q;have v:=u _ _ (H a f) (H b d);have K:=u _ _ (H c j) (H e he);have Q:=FW n v.1 K.1 q
 have:=s _ _ _ _ (H a f) (H b d) (H c j) (H e he) (by omega)
 exact(r a b f d).trans ((this.map _).trans (r c e j he).symm)
def Us (h:Known t):kZ t:=by
 obtain⟨i,p,o,hi,a,b,rfl⟩:=h;have H:=cc.mp Ld i (b6.mpr hi);exact Mc (GK hi).1 a b (MU H)
variable {a b c e K:Nat}
theorem YW (h:qa t)(d:a<t.length)(H:b<t.length):∀n,n<=t.length->∀i j:Nat,shr t a b n i j=((((List.range n).map λc=>(at2 t a c,at2 t b c)).count ((i:Int),(j:Int)):Nat):Int)
 |0,_,i,j=>rfl|n+1,hn,i,j=>by
  have I:=YW h d H n (by omega)
  have f:=(w6 h d (show n<t.length by omega)).1
  have K:=(w6 h H (show n<t.length by omega)).1
  rw[bb,aG,count_append,List.map_singleton,List.count_singleton];show gN (shr t a b n) (at2 t a n).toNat (at2 t b n).toNat (shr t a b n (at2 t a n).toNat (at2 t b n).toNat+1) i j=_;unfold gN
  by_cases q:i=(at2 t a n).toNat/\j=(at2 t b n).toNat
  ·rw[ah q,<- q.1,<- q.2,I,ah (by rw[a6];ext<;>simp<;>omega)]
   omega
  ·rw[aq q,I,aq (by
    rw[a6];intro z;injection z with e Z
    exact q ⟨by omega,by omega⟩)]
   omega
def TV (h:qa t)(s:kZ t)(f:a<t.length)(d:b<t.length)(H:c<t.length)(he:e<t.length)(q:at2 t a b=at2 t c e):yj t K a b=yj t K c e:=by
 unfold yj j8;refine aY λi _=>aY λj _=>?_;rw[YW h f d _ (aj _),YW h H he _ (aj _)]
 have:=(s a b c e f d H he q).count_eq ((i:Int),(j:Int))
 unfold Z4 at this;rw[this]
end
noncomputable def QF (r:bO):PyData:=.tuple (r.map .int)
def XT (t:bN):PyData:=.tuple (t.map QF)
theorem Gu {f:W->Option PyData}{g:α->W}{h:α->PyData}(e:∀a,f (g a)=some (h a)):∀l:List α,jW f (l.map g)=some (l.map h)
 |[]=>rfl|a::l=>by
  rw[aQ,jW,e a,Gu e l]
  rfl
def GD (A:Hx)(n:Nat)(r:bO):qd A (n+1) (zj r)=some (QF r):=by
 show(jW (qd A n) (r.map W.int)).map PyData.tuple=_;rw[Gu (h:=PyData.int) (λi=>by cases n<;>rfl)]
 rfl
def GI (A:Hx)(n:Nat)(t:bN):qd A (n+2) (zr t)=some (XT t):=by
 show(jW (qd A (n+1)) (t.map zj)).map PyData.tuple=_;rw[Gu (h:=QF) (GD A n)]
 rfl
section
variable {B:Hx}{a b c e k K:Nat}{w:W}{kvs:List (Key×W)}
def HG (t:bN):PyData.eqv (XT t) (XT t)=true:=SeqAt.eqv_refl _ (YX 8 _ _ (GI [] 6 t)).1
def neT (t:bN)(A:Hx):qj (zr t) (zr t) A=.ok (.bl false) A:=Ao (GI A 6 t) (GI A 6 t) (HG t)
def T8 (H:qa t)(s:kZ t)(K:Nat):∃S:Nat->List (bO),∀a b,a<t.length->b<t.length->yj t K a b=S (at2 t a b).toNat:=by
 classical
 refine⟨λk=>if h:∃q:Nat×Nat,q.1<t.length/\q.2<t.length/\(at2 t q.1 q.2).toNat=k then yj t K h.choose.1 h.choose.2 else [],λa b d c=>?_⟩;have x:∃q:Nat×Nat,q.1<t.length/\q.2<t.length/\(at2 t q.1 q.2).toNat=(at2 t a b).toNat:=⟨(a,b),d,c,rfl⟩;dsimp only;rw[dif_pos x];obtain⟨f,e,g⟩:=x.choose_spec;have i:=w6 H d c;have B:=w6 H f e;exact TV H s d c f e (by omega)
theorem TN {k:Key}:∀{kvs l:List (Key×W)},jQ k (kvs++l)=match jQ k kvs with|some w=>some w|none=>jQ k l
 |[],l=>rfl|(j,w)::r,l=>by
  show(if j=k then some w else jQ k (r++l))=match (if j=k then some w else jQ k r) with|some w=>some w|none=>jQ k l
  by_cases h:j=k
  ·rw[ah h,ah h]
  ·rw[aq h,aq h];exact TN
theorem Se {k:Key}{w:W}:∀{kvs:List (Key×W)},jQ k kvs=some w->(k,w)∈kvs
 |[],h=>by cases h|(j,u)::r,h=>by
  have h:(if j=k then some u else jQ k r)=some w:=h
  by_cases q:j=k
  ·rw[ah q]at h;cases h;subst q;exact av ..
  ·rw[aq q]at h;exact au _ (Se h)
structure FP (t:bN)(done:Nat->Nat->Prop)(m:Nat)(kvs:List (Key×W)):Prop where
 all:∀p∈kvs,∃a b:Nat,a<t.length/\b<t.length/\p=(.inl (at2 t a b),.tup [.int (a:Int),.int (b:Int)])
 seen:∀a b,a<t.length->b<t.length->done a b->∃w,jQ (.inl (at2 t a b)) kvs=some w
 len:kvs.length<=m
def FP.step {d d':Nat->Nat->Prop}{m:Nat}{x3:Option W}(h:FP t d m kvs)(i:a<t.length)(g:b<t.length)(hd:∀x y,d' x y->d x y∨(x=a/\y=b))(hm:m<100):
  ∃w K,Jk g0 zt qk (qz (zc zJ (zc ql zq))) [some (zr t),some (.ref 0),some (.int (a:Int)),x3,some (.int (b:Int)),some (.int (at2 t a b))] [.dct kvs]=.ok w [.dct K]/\FP t d' (m+1) K:=by
 have l:=h.len;have E:Jk g0 zt qk (qz (zc zJ (zc ql zq))) [some (zr t),some (.ref 0),some (.int (a:Int)),x3,some (.int (b:Int)),some (.int (at2 t a b))] [.dct kvs]=g0 (.ref 0) (.int (at2 t a b)) (.tup [.int (a:Int),.int (b:Int)]) [.dct kvs]:=rfl;rw[E];unfold g0;show ∃w K,(if kvs.length<zT then(match jQ (.inl (at2 t a b)) kvs with|some w=>R.ok w [.dct kvs]|none=>.ok (.tup [.int (a:Int),.int (b:Int)]) [O.dct (kvs++[((Sum.inl (at2 t a b):Key),W.tup [.int (a:Int),.int (b:Int)])])]) else .bad)=.ok w [.dct K]/\FP t d' (m+1) K
 rw[ah (by unfold zT;omega)]
 cases v:jQ (.inl (at2 t a b)) kvs with
 |some w=>
  refine⟨w,kvs,rfl,h.all,λx y f e H=>?_,by omega⟩
  rcases hd x y H with z|⟨rfl,rfl⟩
  ·exact h.seen x y f e z
  ·exact⟨w,v⟩
 |none=>
  refine⟨_,_,rfl,λp c=>?_,λx y f e H=>?_,by rw[aw,ba];omega⟩
  ·rcases cf.mp c with c|c
   ·exact h.all p c
   ·rw[cb.mp c];exact⟨a,b,i,g,rfl⟩
  ·rw[TN]
   rcases hd x y H with z|⟨rfl,rfl⟩
   ·obtain⟨w,hw⟩:=h.seen x y f e z
    rw[hw];exact⟨w,rfl⟩
   ·rw[v];exact⟨.tup [.int (x:Int),.int (y:Int)],by show(if _ then _ else _)=_;rw[ah rfl]⟩
def Ru {f:Fn}{us:List W}{k:Nat}(hn:qP us=true)(h:f us []=.ok (.ref k) A1)(H:A1[k]? =some (.dct kvs))(hw:qP (kvs.map (·.2))=true):iso f us A=.ok (.ref A.length) (A++[.dct kvs]):=by
 unfold iso;rw[ah hn,h];dsimp only;rw[H];dsimp only;rw[ah hw]
def Sw (C:qa t):∃kvs,WS [zr t] []=.ok (.ref 0) [.dct kvs]/\FP t (λ_ _=>True) 64 kvs:=by
 have n8:=C.n8;have f:(t.map zj).length=t.length:=af ..;obtain⟨o,B,e,kvs,g,hf,u,s,d,Y,H⟩:=wk (j:=yB (zr t) t.length) (st:=turn (jf 2 3) (zp (jA (yA zU) (jf 4 5) (zp (jS (Jk g0 zt qk (qz (zc zJ (zc ql zq))))) zw)) zw)) (N:=t.length)
  (I:=λa ρ B=>∃kvs,B=[.dct kvs]/\FP t (λx _=>x<a) (a * 8) kvs/\∃u s d Y,ρ=[some (zr t),some (.ref 0),u,s,d,Y])
  (λa ρ B z ⟨kvs,g,hf,u,s,d,Y,H⟩=>by
   subst g H;have v:=C.sq _ (yy z);have n:((t.getD a []).map W.int).length=t.length:=by rw[af,v]
   obtain⟨o,B,e,K,g,c,r,q,H⟩:=wk (j:=yB (.tup ((t.getD a []).map W.int)) ((t.getD a []).map W.int).length) (st:=turn (jf 4 5) (zp (jS (Jk g0 zt qk (qz (zc zJ (zc ql zq))))) zw)) (N:=t.length)
    (I:=λb ρ B=>∃kvs,B=[.dct kvs]/\FP t (λx y=>x<a∨(x=a/\y<b)) (a * 8+b) kvs/\∃d Y,ρ=[some (zr t),some (.ref 0),some (.int (a:Int)),some (zj (t.getD a [])),d,Y])
    (λb ρ B E ⟨kvs,g,hf,d,Y,H⟩=>by
     subst g H;obtain⟨w,K,e,c⟩:=hf.step (a:=a) (b:=b) (d':=λx y=>x<a∨(x=a/\y<b+1)) (x3:=some (zj (t.getD a []))) z E (λx y h=>by omega) (by omega)
     exact⟨_,_,[.dct K],Qz (int_at (by omega)),(kE rfl).trans ((zG (yH e)).trans qG),K,rfl,c,_,_,rfl⟩)
    (λρ B _=>by have:=Qt (A:=B) (ws:=(t.getD a []).map W.int);rw[n]at this ⊢;exact this) t.length 0 [some (zr t),some (.ref 0),some (.int (a:Int)),some (zj (t.getD a [])),d,Y] [.dct kvs] (by omega)
    ⟨kvs,rfl,⟨hf.all,λx y i l h=>hf.seen x y i l (by omega),by have:=hf.len;omega⟩,_,_,rfl⟩
   subst g H;refine⟨.tup [.int (a:Int),zj (t.getD a [])],[some (zr t),some (.ref 0),some (.int (a:Int)),some (zj (t.getD a [])),r,q],[.dct K],?_,(kE (ρ1:=[some (zr t),some (.ref 0),some (.int (a:Int)),some (zj (t.getD a [])),d,Y]) rfl).trans ((zG ((wq (Qc (zl rfl))).trans ?_)).trans qG),K,rfl,⟨c.all,λx y i l h=>c.seen x y i l (by omega),by have:=c.len;omega⟩,_,_,_,_,rfl⟩
   ·have:=Qz (A:=[O.dct kvs]) (J4 z)
    rw[f]at this;exact this
   ·have:(yB (.tup ((t.getD a []).map W.int)) ((t.getD a []).map W.int).length).len=t.length:=n
    rw[this];exact e)
  (λρ B _=>by have:=Qt (A:=B) (ws:=t.map zj);rw[f]at this;exact this) t.length 0 [some (zr t),some (.ref 0),none,none,none,none] [.dct []] (by omega)
  ⟨[],rfl,⟨λp D=>(by cases D),λx y _ _ h=>absurd h (not_lt_zero _),zero_le _⟩,_,_,_,_,rfl⟩
 subst g H;refine⟨kvs,qS ?_,hf.all,λx y i l _=>hf.seen x y i l i,by have:=hf.len;omega⟩
 unfold V3;refine(zG (qB (w:=.ref 0) (A1:=[.dct []]) rfl)).trans ?_;have hm:yA zm [some (zr t),some (.ref 0),none,none,none,none] [.dct []]=.ok (yB (zr t) t.length) [.dct []]:=by
  have:=Qc (m:=qx 0) (ρ:=[some (zr t),some (.ref 0),none,none,none,none]) (A:=[.dct []]) (A1:=[.dct []]) (ws:=t.map zj) (zl rfl)
  rw[f]at this;exact this
 exact(zG ((wq hm).trans e)).trans (qQ (jc (zl rfl)))
theorem FP.nr {d:Nat->Nat->Prop}{m:Nat}(h:FP t d m kvs):qP (kvs.map (·.2))=true:=by
 have:∀l:List (Key×W),(∀p∈l,p.2.nr=true)->qP (l.map (·.2))=true:=by
  intro l
  induction l with
  |nil=>intro _;rfl|cons p l i=>
   intro H;show(p.2.nr&&qP (l.map (·.2)))=true;rw[H p (av ..),i λq c=>H q (au _ c)]
   rfl
 refine this kvs λp H=>?_;obtain⟨a,b,_,_,rfl⟩:=h.all p H
 rfl
def FP.get {m:Nat}(h:FP t (λ_ _=>True) m kvs)(d:qa t)(n:qu t=(K:Int))(l:k<K):∃a b:Nat,a<t.length/\b<t.length/\at2 t a b=(k:Int)/\jQ (.inl (k:Int)) kvs=some (.tup [.int (a:Int),.int (b:Int)]):=by
 obtain⟨a,b,g,f,e⟩:=G8 d (v:=k) (by omega)
 obtain⟨w,hw⟩:=h.seen a b g f trivial;rw[e]at hw;obtain⟨A,B,c,H,j⟩:=h.all _ (Se hw);injection j with E i
 injection E with E
 exact⟨A,B,c,H,E.symm,by rw[hw,i]⟩
def Hf (n:qa t)(s:kZ t)(A:Hx):WG [zr t] A=.ok .non A:=by
 have n8:=n.n8;have U:=km n;have o:(t.map zj).length=t.length:=af ..;obtain⟨K,P⟩:=aU (show 0<=qu t by omega)
 obtain⟨kvs,S,hf⟩:=Sw n;obtain⟨r,B,e,H,E,D,C,v,f,d,Y,y,h⟩:=wk (j:=Yk kvs) (st:=turn (Ko 1 2 3) (zp (z8 4 (zA gu (zc zm (zc zJ (zc zU zq))))) (zp (jA (yA zm) (jf 5 6) (zp (jA (yA jw) (jf 7 8) (zp (qy (jl (zi jg QK zt) (zi qj (zA gu (zc zm (zc qk (zc yi zq)))) ql)) (zp (qt (qz (zc zJ (zc zU (zc qk (zc yi zq)))))) zw) zw) zw)) zw)) zw))) (N:=kvs.length)
  (I:=λ_ ρ B=>B=[]/\∃E D C v f d Y y,ρ=[some (zr t),E,D,C,v,f,d,Y,y])
  (λi ρ B hi ⟨H,E,D,C,v,f,d,Y,y,h⟩=>by
   subst H h;obtain⟨a,b,M,L,Q⟩:=hf.all kvs[i] (aK hi);obtain⟨r,B,e,H,z,x,l,g,h⟩:=wk (j:=yB (zr t) t.length) (st:=turn (jf 5 6) (zp (jA (yA jw) (jf 7 8) (zp (qy (jl (zi jg QK zt) (zi qj (zA gu (zc zm (zc qk (zc yi zq)))) ql)) (zp (qt (qz (zc zJ (zc zU (zc qk (zc yi zq)))))) zw) zw) zw)) zw)) (N:=t.length)
    (I:=λ_ ρ B=>B=[]/\∃f d Y y,ρ=[some (zr t),some (.int (at2 t a b)),some (.int (a:Int)),some (.int (b:Int)),some (zr (yj t K a b)),f,d,Y,y])
    (λc ρ B w ⟨H,f,d,Y,y,h⟩=>by
     subst H h;have J:=n.sq _ (yy w);have u:((t.getD c []).map W.int).length=t.length:=by rw[af,J]
     obtain⟨r,B,e,H,l,g,h⟩:=wk (j:=yB (.tup ((t.getD c []).map W.int)) ((t.getD c []).map W.int).length) (st:=turn (jf 7 8) (zp (qy (jl (zi jg QK zt) (zi qj (zA gu (zc zm (zc qk (zc yi zq)))) ql)) (zp (qt (qz (zc zJ (zc zU (zc qk (zc yi zq)))))) zw) zw) zw)) (N:=t.length)
      (I:=λ_ ρ B=>B=[]/\∃Y y,ρ=[some (zr t),some (.int (at2 t a b)),some (.int (a:Int)),some (.int (b:Int)),some (zr (yj t K a b)),some (.int (c:Int)),some (zj (t.getD c [])),Y,y])
      (λe ρ B he ⟨H,Y,y,h⟩=>by
       subst H h;have eq:=(zK (ρ:=[some (zr t),some (.int (at2 t a b)),some (.int (a:Int)),some (.int (b:Int)),some (zr (yj t K a b)),some (.int (c:Int)),some (zj (t.getD c [])),some (.int (e:Int)),some (.int (at2 t c e))]) (A:=[]) (zl (i:=8) rfl) (zl (i:=1) rfl)).trans (Jt (at2 t c e) (at2 t a b) []);have test:jl (zi jg QK zt) (zi qj (zA gu (zc zm (zc qk (zc yi zq)))) ql) [some (zr t),some (.int (at2 t a b)),some (.int (a:Int)),some (.int (b:Int)),some (zr (yj t K a b)),some (.int (c:Int)),some (zj (t.getD c [])),some (.int (e:Int)),some (.int (at2 t c e))] []=.ok (.bl false) []:=by
        by_cases q:at2 t c e=at2 t a b
        ·rw[ay q]at eq
         refine(kG eq).trans ((zK ((zW (zy (zl rfl) (zy (zl rfl) (zy (zl rfl) zP)))).trans (Gj n P w he [])) (zl rfl)).trans ?_);rw[TV (K:=K) n s w he M L q];exact neT _ _
        ·rw[aC q]at eq
         exact Qs eq
       exact⟨_,_,[],Qz (int_at (by omega)),(kE rfl).trans ((zG ((js test).trans qG)).trans qG),rfl,_,_,rfl⟩)
      (λρ B _=>by have:=Qt (A:=B) (ws:=(t.getD c []).map W.int);rw[u]at this ⊢;exact this) t.length 0 [some (zr t),some (.int (at2 t a b)),some (.int (a:Int)),some (.int (b:Int)),some (zr (yj t K a b)),some (.int (c:Int)),some (zj (t.getD c [])),Y,y] [] (by omega) ⟨rfl,_,_,rfl⟩
     subst H h;refine⟨.tup [.int (c:Int),zj (t.getD c [])],[some (zr t),some (.int (at2 t a b)),some (.int (a:Int)),some (.int (b:Int)),some (zr (yj t K a b)),some (.int (c:Int)),some (zj (t.getD c [])),l,g],[],?_,(kE (ρ1:=[some (zr t),some (.int (at2 t a b)),some (.int (a:Int)),some (.int (b:Int)),some (zr (yj t K a b)),some (.int (c:Int)),some (zj (t.getD c [])),Y,y]) rfl).trans ((zG ((wq (Qc (zl rfl))).trans ?_)).trans qG),rfl,_,_,_,_,rfl⟩
     ·have:=Qz (A:=[]) (J4 w)
      rw[o]at this;exact this
     ·have:(yB (.tup ((t.getD c []).map W.int)) ((t.getD c []).map W.int).length).len=t.length:=u
      rw[this];exact e)
    (λρ B _=>by have:=Qt (A:=B) (ws:=t.map zj);rw[o]at this;exact this) t.length 0 [some (zr t),some (.int (at2 t a b)),some (.int (a:Int)),some (.int (b:Int)),some (zr (yj t K a b)),f,d,Y,y] [] (by omega) ⟨rfl,_,_,_,_,rfl⟩
   subst H h;have hm:yA zm [some (zr t),some (.int (at2 t a b)),some (.int (a:Int)),some (.int (b:Int)),some (zr (yj t K a b)),f,d,Y,y] []=.ok (yB (zr t) t.length) []:=by
    have:=Qc (m:=qx 0) (ρ:=[some (zr t),some (.int (at2 t a b)),some (.int (a:Int)),some (.int (b:Int)),some (zr (yj t K a b)),f,d,Y,y]) (A:=[]) (A1:=[]) (ws:=t.map zj) (zl rfl)
    rw[o]at this;exact this
   refine⟨.tup [.int (at2 t a b),.tup [.int (a:Int),.int (b:Int)]],[some (zr t),some (.int (at2 t a b)),some (.int (a:Int)),some (.int (b:Int)),some (zr (yj t K a b)),z,x,l,g],[],?_,(kE (ρ1:=[some (zr t),some (.int (at2 t a b)),some (.int (a:Int)),some (.int (b:Int)),v,f,d,Y,y]) rfl).trans ?_,rfl,_,_,_,_,_,_,_,_,rfl⟩
   ·show some (kvs[i]?.map λp=>W.tup [kW p.1,p.2])=_
    rw[aa hi,Q]
    rfl
   ·exact(zG (qB ((zW (zy (zl rfl) (zy (zl rfl) (zy (zl rfl) zP)))).trans (Gj n P M L [])))).trans ((zG ((wq hm).trans e)).trans qG))
  (λρ B _=>by
   show some (kvs[kvs.length]?.map λp=>W.tup [kW p.1,p.2])=_;rw[aB (aj _)]
   rfl) kvs.length 0 [some (zr t),none,none,none,none,none,none,none,none] [] (by omega) ⟨rfl,_,_,_,_,_,_,_,_,rfl⟩
 subst H h;refine kf (A1:=[]) (Z5 t) rfl (qS ?_);unfold VM;have hit:Ya (zA QR (zc zm zq)) [some (zr t),none,none,none,none,none,none,none,none] []=.ok (Yk kvs) []:=by
  unfold Ya;dsimp only;have T:zA QR (zc zm zq) [some (zr t),none,none,none,none,none,none,none,none] []=.ok (.ref 0) [.dct kvs]:=(zW (zy (zl rfl) zP)).trans (Ru (Z5 t) S rfl hf.nr);rw[T,zM];exact ah hf.nr
 exact(zG ((wq hit).trans e)).trans (qQ (jc qh))
def Gm {S:Nat->List (bO)}(h:qa t)(e:qu t=(K:Int))(l:∀a b,a<t.length->b<t.length->yj t K a b=S (at2 t a b).toNat)(A:Hx):JG [zr t] A=.ok (.ref A.length) (A++[.lst ((List.range K).map λk=>zr (S k))]):=by
 have n8:=h.n8;have y:=km h;obtain⟨kvs,p,hf⟩:=Sw h;have ch:∀k:Nat,∃q:Nat×Nat,k<K->q.1<t.length/\q.2<t.length/\at2 t q.1 q.2=(k:Int)/\jQ (.inl (k:Int)) kvs=some (.tup [.int (q.1:Int),.int (q.2:Int)]):=λk=>by
  by_cases j:k<K
  ·obtain⟨a,b,d,c,f,o⟩:=hf.get h e j
   exact⟨(a,b),λ_=>⟨d,c,f,o⟩⟩
  ·exact⟨(0,0),λz=>absurd z j⟩
 obtain⟨fp,H⟩:=Classical.axiomOfChoice ch;have x:zA QR (zc zm zq) [some (zr t),none,none] []=.ok (.ref 0) [.dct kvs]:=(zW (zy (zl rfl) zP)).trans (Ru (Z5 t) p rfl hf.nr);have hm:=Qg (m:=zA kA (zc zm zq)) (ρ:=[some (zr t),some (.ref 0),none]) (A:=[.dct kvs]) (A1:=[.dct kvs]) (k:=(K:Int)) ((zW (zy (zl rfl) zP)).trans ((Qm h _).trans (by rw[e]))) (yY (by omega))
 rw[aE]at hm;have s:=wR (cap:=[1]) (me:=zi KH zt zm) (ρ:=[some (zr t),some (.ref 0),none]) (A:=[.dct kvs]) (N:=K) (item:=λi=>.int (0+(i:Int))) (g:=λk=>.tup [.int ((fp k).1:Int),.int ((fp k).2:Int)]) hm rfl (by unfold zT;omega) (λi hi=>wD hi) (wA (by omega)) (λi hi=>by
  refine(zK (zl (i:=1) (w:=.ref 0) rfl) (zl (i:=0) (w:=.int (0+(i:Int))) rfl)).trans ?_;rw[zero_add];show(match jQ (.inl (i:Int)) kvs with|some w=>R.ok w [.dct kvs]|none=>.bad)=_
  rw[(H i hi).2.2.2])
 have E:=kY s;have r:=Mg (A:=[.dct kvs]++[.lst ((List.range K).map λk=>.tup [.int ((fp k).1:Int),.int ((fp k).2:Int)])]) (cap:=[0]) (ρ:=[some (zr t),some (.ref 0),some (.ref 1)]) (me:=zA gu (zc zJ (zc zm (zc zt zq)))) (mi:=zY zJ) (N:=K) (u:=λk=>.int ((fp k).1:Int)) (v:=λk=>.int ((fp k).2:Int)) (g:=λk=>zr (S k)) (gZ (n:=1) (zl rfl) rfl) (by show((List.range K).map _).length=K;rw[af,aF]) (by omega)
  (λi hi=>Qw (n:=1) rfl (by rw[ao,aT hi];rfl))
  (Qu (n:=1) rfl (by rw[af,aF];exact aj _))
  (λi hi=>by
   obtain⟨d,c,f,_⟩:=H i hi;refine(zW (ws:=[zr t,.int ((fp i).1:Int),.int ((fp i).2:Int)]) (zy (zl rfl) (zy (zl rfl) (zy (zl rfl) zP)))).trans ((Gj h e d c _).trans ?_);rw[l _ _ d c,f,aE])
 refine JZ (k:=2) (A1:=[.dct kvs]++[.lst ((List.range K).map λk=>.tup [.int ((fp k).1:Int),.int ((fp k).2:Int)])]++[.lst ((List.range K).map λk=>zr (S k))]) (Z5 t) (qS ?_) rfl (Jd (λ_=>yZ _) _);unfold V7;refine(zG (qB x)).trans ?_;refine(zG (qB E)).trans ?_;exact qQ (jc (kY r))
def RN (h:qa t)(s:kZ t)(A:Hx):JB [zr t] A=.ok .non A:=by
 unfold JB WA;refine Kc (ρ:=[some (zr t)]) ?_;unfold Vx;exact(zG (yH ((zW (zy (zl rfl) zP)).trans (QZ h A)))).trans ((zG ((js ((zK ((zW (zy (zl rfl) zP)).trans (Hf h s A)) qh).trans rfl)).trans qG)).trans qG)
end
theorem Ri:∀(l:bO)(s:Int),yw l s=s+l.sum
 |[],s=>by simp[yw]|v::l,s=>by
  show yw l (s+v)=_;rw[Ri l,List.sum_cons];omega
def GJ (l:bO):kN (l.map W.int) A=.ok (.int l.sum) A:=by
 unfold kN;rw[QW];dsimp only;rw[Ri,zero_add]
noncomputable def sm (n:Nat)(f:Nat->Int):Int:=((List.range n).map f).sum
def Za (n:Nat)(f:Nat->Int):sm (n+1) f=sm n f+f n:=by
 unfold sm;rw[bb,aG,List.sum_append];simp
def wW {f g:Nat->Int}(h:∀i,i<n->f i=g i):sm n f=sm n g:=by
 unfold sm
 congr 1
 exact aY λi hi=>h i (b6.mp hi)
def Q7 (n:Nat):sm n (λ_=>0)=0:=by
 induction n with
 |zero=>rfl|succ n i=>rw[Za,i];rfl
def ds (K:Nat)(f:Nat->Nat->Int):Int:=sm K λi=>sm K (f i)
def Y4 {K:Nat}{f g:Nat->Nat->Int}(h:∀i j,i<K->j<K->f i j=g i j):ds K f=ds K g:=wW λi hi=>wW λj H=>h i j hi H
def F8 (K:Nat)(f:Nat->Nat->Int):((List.range K).flatMap λi=>(List.range K).map (f i)).sum=ds K f:=by
 have:∀m,((List.range m).flatMap λi=>(List.range K).map (f i)).sum=sm m λi=>sm K (f i):=by
  intro m
  induction m with
  |zero=>rfl|succ m I=>
   rw[bb,bA,List.sum_append,I,Za];simp[sm]
 exact this K
abbrev HS (t:bN)(K:Nat)(S:Nat->List (bO)):Prop:=∀a b,a<t.length->b<t.length->yj t K a b=S (at2 t a b).toNat
section
variable {x y:bO}{a b c k K:Nat}{S:Nat->List (bO)}
def pv (K:Nat)(S:Nat->List (bO))(x y:bO):bO:=(List.range K).map λk=>ds K λi j=>x.getD i 0 * y.getD j 0 * at2 (S k) i j
def RT:(pv K S x y).length=K:=by unfold pv;rw[af,aF]
def Pw (h:k<K):(pv K S x y).getD k 0=ds K λi j=>x.getD i 0 * y.getD j 0 * at2 (S k) i j:=by
 unfold pv;rw[ab,ao,aT h]
 rfl
def Ac (h:qa t)(d:a<t.length)(H:b<t.length)(i j:Nat):0<=shr t a b t.length i j/\shr t a b t.length i j<=8:=by
 rw[YW h d H _ (aj _)]
 have:=List.count_le_length (a:=((i:Int),(j:Int))) (l:=(List.range t.length).map λc=>(at2 t a c,at2 t b c))
 rw[af,aF]at this
 have:=h.n8
 omega
variable {N:bN}{e j r:Nat}{B:Hx}{μ:Nat->Nat->Int}
def Cj {i j:Int}(H:-1000000000000000<j)(h:j<1000000000000000):qw (.int i) (.int j) A=.ok (.int (i * j)) A:=by
 unfold qw;dsimp only;rw[ah];unfold QI;rw[bI]
 right
 rw[ak,ag,ag];omega
def CH {i j:Int}(H:-1000000000000000000<i)(h:i<1000000000000000000):qw (.int i) (.int j) A=.ok (.int (i * j)) A:=by
 unfold qw;dsimp only;rw[ah];unfold QI;rw[bI]
 left
 rw[ak,ag,ag];omega
def Gd (x y:bO):Prop:=∀(i j:Nat)(A:Hx),qw (.int (x.getD i 0)) (.int (y.getD j 0)) A=.ok (.int (x.getD i 0 * y.getD j 0)) A
def PV {us vs:List W}{u v:W}(H:us[i]? =some u)(h:vs[i]? =some v):(kM (.tup us) (.tup vs) us.length).at_ A i=some (some (.tup [u,v])):=by
 show some (zip2 us[i]? vs[i]?)=_;rw[H,h]
 rfl
def Pb {us vs:List W}(h:us.length<=i):(kM (.tup us) (.tup vs) us.length).at_ A i=some none:=by
 show some (zip2 us[i]? vs[i]?)=_;rw[aB h]
 rfl
def Ht (hi:i<K):((j8 K μ).map zj)[i]? =some (zj ((List.range K).map (μ i))):=by
 unfold j8;rw[ao,ao,aT hi]
 rfl
def EH (p:x.length=K)(o:y.length=K)(sy:Gd x y)(u:K<=8)(g:∀i j,0<=μ i j/\μ i j<=8)(A:Hx):YE [zr (j8 K μ),zj x,zj y] A=.ok (.int (ds K λi j=>x.getD i 0 * y.getD j 0 * μ i j)) A:=by
 refine kf (A1:=[]) (by show((zr (j8 K μ)).nr&&((zj x).nr&&((zj y).nr&&true)))=true;rw[yZ,kF,kF];rfl) rfl (qS ?_)
 unfold Uc;have hm:wJ zt zm [some (zr (j8 K μ)),some (zj x),some (zj y)] []=.ok (kM (.tup (x.map W.int)) (.tup ((j8 K μ).map zj)) (x.map W.int).length) []:=Y0 (zl rfl) (zl rfl);obtain⟨c,acc,B,e,_,b,h⟩:=wU (nl:=4) (cap:=[2]) (tw:=jf 0 1) (ifs:=z7 (.bl true)) (em:=yQ (wJ ql zt) (jf 2 3) zQ (zH (zi qw (zi qw zm zJ) zU))) (N:=K)
  (I:=λi ρ acc B=>(∃n m a Y,ρ=[n,m,a,Y,some (zj y)])/\B=[]/\acc=(((List.range i).flatMap λi=>(List.range K).map λj=>x.getD i 0 * y.getD j 0 * μ i j)).map W.int) hm (by show(x.map W.int).length=K;rw[af,p])
  (λi ρ acc B hi ⟨⟨n,m,a,Y,H⟩,b,h⟩=>by
   subst H b h;refine⟨_,[some (.int (x.getD i 0)),some (zj ((List.range K).map (μ i))),a,Y,some (zj y)],PV (int_at (by omega)) (Ht hi),rfl,.inl ?_⟩
   obtain⟨c,acc,B,e,⟨f,d,H⟩,b,h⟩:=JU (j:=kM (.tup (y.map W.int)) (.tup (((List.range K).map (μ i)).map W.int)) (y.map W.int).length) (tw:=jf 2 3) (ifs:=z7 (.bl true)) (em:=zH (zi qw (zi qw zm zJ) zU)) (N:=K)
    (I:=λj ρ acc B=>(∃a Y,ρ=[some (.int (x.getD i 0)),some (zj ((List.range K).map (μ i))),a,Y,some (zj y)])/\B=[]/\acc=(((List.range i).flatMap λi=>(List.range K).map λj=>x.getD i 0 * y.getD j 0 * μ i j)++(List.range j).map λj=>x.getD i 0 * y.getD j 0 * μ i j).map W.int)
    (λj ρ acc B t ⟨⟨a,Y,H⟩,b,h⟩=>by
     subst H b h;have r:=g i j;refine⟨_,[some (.int (x.getD i 0)),some (zj ((List.range K).map (μ i))),some (.int (y.getD j 0)),some (.int (μ i j)),some (zj y)],PV (int_at (by omega)) (by rw[ao,ao,aT t];rfl),rfl,.inl ⟨[],_,_,[],rfl,wV (y:=.int (x.getD i 0 * y.getD j 0 * μ i j)) ?_ ?_,⟨_,_,rfl⟩,rfl,?_⟩⟩
     ·exact(zK ((zK (zl rfl) (zl rfl)).trans (sy i j _)) (zl rfl)).trans (Cj (by omega) (by omega))
     ·rw[af,aw,af,aF,List.length_flatMap]
      have:((List.range i).map λi=>((List.range K).map λj=>x.getD i 0 * y.getD j 0 * μ i j).length).sum=i * K:=by
       have:((List.range i).map λi=>((List.range K).map λj=>x.getD i 0 * y.getD j 0 * μ i j).length)=List.replicate i K:=by
        refine List.eq_replicate_iff.mpr ⟨by simp,λz l=>?_⟩
        obtain⟨q,_,rfl⟩:=b7.mp l;simp
       rw[this,List.sum_replicate_nat]
      rw[this]
      have:i * K<=7 * 8:=Nat.mul_le_mul (by omega) (by omega)
      unfold zT;omega
     ·rw[bb,aG,aG,aG,aG,aO]
      rfl)
    (λρ acc B _=>Pb (by rw[af];omega)) K 0 [some (.int (x.getD i 0)),some (zj ((List.range K).map (μ i))),a,Y,some (zj y)] ((((List.range i).flatMap λi=>(List.range K).map λj=>x.getD i 0 * y.getD j 0 * μ i j)).map W.int) [] (by omega) ⟨⟨_,_,rfl⟩,rfl,by simp⟩
   subst H b h;refine⟨[],[some (.int (x.getD i 0)),some (zj ((List.range K).map (μ i))),f,d,some (zj y)],(((List.range i).flatMap λi=>(List.range K).map λj=>x.getD i 0 * y.getD j 0 * μ i j)++(List.range K).map λj=>x.getD i 0 * y.getD j 0 * μ i j).map W.int,[],rfl,?_,⟨_,_,_,_,rfl⟩,rfl,?_⟩
   ·unfold yQ
    have l:wJ ql zt [some (.int (x.getD i 0)),some (zj ((List.range K).map (μ i))),a,Y,some (zj y)] []=.ok (kM (.tup (y.map W.int)) (.tup (((List.range K).map (μ i)).map W.int)) (y.map W.int).length) []:=Y0 (zl rfl) (zl rfl);rw[l,zM];have s:(kM (.tup (y.map W.int)) (.tup (((List.range K).map (μ i)).map W.int)) (y.map W.int).length).len=K:=by show(y.map W.int).length=K;rw[af,o]
    rw[s];exact e
   ·rw[bb,bA]
    simp)
  (λρ acc B _=>Pb (by rw[af];omega)) ⟨⟨_,_,_,_,rfl⟩,rfl,rfl⟩
 subst b h;refine qQ (jc ((jJ e).trans ?_));rw[GJ,F8]
def Sk (h:qa t)(g:qu t=(K:Int))(d:HS t K S)(f:k<K):∃μ,S k=j8 K μ/\∀i j,0<=μ i j/\μ i j<=8:=by
 obtain⟨a,b,c,H,e⟩:=G8 h (v:=k) (by omega)
 exact⟨shr t a b t.length,by have:=d a b c H;rw[e,aE]at this;rw[<- this];rfl,λi j=>Ac h c H i j⟩
def As (a:qa t)(m:qu t=(K:Int))(l:HS t K S)(c:x.length=K)(b:y.length=K)(sy:Gd x y)(H:A[r]? =some (.lst ((List.range K).map λk=>zr (S k)))):JK [.ref r,zj x,zj y] A=.ok (zj (pv K S x y)) A:=by
 have n:=km a;unfold JK Gg;refine qS ?_;unfold U5;have e:=wR (cap:=[1,2]) (mi:=zY zm) (me:=zA YE (zc zm (zc zt (zc zJ zq)))) (ρ:=[some (.ref r),some (zj x),some (zj y)]) (A:=A) (N:=K) (item:=λk=>zr (S k)) (g:=λk=>.int (ds K λi j=>x.getD i 0 * y.getD j 0 * at2 (S k) i j)) (gZ (zl rfl) H) (by show((List.range K).map _).length=K;rw[af,aF]) (by unfold zT;omega)
  (λi hi=>Qw H (by rw[ao,aT hi];rfl)) (Qu H (by rw[af,aF];exact aj _))
  (λk d=>by
   obtain⟨μ,E,h⟩:=Sk a m l d;refine(zW (ws:=[zr (S k),zj x,zj y]) (A1:=A) rfl).trans ?_;rw[E,EH c b sy (by omega) h A]
   congr 2
   exact Y4 λi j hi f=>by rw[Jb hi f])
 refine qQ (jc ((gE e).trans ?_));unfold pv zj;rw[aL]
 rfl
end
noncomputable def sv:bO:=[-3,-2,-1,0,1,2,3]
def Zl (m:bO):bN:=sv.map λv=>m++[v]
def Ml:Nat->List (bO)
 |0=>[[]]|n+1=>(Ml n).flatMap Zl
def I9 (m:bO):(Zl m).length=7:=rfl
def Tp (l:bN):(l.flatMap Zl).length=7 * l.length:=by
 induction l with
 |nil=>rfl|cons m l i=>rw[flatMap_cons,aw,i,I9,aS];omega
theorem Xk:∀n,(Ml n).length=7 ^ n
 |0=>rfl|n+1=>by
  show((Ml n).flatMap Zl).length=_;rw[Tp,Xk n,Nat.pow_succ,Nat.mul_comm]
theorem Kk:∀{n:Nat}{m:bO},m∈Ml n->m.length=n/\∀v∈m,-3<=v/\v<=3
 |0,m,h=>by
  rw[cb.mp h];exact⟨rfl,λv a=>by cases a⟩
 |n+1,m,h=>by
  obtain⟨m',d,c⟩:=List.mem_flatMap.mp h;obtain⟨v,b,rfl⟩:=b7.mp c;obtain⟨g1,g2⟩:=Kk d;refine⟨by rw[aw,g1];rfl,λu H=>?_⟩
  rcases cf.mp H with H|H
  ·exact g2 u H
  ·rw[cb.mp H]
   simp only[sv,mem_cons,not_mem_nil,or_false]at b;omega
def Ae {q:Nat}(h:q<7)(m:bO):(Zl m)[q]? =some (m++[-3+(q:Int)]):=by
 have:q=0∨q=1∨q=2∨q=3∨q=4∨q=5∨q=6:=by omega
 rcases this with rfl|rfl|rfl|rfl|rfl|rfl|rfl<;>rfl
def take_one {l:List α}{q:Nat}{x:α}(h:l[q]? =some x):l.take (q+1)=l.take q++[x]:=by
 rw[List.take_add_one,h]
 rfl
def AZ (h:i<=4):7 ^ i<=2401:=by
 have:i=0∨i=1∨i=2∨i=3∨i=4:=by omega
 rcases this with rfl|rfl|rfl|rfl|rfl<;>decide
def Fx (l:bN):qP (l.map zj)=true:=by
 induction l with
 |nil=>rfl|cons m l i=>
  show((zj m).nr&&qP (l.map zj))=true;rw[kF,i]
  rfl
section
variable {m:bO}{v:Int}{B C:Hx}{K p q:Nat}
def Rk {m1:Ex}{m:Ev}{N:Nat}{z:R Fl}(hm:m ρ A=.ok (.ref p) B)(h:B[p]? =some (.lst ws))(H:ws.length=N)(e:yd ⟨λA i=>(z0 (.ref p) A).map λws=>ws[i]?,ws.length⟩ (turn tw m1) N 0 ρ B=z):jA (zY m) tw m1 ρ A=z:=by
 subst H;exact(wq (gZ hm h)).trans e
def Sd (h:m.length<=100):qL (zj m) (.tup [.int v]) A=.ok (zj (m++[v])) A:=by
 unfold qL zj;dsimp only;rw[ah (by rw[af];unfold zT;simp;omega),aG]
 rfl
abbrev e7:Em:=yQ (yT (jq k6 jM) (zi qL jM qc)) (zE 1) zQ (zH (zi qL zm (qz (zc zt zq))))
def cI {y:Option W}(hm:m.length<=100)(l:acc.length<=50000):∃Y,e7 [some (zj m),y] acc C=.ok ([some (zj m),Y],acc++(Zl m).map zj) C:=by
 obtain⟨c,a,g,e,⟨Y,h⟩,f,H⟩:=JU (j:=yR (-3) 7) (tw:=zE 1) (ifs:=z7 (.bl true)) (em:=zH (zi qL zm (qz (zc zt zq)))) (N:=7)
  (I:=λq ρ a D=>(∃y,ρ=[some (zj m),y])/\D=C/\a=acc++((Zl m).take q).map zj)
  (λq ρ a D b ⟨⟨y,h⟩,d,H⟩=>by
   subst h d H;refine⟨_,[some (zj m),some (.int (-3+(q:Int)))],wD b,rfl,.inl ⟨D,_,_,D,rfl,wV (y:=zj (m++[-3+(q:Int)])) ?_ ?_,⟨_,rfl⟩,rfl,?_⟩⟩
   ·exact(zK (zl rfl) (wX (zy (zl rfl) zP))).trans (Sd hm)
   ·rw[aw,af,a8]
    unfold zT;omega
   ·rw[take_one (Ae b m),aG,aO]
    rfl)
  (λρ a D _=>wA (by omega)) 7 0 [some (zj m),y] acc C (by omega) ⟨⟨_,rfl⟩,rfl,by simp⟩
 subst h f H;exact⟨Y,e⟩
def Eo (t:K<=4)(A:Hx):WW [.int (K:Int)] A=.ok (.ref A.length) (A++[.lst ((Ml K).map zj)]):=by
 have r:=Qg (m:=qx 0) (ρ:=[some (.int (K:Int)),some (.ref 0),none]) (A:=[.lst [.tup []]]) (A1:=[.lst [.tup []]]) (k:=(K:Int)) rfl (yY (by omega))
 rw[aE]at r;obtain⟨b,B,e,p,c,h,a⟩:=wk (j:=yR 0 K) (st:=turn (zE 2) (zp (z8 1 (qv (zN 2 [] (zY zt) (zE 0) zQ e7))) zw)) (N:=K)
  (I:=λi ρ B=>∃p c,ρ=[some (.int (K:Int)),some (.ref p),c]/\B[p]? =some (.lst ((Ml i).map zj)))
  (λi ρ B hi ⟨p,c,h,a⟩=>by
   subst h;have s:=AZ (i:=i) (by omega)
   have L:=Xk i;obtain⟨b,acc,C,e,_,n,d⟩:=wU (nl:=2) (cap:=[]) (mi:=zY zt) (tw:=zE 0) (ifs:=z7 (.bl true)) (em:=e7) (N:=(Ml i).length) (ρ:=[some (.int (K:Int)),some (.ref p),some (.int (0+(i:Int)))])
    (I:=λq ρ acc D=>(∃g Y,ρ=[g,Y])/\D=B/\acc=(((Ml i).take q).flatMap Zl).map zj) (gZ (zl rfl) a) (by show((Ml i).map zj).length=_;rw[af])
    (λq ρ acc D l ⟨⟨g,Y,h⟩,f,d⟩=>by
     subst h f d;have H:(Ml i)[q]? =some (Ml i)[q]:=aa l;obtain⟨o,e⟩:=cI (m:=(Ml i)[q]) (y:=Y) (acc:=(((Ml i).take q).flatMap Zl).map zj) (C:=D) (by have:=(Kk (aK l)).1;omega) (by rw[af,Tp,a8];omega)
     refine⟨zj (Ml i)[q],[some (zj (Ml i)[q]),Y],Qw a (by rw[ao,H];rfl),rfl,.inl ⟨D,_,_,D,rfl,e,⟨_,_,rfl⟩,rfl,?_⟩⟩
     rw[take_one H,bA,aG];simp)
    (λρ acc D ⟨_,f,_⟩=>by subst f;exact Qu a (by rw[af];exact aj _)) ⟨⟨_,_,rfl⟩,rfl,rfl⟩
   subst n d;rw[bw]at e;refine⟨_,[some (.int (K:Int)),some (.ref C.length),some (.int (0+(i:Int)))],_,wD hi,(kE (ρ1:=[some (.int (K:Int)),some (.ref p),some (.int (0+(i:Int)))]) rfl).trans ((zG ((qB (kY e)).trans rfl)).trans qG),_,_,rfl,jx⟩)
  (λρ B _=>wA (by omega)) K 0 [some (.int (K:Int)),some (.ref 0),none] [.lst [.tup []]] (by omega) ⟨_,_,rfl,rfl⟩
 subst h;refine JZ (k:=p) (A1:=B) rfl (qS ?_) a (Fx _);unfold VX;exact(zG (ρ1:=[some (.int (K:Int)),some (.ref 0),none]) (A1:=[.lst [.tup []]]) rfl).trans ((zG ((wq r).trans e)).trans (qQ (jc (zl rfl))))
end
theorem T7:∀(l:bO)(b:Int),gQ l b∈b::l
 |[],b=>av ..|x::l,b=>by
  have h:=T7 l (if x<b then x else b);show gQ l (if x<b then x else b)∈_;rcases b9.mp h with h|h
  ·rw[h]
   split
   ·exact au _ (av ..)
   ·exact av ..
  ·exact au _ (au _ h)
theorem GO:∀(l:bO)(b x:Int),x∈b::l->gQ l b<=x
 |[],b,x,h=>by rw[cb.mp h];exact Int.le_refl _|y::l,b,x,h=>by
  show gQ l (if y<b then y else b)<=x;have h0:=GO l (if y<b then y else b) (if y<b then y else b) (av ..);rcases b9.mp h with rfl|h
  ·split at h0<;>split<;>omega
  ·rcases b9.mp h with rfl|h
   ·split at h0<;>split<;>omega
   ·exact GO l _ x (au _ h)
def minD_mem {l:bO}(h:l≠[]):minD 0 l∈l:=by
 cases l with
 |nil=>exact absurd rfl h|cons b l=>exact T7 l b
def Hc {l:bO}:Zi 0 (l.map W.int) A=.ok (.int (minD 0 l)) A:=by
 unfold Zi;rw[QW]
def kx (K:Nat)(S:Nat->List (bO))(ks m:bO):bX:=
 if minD 0 (ks.map λk=>-((pv K S m m).getD k.toNat 0))<=0 then none else some ((pv K S m m).getD 0 0/minD 0 (ks.map λk=>-((pv K S m m).getD k.toNat 0))+1)
noncomputable def oI:Option Int->W
 |none=>.non|some v=>.int v
def wO (K:Nat)(S:Nat->List (bO))(ks:bO)(b:Option (List Int×Int))(m:bO):Option (List Int×Int):=match kx K S ks m with
 |none=>b|some v=>match b with
  |none=>some (m,v)|some c=>if v<c.2 then some (m,v) else some c
def bW:Option (List Int×Int)->W
 |none=>.non|some c=>zj c.1
noncomputable def lW:Option (List Int×Int)->W
 |none=>.non|some c=>.int c.2
structure yq (K:Nat)(ks:bO):Prop where
 lo:∀k∈ks,1<=k/\k<(K:Int)
 up:ks.Pairwise (· < ·)
 len:ks.length<=8
def Sl (m:bO):Prop:=∀v∈m,-4<=v/\v<=4
def Px {f:Nat->Int}{c:Int}(h:∀i,i<n->-c<=f i/\f i<=c):-((n:Int) * c)<=sm n f/\sm n f<=(n:Int) * c:=by
 induction n with
 |zero=>show -((0:Int) * c)<=0/\(0:Int)<=0 * c;rw[Int.zero_mul];omega|succ n I=>
  have a:=I λi hi=>h i (by omega)
  have H:=h n (by omega)
  have e:((n+1:Nat):Int) * c=(n:Int) * c+c:=by rw[natCast_succ,Int.add_mul,one_mul]
  rw[Za,e];omega
section
variable {x y ks m:bO}{b e j k K r q:Nat}{S:Nat->List (bO)}{μ:Nat->Nat->Int}{w:W}
def KG (h:Sl m)(i:Nat):-4<=m.getD i 0/\m.getD i 0<=4:=by
 by_cases hi:i<m.length
 ·rw[ab,aa hi]
  exact h _ (aK hi)
 ·rw[ab,aB (by omega)]
  exact⟨by decide,by decide⟩
def BS (h:Sl x):Gd x y:=λi j A=>CH (by have:=KG h i;omega) (by have:=KG h i;omega)
def F1 {u v w:Int}(b:-4<=u/\u<=4)(a:-4<=v/\v<=4)(H:0<=w/\w<=8):-128<=u * v * w/\u * v * w<=128:=by
 have h:-16<=u * v/\u * v<=16:=by
  have:u=-4∨u=-3∨u=-2∨u=-1∨u=0∨u=1∨u=2∨u=3∨u=4:=by omega
  rcases this with rfl|rfl|rfl|rfl|rfl|rfl|rfl|rfl|rfl<;>omega
 generalize u * v=z at h
 have:w=0∨w=1∨w=2∨w=3∨w=4∨w=5∨w=6∨w=7∨w=8:=by omega
 rcases this with rfl|rfl|rfl|rfl|rfl|rfl|rfl|rfl|rfl<;>omega
def Ab (H:qa t)(d:qu t=(K:Int))(c:HS t K S)(hm:Sl m)(k:Nat):-8192<=(pv K S m m).getD k 0/\(pv K S m m).getD k 0<=8192:=by
 have l:=km H
 by_cases a:k<K
 ·obtain⟨μ,E,h⟩:=Sk H d c a
  rw[Pw a];have g:∀i,i<K->-((K:Int) * 128)<=sm K (λj=>m.getD i 0 * m.getD j 0 * at2 (S k) i j)/\sm K (λj=>m.getD i 0 * m.getD j 0 * at2 (S k) i j)<=(K:Int) * 128:=λi hi=>Px λj b=>by
   rw[E,Jb hi b];exact F1 (KG hm i) (KG hm j) (h i j)
  have f:=Px g;unfold ds;dsimp only
  have:(K:Int)=1∨(K:Int)=2∨(K:Int)=3∨(K:Int)=4∨(K:Int)=5∨(K:Int)=6∨(K:Int)=7∨(K:Int)=8:=by omega
  rcases this with e|e|e|e|e|e|e|e<;>rw[e]at f<;>omega
 ·rw[ab,aB (by rw[RT];omega)]
  exact⟨by decide,by decide⟩
def GB (u:qa t)(J:qu t=(K:Int))(I:HS t K S)(s:yq K ks)(H:m.length=K)(hm:Sl m)(L:A[r]? =some (.lst ((List.range K).map λk=>zr (S k)))):
  Z6 [.ref r,zj ks,.tup [zj m]] A=.ok (oI (kx K S ks m)) (A++[.lst [zj (pv K S m m)]]++[.lst ((pv K S m m).map W.int)]):=by
 have kb:=km u;have a:(pv K S m m).length=K:=RT;have f:=Ab (S:=S) u J I hm;unfold Z6 WN;refine qS ?_;unfold V4;unfold kx;generalize X:pv K S m m=pp at a f ⊢;have T:qv (zN 1 [0] (zY zJ) (zE 0) zQ (zH (zA JK (zc zt (zc zm (zc zm zq)))))) [some (.ref r),some (zj ks),some (.tup [zj m]),none,none,none] A=.ok (.ref A.length) (A++[.lst [zj pp]]):=
  kY (ZI (cap:=[0]) (A:=A) (ρ:=[some (.ref r),some (zj ks),some (.tup [zj m]),none,none,none]) (ws:=[zj m]) (g:=λ_=>zj pp) (zl rfl) (by unfold zT;simp) (λw hw=>by
   rw[cb.mp hw,<- X];exact(zW (zy (zl rfl) (zy (zl rfl) (zy (zl rfl) zP)))).trans (As u J I H H (BS hm) L)))
 generalize h:A++[O.lst [zj pp]]=A1 at T;have D:A1[A.length]? =some (.lst [zj pp]):=by rw[<- h];exact jx
 have v:A1[r]? =some (.lst ((List.range K).map λk=>zr (S k))):=by rw[<- h];exact yz L
 have el:mQ qR (qi zm) [some (.ref r),some (zj ks),some (.tup [zj m]),some (.ref A.length),none,none] A1=.ok (.int (K:Int)) A1:=by
  rw[jJ (kD (w:=.ref r) (zl rfl) (by unfold z0;dsimp only;rw[v]))]
  unfold qR;rw[af,aF]
 have d:=Qg (k:=(K:Int)) el (yY (by omega))
 rw[aE]at d;have Q:=wR (cap:=[3]) (me:=mQ kN (zN 1 [0] (zY zt) (zE 0) zQ (zH (zi zI zm zt)))) (ρ:=[some (.ref r),some (zj ks),some (.tup [zj m]),some (.ref A.length),none,none]) (A:=A1) (N:=K) (item:=λi=>.int (0+(i:Int))) (g:=λk=>.int (pp.getD k 0)) d rfl (by unfold zT;omega) (λi hi=>wD hi) (wA (by omega)) (λi hi=>by
  rw[zero_add];have ec:=wR (cap:=[0]) (mi:=zY zt) (j:=⟨λA i=>(z0 (.ref A1.length.pred) A).map λws=>ws[i]?,[zj pp].length⟩) (me:=zi zI zm zt) (ρ:=[some (.int (i:Int)),some (.ref A.length)]) (A:=A1) (N:=1) (item:=λ_=>zj pp) (g:=λ_=>.int (pp.getD i 0)) (by
   have H:A1.length.pred=A.length:=by rw[<- h,aw];rfl
   rw[H];exact gZ (zl rfl) D) rfl (by unfold zT;omega) (λq U=>by
   have:q=0:=by omega
   subst this;have H:A1.length.pred=A.length:=by rw[<- h,aw];rfl
   rw[H];exact Qw D rfl) (by
   have H:A1.length.pred=A.length:=by rw[<- h,aw];rfl
   rw[H];exact Qu D (by simp)) (λq U=>(zK (zl rfl) (zl rfl)).trans (Yb (by omega)))
  refine(jJ ec).trans ?_
  have:((List.range 1).map λ_=>W.int (pp.getD i 0))=[pp.getD i 0].map W.int:=rfl
  rw[this,GJ];simp)
 have x:((List.range K).map λk=>W.int (pp.getD k 0))=pp.map W.int:=by rw[QQ pp 0 W.int,a]
 rw[x]at Q;have n:=kY Q;generalize C:A1++[O.lst (pp.map W.int)]=A2 at n;have M:A2[A1.length]? =some (.lst (pp.map W.int)):=by rw[<- C];exact jx
 have P:=ZI (cap:=[4]) (A:=A2) (ρ:=[some (.ref r),some (zj ks),some (.tup [zj m]),some (.ref A.length),some (.ref A1.length),none]) (ws:=ks.map W.int) (m:=qx 1) (me:=jq k6 (zi zI zt zm)) (g:=λw=>match w with|.int k=>.int (-(pp.getD k.toNat 0))|w=>w) (zl rfl) (by rw[af];have:=s.len;unfold zT;omega) (λw hw=>by
  obtain⟨k,Z,rfl⟩:=b7.mp hw;have Y:=s.lo k Z;obtain⟨j,rfl⟩:=aU (show 0<=k by omega)
  refine(G7 ((zK (zl rfl) (zl rfl)).trans (ZJ M (int_at (b:=j) (by omega))))).trans ?_
  rfl)
 have y:((ks.map W.int).map λw=>match w with|.int k=>W.int (-(pp.getD k.toNat 0))|w=>w)=(ks.map λk=>-(pp.getD k.toNat 0)).map W.int:=by rw[aL,aL];rfl
 rw[y]at P;have E:=(jJ (g:=Zi 0) P).trans Hc;have B:minD 0 (ks.map λk=>-(pp.getD k.toNat 0))<=8192:=by
  by_cases c:ks=[]
  ·rw[c]
   show(0:Int)<=8192;omega
  ·obtain⟨k,_,e⟩:=b7.mp (minD_mem (l:=ks.map λk=>-(pp.getD k.toNat 0)) (by intro z;exact c (List.map_eq_nil_iff.mp z)))
   rw[<- e]
   have:=f k.toNat
   omega
 generalize minD 0 (ks.map λk=>-(pp.getD k.toNat 0))=l at E B ⊢;refine(zG (qB T)).trans ?_;refine(zG (qB n)).trans ?_;refine(zG (qB E)).trans ?_;have p:zi jR qk qe [some (.ref r),some (zj ks),some (.tup [zj m]),some (.ref A.length),some (.ref A1.length),some (.int l)] A2=.ok (.bl (decide (l<=0))) A2:=(zK (zl rfl) qh).trans rfl
 by_cases o:l<=0
 ·rw[ay o]at p
  rw[ah o];exact qQ ((ZV p).trans (qQ (jc qh)))
 ·rw[aC o]at p
  rw[aq o];refine(zG ((js p).trans qG)).trans (qQ (jc ?_));exact(zK ((zK ((zK (zl rfl) (qh (w:=.int 0))).trans (ZJ M (int_at (b:=0) (by omega)))) (zl rfl)).trans (GW (by omega) (by omega))) qh).trans rfl
end
def LN {ifs:Ev}{N:Nat}
  (p:∀i ρ acc A,i<N->I i ρ acc A->∃w ρ1,j.at_ A i=some (some w)/\tw w ρ=some ρ1/\∃A1 c a A2,ifs ρ1 A=.ok (.bl true) A1/\em ρ1 acc A1=.ok (c,a) A2/\I (i+1) c a A2)
  (H:∀ρ acc A,I N ρ acc A->j.at_ A N=some none):
  ∀(f i:Nat)(ρ:En)(acc:List W)(A:Hx),i<=N->N<=i+f->I i ρ acc A->∃e b g,je j tw ifs em f i ρ acc A=.ok (e,b) g/\I N e b g:=by
 intro f
 induction f with
 |zero=>
  intro i ρ acc A h h' d
  have:i=N:=by omega
  subst this;refine⟨ρ,acc,A,?_,d⟩;unfold je;rw[H _ _ _ d]
 |succ f l=>
  intro i ρ acc A h h' d
  by_cases hi:i=N
  ·subst hi
   refine⟨ρ,acc,A,?_,d⟩;rw[je,H _ _ _ d]
  ·obtain⟨w,ρ1,n,m,A1,c,a,A2,q,o,E⟩:=p i ρ acc A (by omega) d
   rw[je,n];dsimp only;rw[m];dsimp only;rw[q,zM];dsimp only;rw[o,zM];exact l (i+1) _ _ _ (by omega) (by omega) E
structure It (w:W):Prop where
 ty:∃ty,∀A,ZA w A=some ty
 nr:w.nr=true
 dat:∃d,∀A,qd A 7 w=some d
def RG (v:Int):It (.int v):=⟨⟨.int,λ_=>rfl⟩,rfl,⟨.int v,λ_=>rfl⟩⟩
noncomputable def Zu (lo hi:Int):W->Bool
 |.int v=>decide (lo<=v)&&decide (v<=hi)|_=>false
noncomputable def gg (ws:List W):bO:=ws.map λw=>match w with
 |.int v=>v|_=>0
noncomputable def K3 (r:bO):Bool:=(List.range (r.length-1)).all λi=>decide (r.getD i 0<r.getD (i+1) 0)
theorem SX {lo hi:Int}:∀{ws:List W},ws.all (Zu lo hi)=true->ws=(gg ws).map W.int/\∀v∈gg ws,lo<=v/\v<=hi
 |[],_=>⟨rfl,λv a=>by cases a⟩|w::ws,h=>by
  rw[all_cons,ak]at h;obtain⟨c,b⟩:=SX h.2;cases w with
  |int v=>
   have a:(decide (lo<=v)&&decide (v<=hi))=true:=h.1;rw[ak,ag,ag]at a;refine⟨?_,λu H=>?_⟩
   ·show W.int v::ws=W.int v::(gg ws).map W.int
    rw[<- c]
   ·have H:u∈v::gg ws:=H
    rcases b9.mp H with rfl|H
    ·exact a
    ·exact b u H
  |_=>cases h.1
def pw_ris {r:bO}(h:r.Pairwise (· < ·)):K3 r=true:=by
 unfold K3;rw[bq];intro i hi;have hi:=b6.mp hi;rw[ag,ab,aa (by omega),ab,aa (by omega)]
 exact List.pairwise_iff_getElem.mp h i (i+1) (by omega) (by omega) (by omega)
section
variable {w:W}{B:Hx}{lo hi:Int}{ty:Ty}{r:bO}
def GN {a b c:Ev}{v:Int}(d:a ρ A=.ok (.int lo) A)(H:b ρ A=.ok (.int v) A)(h:c ρ A=.ok (.int hi) A):jZ jR jR a b c ρ A=.ok (.bl (decide (lo<=v)&&decide (v<=hi))) A:=by
 unfold jZ;rw[d,zM,H,zM];show R.bind (R.ok (W.bl (decide (lo<=v))) A) _=_;rw[zM]
 by_cases q:lo<=v
 ·rw[ay q]
  dsimp only;rw[h,zM,Bool.true_and]
  rfl
 ·rw[aC q]
  rfl
def Ii (h:It w)(lo hi:Int)(A:Hx):Jy [w,.int lo,.int hi] A=.ok (.bl (Zu lo hi w)) A:=by
 obtain⟨ty,H⟩:=h.ty;refine kf (A1:=[]) (by show(w.nr&&true)=true;rw[h.nr];rfl) rfl (qS ?_)
 unfold Vk;refine qQ (jc ?_);have e:=(zW (ws:=[w]) (A1:=[]) (ρ:=[some w,some (.int lo),some (.int hi)]) (a:=zc (qx 0) zq) (A:=[]) rfl).trans (Er (H []));cases w with
 |int v=>
  exact(kG e).trans (GN (zl rfl) (zl rfl) (zl rfl))
 |_=>exact Qs e
def Fp (m:r.length<=100)(A:Hx):YN [zj r] A=.ok (.bl (K3 r)) A:=by
 unfold YN W6;refine qS ?_;unfold Uy;have H:ym (r.map W.int) (some 1) none=(r.map W.int).drop 1:=by
  unfold ym;cases r with
  |nil=>rfl|cons v r=>
   have g:HT.qb ((v::r).map W.int).length 0 (some 1)=1:=by unfold HT.qb;simp
   have f:HT.qb ((v::r).map W.int).length ((v::r).map W.int).length none=((v::r).map W.int).length:=rfl;rw[g,f];exact bh (by rw[bx];exact aj _)
 have z:wJ (qx 0) (gL (qx 0) (gc (z7 (.int 1))) gk) [some (zj r)] A=.ok (kM (.tup (r.map W.int)) (.tup ((r.map W.int).drop 1)) (r.map W.int).length) A:=Y0 (zl rfl) (by
  unfold gL;rw[zl (w:=zj r) rfl,zM];show R.ok (W.tup (ym (r.map W.int) (some 1) none)) A=_;rw[H])
 obtain⟨d,acc,B,e,_,b,a⟩:=LN (j:=kM (.tup (r.map W.int)) (.tup ((r.map W.int).drop 1)) (r.map W.int).length) (tw:=jf 0 1) (ifs:=z7 (.bl true)) (em:=zH (zi yM (qx 0) (qx 1))) (N:=r.length-1)
  (I:=λi ρ acc B=>(∃c Y,ρ=[c,Y])/\B=A/\acc=(List.range i).map λi=>W.bl (decide (r.getD i 0<r.getD (i+1) 0)))
  (λi ρ acc B hi ⟨⟨c,Y,h⟩,b,a⟩=>by
   subst h b a;refine⟨.tup [.int (r.getD i 0),.int (r.getD (i+1) 0)],[some (.int (r.getD i 0)),some (.int (r.getD (i+1) 0))],?_,rfl,B,_,_,B,rfl,wV (y:=.bl (decide (r.getD i 0<r.getD (i+1) 0))) ((zK (zl rfl) (zl rfl)).trans rfl) (by rw[af,aF];unfold zT;omega),⟨_,_,rfl⟩,rfl,?_⟩
   ·show some (zip2 (r.map W.int)[i]? ((r.map W.int).drop 1)[i]?)=_
    rw[int_at (by omega),List.getElem?_drop,add_comm 1 i,int_at (by omega)]
    rfl
   ·rw[bb,aG]
    rfl)
  (λρ acc B _=>by
   show some (zip2 (r.map W.int)[r.length-1]? ((r.map W.int).drop 1)[r.length-1]?)=_;rw[aB (l:=(r.map W.int).drop 1) (by rw[bx,af];exact aj _)]
   cases (r.map W.int)[r.length-1]?<;>rfl) (r.map W.int).length 0 [none,none] [] A (by omega) (by rw[af];omega) ⟨⟨_,_,rfl⟩,rfl,rfl⟩
 subst b a;have E:zN 2 [] (wJ (qx 0) (gL (qx 0) (gc (z7 (.int 1))) gk)) (jf 0 1) (z7 (.bl true)) (zH (zi yM (qx 0) (qx 1))) [some (zj r)] B=.ok ((List.range (r.length-1)).map λi=>W.bl (decide (r.getD i 0<r.getD (i+1) 0))) B:=by
  unfold zN;rw[z,zM];show(R.nox (je _ _ _ _ (r.map W.int).length 0 [none,none] [] B)).bind _=_;rw[e]
  rfl
 refine qQ (jc ((jJ E).trans ?_));show k9 (λks=>ks.all id) _ B=_;unfold k9;rw[JM];show R.ok (W.bl (((List.range (r.length-1)).map λi=>decide (r.getD i 0<r.getD (i+1) 0)).all id)) B=_;rw[all_map]
 rfl
def rw_T (l:ws.length<=100)(hw:∀x∈ws,It x)(A:Hx):QM [.tup ws,.int lo,.int hi] A=.ok (.bl (ws.all (Zu lo hi)&&K3 (gg ws))) A:=by
 unfold QM Ww;refine qS ?_;unfold Vp;refine(zG ((js (A1:=A) (wz (k:=true) rfl)).trans qG)).trans (qQ (jc ?_));have c:=ZI (cap:=[1,2]) (A:=A) (ρ:=[some (.tup ws),some (.int lo),some (.int hi)]) (ws:=ws) (m:=qx 0) (me:=zA Jy (zc zm (zc zt (zc zJ zq)))) (g:=λw=>.bl (Zu lo hi w)) (zl rfl) (by unfold zT;omega) (λw h=>(zW (ws:=[w,.int lo,.int hi]) (A1:=A) rfl).trans (Ii (hw w h) lo hi A))
 have E:mQ kQ (zN 1 [1,2] (zY zm) (zE 0) zQ (zH (zA Jy (zc zm (zc zt (zc zJ zq)))))) [some (.tup ws),some (.int lo),some (.int hi)] A=.ok (.bl (ws.all (Zu lo hi))) A:=by
  refine(jJ c).trans ?_;show k9 (λks=>ks.all id) _ A=_;unfold k9;rw[JM];show R.ok (W.bl ((ws.map (Zu lo hi)).all id)) A=_;rw[all_map]
  rfl
 cases H:ws.all (Zu lo hi) with
 |false=>
  rw[H]at E;exact Qs E
 |true=>
  rw[H]at E;refine(kG E).trans ((zW (ws:=[.tup ws]) (A1:=A) rfl).trans ?_);obtain⟨a,_⟩:=SX H;have e:=Fp (r:=gg ws) (by unfold gg;rw[af];exact l) A
  unfold zj at e;rw[<- a]at e;exact e
theorem Sz:∀{us:List W},(∀w∈us,∃d,qd A n w=some d)->∃ds,jW (qd A n) us=some ds/\ds.length=us.length
 |[],_=>⟨[],rfl,rfl⟩|w::us,h=>by
  obtain⟨d,hd⟩:=h w (av ..);obtain⟨ds,e,l⟩:=Sz (us:=us) λx H=>h x (au _ H);refine⟨d::ds,?_,by rw[aS,aS,l]⟩
  show(match qd A n w,jW (qd A n) us with|some d,some ds=>some (d::ds)|_,_=>none)=_
  rw[hd,e]
def ne_nil {us:List W}{p q:Nat}(b:B[p]? =some (.lst us))(a:B[q]? =some (.lst []))(hw:∀w∈us,It w):qj (.ref p) (.ref q) B=.ok (.bl (!us.isEmpty)) B:=by
 obtain⟨ds,e,H⟩:=Sz (A:=B) (n:=7) (us:=us) λw h=>by obtain⟨d,hd⟩:=(hw w h).dat;exact⟨d,hd B⟩
 have c:qd B 8 (.ref p)=some (.list ds):=by
  show(match z0 (.ref p) B with|some ws=>(jW (qd B 7) ws).map PyData.list|none=>none)=_
  have:z0 (.ref p) B=some us:=by unfold z0;dsimp only;rw[b]
  rw[this];dsimp only;rw[e]
  rfl
 have E:qd B 8 (.ref q)=some (.list []):=by
  show(match z0 (.ref q) B with|some ws=>(jW (qd B 7) ws).map PyData.list|none=>none)=_
  have:z0 (.ref q) B=some []:=by unfold z0;dsimp only;rw[a]
  rw[this]
  rfl
 show yV true _ _ B=_;unfold yV;rw[c,E];dsimp only;rw[ah rfl];cases us with
 |nil=>
  have:ds=[]:=List.length_eq_zero_iff.mp H
  subst this;simp[PyData.eqv,PyData.eqvAll]
 |cons w us=>
  cases ds with
  |nil=>cases H|cons d ds=>simp[PyData.eqv,PyData.eqvAll]
end
section
variable {x ks m:bO}{b c e j k K r q:Nat}{S:Nat->List (bO)}{B:Hx}
def cJ (h:qa t)(H:qu t=(K:Int))(h0:ρ[0]? =some (some (zr t)))(A:Hx):zi kq (zA kA (zc zm zq)) qc ρ A=.ok (.int ((K:Int)-1)) A:=
 (zK ((zW (zy (zl h0) zP)).trans ((Qm h A).trans (by rw[H]))) qh).trans rfl
def DM (h:yq K ks)(A:Hx):QM [zj ks,.int 1,.int ((K:Int)-1)] A=.ok (.bl true) A:=by
 have e:=rw_T (ws:=ks.map W.int) (lo:=1) (hi:=(K:Int)-1) (by rw[af];have:=h.len;omega) (λx H=>by obtain⟨v,_,rfl⟩:=b7.mp H;exact RG v) A
 have hi:gg (ks.map W.int)=ks:=by
  unfold gg;rw[aL];exact map_id _
 have b:(ks.map W.int).all (Zu 1 ((K:Int)-1))=true:=cc.mpr λx H=>by
  obtain⟨v,a,rfl⟩:=b7.mp H
  have:=h.lo v a
  show(decide (1<=v)&&decide (v<=(K:Int)-1))=true;rw[ak,ag,ag];omega
 rw[hi,b,pw_ris h.up]at e;exact e
def J7 (H:qa t)(a:qu t=(K:Int))(h:yq K ks)(A:Hx):ZC [zr t,zj ks] A=.ok .non A:=by
 unfold ZC Wt;refine Kc (ρ:=[some (zr t),some (zj ks)]) ?_;unfold Vf;exact(zG ((js ((wz (k:=true) ((zW (zy (zl rfl) (zy qh (zy (cJ H a rfl A) zP)))).trans (DM h A))))).trans qG)).trans qG
def eq_nil (r:bO)(A:Hx):jg (zj r) (.tup []) A=.ok (.bl (decide (r=[]))) A:=by
 show yV false _ _ A=_;unfold yV;rw[GD A 7 r];show R.ok (W.bl (PyData.eqv (QF r) (.tuple []))) A=_;rw[QF,PyData.eqv]
 have:=YO r []
 rw[map_nil]at this;rw[this]
abbrev bB:Ex:=zp (z8 6 (zA Z6 (zc zJ (zc zt (zc (qz (zc qk zq)) zq))))) (zp (qy (jl (zi (jL true) jw yK) (jH (zi (jL false) ql yK) (zi yM jw ql))) (zp (z8 3 qk) (zp (z8 4 jw) zw)) zw) zw)
def BI {o:Option (List Int×Int)}{x6:Option W}(H:qa t)(d:qu t=(K:Int))(b:HS t K S)(h:yq K ks)(a:ks≠[])(l:m.length=K)(hm:Sl m)(g:A[r]? =some (.lst ((List.range K).map λk=>zr (S k)))):
  ∃y B,bB [some (zr t),some (zj ks),some (.ref r),some (bW o),some (lW o),some (zj m),x6] A=.ok (.nx [some (zr t),some (zj ks),some (.ref r),some (bW (wO K S ks o m)),some (lW (wO K S ks o m)),some (zj m),y]) B/\Ext A B:=by
 have s:=GB H d b h l hm g;generalize f:A++[O.lst [zj (pv K S m m)]]++[O.lst ((pv K S m m).map W.int)]=B at s;have x:Ext A B:=⟨_,by rw[<- f,aO]⟩
 refine⟨some (oI (kx K S ks m)),B,?_,x⟩;refine(zG (qB ((zW (zy (zl rfl) (zy (zl rfl) (zy (wX (zy (zl rfl) zP)) zP)))).trans s))).trans ?_;unfold wO;cases kx K S ks m with
 |none=>exact(zG ((js (Qs ((zK (zl rfl) qh).trans rfl))).trans qG)).trans qG|some v=>
  have E:zi (jL true) jw yK [some (zr t),some (zj ks),some (.ref r),some (bW o),some (lW o),some (zj m),some (.int v)] B=.ok (.bl true) B:=(zK (zl rfl) qh).trans rfl;cases o with
  |none=>
   exact(zG ((ZV ((kG E).trans (Pu ((zK (zl rfl) qh).trans rfl)))).trans ((zG ((qB (zl rfl)).trans rfl)).trans ((zG ((qB (zl rfl)).trans rfl)).trans qG)))).trans qG
  |some c=>
   have e:jH (zi (jL false) ql yK) (zi yM jw ql) [some (zr t),some (zj ks),some (.ref r),some (bW (some c)),some (lW (some c)),some (zj m),some (.int v)] B=.ok (.bl (decide (v<c.2))) B:=(Zg ((zK (zl rfl) qh).trans rfl)).trans ((zK (zl rfl) (zl rfl)).trans rfl);dsimp only
   by_cases q:v<c.2
   ·rw[ay q]at e
    rw[ah q];exact(zG ((ZV ((kG E).trans e)).trans ((zG ((qB (zl rfl)).trans rfl)).trans ((zG ((qB (zl rfl)).trans rfl)).trans qG)))).trans qG
   ·rw[aC q]at e
    rw[aq q];exact(zG ((js ((kG E).trans e)).trans qG)).trans qG
def Wd (K:Nat)(S:Nat->List (bO))(ks:bO):Option (List Int×Int):=(Ml K).foldl (wO K S ks) none
def L1 {β:Type}{f:β->α->β}{l:List α}{x:α}{b:β}(h:l[i]? =some x):(l.take (i+1)).foldl f b=f ((l.take i).foldl f b) x:=by rw[take_one h,List.foldl_append];rfl
def D7 (b:qa t)(s:kZ t)(g:qu t=(K:Int))(m:K<=4)(p:HS t K S)(d:yq K ks)(c:ks≠[]):∃B,Gf [zr t,zj ks] []=.ok (bW (Wd K S ks)) B:=by
 have M:=km b;have L:=Xk K;have E:∀(ρ:En)(A:Hx),ρ[0]? =some (some (zr t))->zA kA (zc zm zq) ρ A=.ok (.int (K:Int)) A:=λρ A h=>(zW (zy (zl h) zP)).trans ((Qm b A).trans (by rw[g]))
 have q:=Gm b g p [];generalize f:([]:Hx)++[O.lst ((List.range K).map λk=>zr (S k))]=A1 at q;have C:A1[0]? =some (.lst ((List.range K).map λk=>zr (S k))):=by rw[<- f];rfl
 have D:=Eo m A1;have n:(A1++[O.lst ((Ml K).map zj)])[A1.length]? =some (.lst ((Ml K).map zj)):=jx;have z:A1.length=1:=by rw[<- f];rfl
 obtain⟨u,B,e,l,y,a,x⟩:=wk (j:=⟨λA i=>(z0 (.ref A1.length) A).map λws=>ws[i]?,((Ml K).map zj).length⟩) (st:=turn (zE 5) bB) (N:=(Ml K).length)
  (I:=λi ρ B=>∃l y,ρ=[some (zr t),some (zj ks),some (.ref 0),some (bW (((Ml K).take i).foldl (wO K S ks) none)),some (lW (((Ml K).take i).foldl (wO K S ks) none)),l,y]/\Ext (A1++[O.lst ((Ml K).map zj)]) B)
  (λi ρ B hi ⟨l,y,a,x⟩=>by
   subst a;have H:(Ml K)[i]? =some (Ml K)[i]:=aa hi;obtain⟨g1,g2⟩:=Kk (aK hi);obtain⟨Y,J,e,X⟩:=BI (A:=B) (r:=0) (o:=((Ml K).take i).foldl (wO K S ks) none) (x6:=y) b g p d c g1 (λv w=>by have:=g2 v w;omega) (x.at (yz C))
   refine⟨zj (Ml K)[i],_,J,Qw (x.at n) (by rw[ao,H];rfl),(kE (ρ1:=[some (zr t),some (zj ks),some (.ref 0),some (bW (((Ml K).take i).foldl (wO K S ks) none)),some (lW (((Ml K).take i).foldl (wO K S ks) none)),some (zj (Ml K)[i]),y]) rfl).trans e,some (zj (Ml K)[i]),Y,by rw[L1 H],x.trans X⟩)
  (λρ B ⟨_,_,_,x⟩=>Qu (x.at n) (by rw[af];exact aj _)) (Ml K).length 0 [some (zr t),some (zj ks),some (.ref 0),some .non,some .non,none,none] (A1++[O.lst ((Ml K).map zj)]) (by omega) ⟨_,_,rfl,Ext.refl⟩
 subst a;rw[bw]at e;refine⟨B,qS ?_⟩;unfold U6;refine(zG (yH ((zW (zy (zl rfl) zP)).trans (RN b s [])))).trans ?_;refine(zG ((js (A1:=[]) (((zK (E _ _ rfl) qh).trans (show Yw (.int (K:Int)) (.int 4) []=.ok (.bl false) [] by show R.ok (W.bl (decide ((4:Int)<(K:Int)))) []=_;rw[aC (by omega)])))).trans qG)).trans ?_
 refine(zG (yH ((zW (zy (zl rfl) (zy (zl rfl) zP))).trans (J7 b g d [])))).trans ?_;refine(zG ((js (A1:=[]) (((zK (zl rfl) (wX zP)).trans ((eq_nil ks []).trans (by rw[aC c]))))).trans qG)).trans ?_
 refine(zG (qB ((zW (zy (zl rfl) zP)).trans q))).trans ?_;refine(zG (qB qh)).trans ?_;refine(zG (qB qh)).trans ?_;exact(zG (Rk ((zW (zy (E _ _ rfl) zP)).trans D) n (af ..) e)).trans (qQ (jc (zl rfl)))
def Bv (o:Option (List Int×Int)):(bW o).nr=true:=by cases o with
 |none=>rfl|some c=>exact kF c.1
def Cc (b:qa t)(s:kZ t)(d:qu t=(K:Int))(a:K<=4)(c:HS t K S)(H:yq K ks)(h:ks≠[])(A:Hx):QX [zr t,zj ks] A=.ok (bW (Wd K S ks)) A:=by
 obtain⟨B,e⟩:=D7 b s d a c H h;exact kf (A1:=B) (by show((zr t).nr&&((zj ks).nr&&true))=true;rw[yZ,kF];rfl) (Bv _) e
end
def jn (t:bN)(ks:bO)(l:bS)(p:Nat):Bool:=l.all λo=>decide (at2 t o p∈ks)
noncomputable def la (l:bS):Nat:=l.getLastD 0
def xt (t:bN)(ks:bO)(l:bS):List (bS):=(((List.range (t.length-(la l+1))).map λi=>la l+1+i).filter (jn t ks l)).map λp=>l++[p]
def Lv (t:bN)(ks:bO):Nat->List (bS)
 |0=>(List.range t.length).map λp=>[p]|k+1=>(Lv t ks k).flatMap (xt t ks)
structure jC (t:bN)(ks:bO)(l:bS):Prop where
 up:l.Pairwise (· < ·)
 lt:∀a∈l,a<t.length
 fr:l.Pairwise λa b=>at2 t a b∈ks
section
variable {ks:bO}{l m:bS}{k p:Nat}
def Ks:la (l++[p])=p:=by unfold la;simp
def Cv (h:m.Pairwise (· < ·)){a:Nat}(H:a∈m):a<=la m:=by
 rcases eq_nil_or_concat m with rfl|⟨m',q,rfl⟩
 ·cases H
 ·rw[concat_eq_append]at h H ⊢
  rw[Ks];rcases cf.mp H with H|H
  ·have:=(List.pairwise_append.mp h).2.2 a H q (cb.mpr rfl)
   omega
  ·rw[cb.mp H]
   exact aj _
def Xb (h:m≠[]):la m∈m:=by
 rcases eq_nil_or_concat m with rfl|⟨m',q,rfl⟩
 ·exact absurd rfl h
 ·rw[concat_eq_append,Ks]
  simp
def Pe:l∈xt t ks m↔∃p,la m<p/\p<t.length/\jn t ks m p=true/\l=m++[p]:=by
 unfold xt;rw[mem_map]
 constructor
 ·rintro⟨p,a,rfl⟩
  obtain⟨H,h⟩:=List.mem_filter.mp a;obtain⟨i,hi,rfl⟩:=b7.mp H
  have:=b6.mp hi
  exact⟨_,by omega,by omega,h,rfl⟩
 ·rintro⟨p,H,h,b,rfl⟩
  refine⟨p,List.mem_filter.mpr ⟨b7.mpr ⟨p-(la m+1),b6.mpr (by omega),by omega⟩,b⟩,rfl⟩
def Xf:jn t ks m p=true↔∀o∈m,at2 t o p∈ks:=by
 unfold jn;rw[bq];exact⟨λh o H=>of_decide_eq_true (h o H),λh o H=>ay (h o H)⟩
theorem Zd:∀{k:Nat}{l:bS},l∈Lv t ks k↔l.length=k+1/\jC t ks l
 |0,l=>by
  show l∈(List.range t.length).map (λp=>[p])↔_;rw[mem_map]
  constructor
  ·rintro⟨p,f,rfl⟩
   refine⟨rfl,a0 _ _,λa h=>?_,a0 _ _⟩;rw[cb.mp h];exact b6.mp f
  ·rintro⟨c,H⟩
   obtain⟨p,rfl⟩:=List.length_eq_one_iff.mp c;exact⟨p,b6.mpr (H.lt p (cb.mpr rfl)),rfl⟩
 |k+1,l=>by
  show l∈(Lv t ks k).flatMap (xt t ks)↔_;rw[List.mem_flatMap]
  constructor
  ·rintro⟨m,hm,i⟩
   obtain⟨c,H⟩:=Zd.mp hm;obtain⟨p,g1,g2,g3,rfl⟩:=Pe.mp i;refine⟨by rw[aw,c];rfl,List.pairwise_append.mpr ⟨H.up,a0 _ _,λa h b d=>?_⟩,λa h=>?_,List.pairwise_append.mpr ⟨H.fr,a0 _ _,λa h b d=>?_⟩⟩
   ·rw[cb.mp d]
    have:=Cv H.up h
    omega
   ·rcases cf.mp h with h|h
    ·exact H.lt a h
    ·rw[cb.mp h];exact g2
   ·rw[cb.mp d]
    exact Xf.mp g3 a h
  ·rintro⟨c,H⟩
   rcases eq_nil_or_concat l with rfl|⟨m,p,rfl⟩
   ·cases c
   ·rw[concat_eq_append]at c H ⊢
    rw[aw,ba]at c;obtain⟨U,_,u⟩:=List.pairwise_append.mp H.up;obtain⟨f1,_,j⟩:=List.pairwise_append.mp H.fr;have hm:jC t ks m:=⟨U,λa h=>H.lt a (mem_append_left _ h),f1⟩;have e:m≠[]:=by intro z;rw[z]at c;cases c
    refine⟨m,Zd.mpr ⟨by omega,hm⟩,Pe.mpr ⟨p,u _ (Xb e) p (cb.mpr rfl),H.lt p (by simp),Xf.mpr λo g=>j o g p (cb.mpr rfl),rfl⟩⟩
def wt (n:Nat)(l:bS):Nat:=2 ^ (n-1-la l)
noncomputable def sN (l:bS):Nat:=l.foldr (· + ·) 0
def Co (a b:bS):sN (a++b)=sN a+sN b:=by
 induction a with
 |nil=>simp[sN]|cons x a i=>
  show x+sN (a++b)=x+sN a+sN b;rw[i];omega
theorem Th (q:α->Bool)(f:α->Nat):∀l:List α,sN ((l.filter q).map f)<=sN (l.map f)
 |[]=>aj _|x::l=>by
  have:=Th q f l
  cases h:q x with
  |true=>
   rw[List.filter_cons_of_pos h];show f x+sN ((l.filter q).map f)<=f x+sN (l.map f);omega
  |false=>
   rw[List.filter_cons_of_neg (by rw[h];simp)]
   show sN ((l.filter q).map f)<=f x+sN (l.map f);omega
theorem X8:∀m:Nat,sN ((List.range m).map λi=>2 ^ (m-1-i))+1=2 ^ m
 |0=>rfl|m+1=>by
  rw[List.range_succ_eq_map,aQ,aL];show 2 ^ (m+1-1-0)+sN _+1=_
  have:((λi=>2 ^ (m+1-1-i)) ∘ Nat.succ)=λi=>2 ^ (m-1-i):=funext λi=>by
   show 2 ^ (m+1-1-(i+1))=_
   congr 1
   omega
  rw[this];have e:=X8 m;have E:2 ^ (m+1-1-0)=2 ^ m:=by congr 1
  rw[E,Nat.pow_succ];omega
def Aj (h:la m<t.length):sN ((xt t ks m).map (wt t.length))<wt t.length m:=by
 unfold xt;rw[aL];have a:((wt t.length) ∘ λp=>m++[p])=λp=>2 ^ (t.length-1-p):=funext λp=>by
  show 2 ^ (t.length-1-la (m++[p]))=_;rw[Ks]
 rw[a];refine Nat.lt_of_le_of_lt (Th _ _ _) ?_;rw[aL];have H:((λp=>2 ^ (t.length-1-p)) ∘ λi=>la m+1+i)=λi=>2 ^ (t.length-(la m+1)-1-i):=funext λi=>by
  show 2 ^ (t.length-1-(la m+1+i))=_
  congr 1
  omega
 rw[H]
 have:=X8 (t.length-(la m+1))
 unfold wt;have e:t.length-1-la m=t.length-(la m+1):=by omega
 rw[e];omega
theorem Pp:∀{L:List (bS)},(∀m∈L,la m<t.length)->sN ((L.flatMap (xt t ks)).map (wt t.length))<=sN (L.map (wt t.length))
 |[],_=>aj _|m::L,h=>by
  rw[flatMap_cons,aG,Co,aQ];have b:=Aj (ks:=ks) (h m (av ..));have a:=Pp (L:=L) λx H=>h x (au _ H);show _<=wt t.length m+sN (L.map (wt t.length));omega
theorem RK (n:Nat):∀L:List (bS),L.length<=sN (L.map (wt n))
 |[]=>aj _|m::L=>by
  have H:=RK n L;have h:0<wt n m:=Nat.pos_of_ne_zero (by unfold wt;exact bj (Nat.pow_pos (by omega)))
  show L.length+1<=wt n m+sN (L.map (wt n));omega
def Af {m:bS}(h:m∈Lv t ks k):la m<t.length:=by
 obtain⟨H,a⟩:=Zd.mp h;exact a.lt _ (Xb (by intro z;rw[z]at H;cases H))
theorem PU (h:t.length<=8):∀k,sN ((Lv t ks k).map (wt t.length))<=255
 |0=>by
  show sN (((List.range t.length).map λp=>[p]).map (wt t.length))<=255;rw[aL]
  have:=X8 t.length
  have e:(wt t.length ∘ λp=>[p])=λi=>2 ^ (t.length-1-i):=rfl;rw[e]
  have:2 ^ t.length<=2 ^ 8:=Nat.pow_le_pow_right (by omega) h
  omega
 |k+1=>bf (Pp λm hm=>Af hm) (PU h k)
def Xj (h:t.length<=8)(k:Nat):(Lv t ks k).length<=255:=bf (RK t.length _) (PU h k)
def FL {β:Type}(L:List α)(f:α->List β)(i:Nat):((L.take i).flatMap f).length<=(L.flatMap f).length:=by
 have:L.flatMap f=(L.take i).flatMap f++(L.drop i).flatMap f:=by rw[<- bA,List.take_append_drop]
 rw[this,aw];omega
def RQ {l:bS}(h:l.Nodup)(c:∀a∈l,a<n):l.length<=n:=by
 have:=Xd n (l.map λ(a:Nat)=>(a:Int)) (List.pairwise_map.mpr (h.imp λH z=>H (by omega))) (λr b=>by
  obtain⟨a,d,rfl⟩:=b7.mp b
  have:=c a d
  omega)
 rwa[af]at this
def jC.nd (h:jC t ks l):l.Nodup:=h.up.imp λH=>aJ H
def jC.len (h:jC t ks l):l.length<=t.length:=RQ h.nd h.lt
def Bg:Lv t ks t.length=[]:=by
 rcases H:Lv t ks t.length with _|⟨l,L⟩
 ·rfl
 ·have h:l∈Lv t ks t.length:=by rw[H];exact av ..
  obtain⟨b,a⟩:=Zd.mp h
  have:=a.len
  omega
structure Mo (t:bN)(ks:bO)(m:Nat):Prop where
 ex:∃l,jC t ks l/\l.length=m
 le:∀l,jC t ks l->l.length<=m
def Mo.uniq {a b:Nat}(h:Mo t ks a)(h':Mo t ks b):a=b:=by
 obtain⟨l,c,e⟩:=h.ex;obtain⟨L,H,E⟩:=h'.ex
 have:=h.le L H
 have:=h'.le l c
 omega
def jC.pre {l m:bS}(h:jC t ks (l++m)):jC t ks l:=
 ⟨(List.pairwise_append.mp h.up).1,λa H=>h.lt a (mem_append_left _ H),(List.pairwise_append.mp h.fr).1⟩
theorem jC.take (h:jC t ks l)(i:Nat):jC t ks (l.take i):=by
 have:l=l.take i++l.drop i:=(List.take_append_drop i l).symm
 rw[this]at h;exact h.pre
def PQ (f:Lv t ks k≠[])(d:Lv t ks (k+1)=[]):Mo t ks (k+1):=by
 obtain⟨l,L,c⟩:∃l L,Lv t ks k=l::L:=List.exists_cons_of_ne_nil f;have b:l∈Lv t ks k:=by rw[c];exact av ..
 obtain⟨e,g⟩:=Zd.mp b;refine⟨⟨l,g,e⟩,λa h=>?_⟩;refine Nat.le_of_not_lt λH=>?_;have hm:a.take (k+2)∈Lv t ks (k+1):=Zd.mpr ⟨by rw[a8];omega,h.take _⟩
 rw[d]at hm;cases hm
def Mo.mono {K:bO}{a b:Nat}(h:Mo t ks a)(h':Mo t K b)(s:∀v∈K,v∈ks):b<=a:=by
 obtain⟨l,H,e⟩:=h'.ex;rw[<- e];exact h.le l ⟨H.up,H.lt,H.fr.imp λz=>s _ z⟩
def Mo.all (d:qa t)(g:∀v:Int,1<=v->v<qu t->v∈ks){a:Nat}(h:Mo t ks a):a=t.length:=by
 have r:jC t ks (List.range t.length):=⟨bz,λa H=>b6.mp H,by
  refine List.Pairwise.imp_of_mem ?_ (bz (n:=t.length));intro a b H c i;have H:=b6.mp H;have c:=b6.mp c;have h0:=w6 d H c;have m:at2 t a b≠0:=λz=>by have:=(d.dg a b H c).mp z;omega
  exact g _ (by omega) (J8 d H c)⟩
 have j:=h.le _ r;rw[aF]at j;obtain⟨l,f,e⟩:=h.ex
 have:=f.len
 omega
end
noncomputable abbrev nI (l:bS):bO:=l.map λ(a:Nat)=>(a:Int)
def lw (l:bS):W:=zj (nI l)
def KJ (l:bS):(lw l).nr=true:=kF _
def R8 (L:List (bS)):qP (L.map lw)=true:=Jd KJ L
section
variable {ks:bO}{l m:bS}{k p q:Nat}{B C:Hx}{w:W}
def AS (v:Int)(r:bO):gU (.int v) (r.map W.int)=decide (v∈r):=by
 induction r with
 |nil=>rfl|cons x r i=>
  unfold gU at i ⊢;rw[aQ,any_cons,i];show((x==v) || decide (v∈r))=_
  by_cases h:x=v
  ·subst h
   simp
  ·have:(x==v)=false:=by simp[h]
   rw[this,Bool.false_or];have h':¬v=x:=λz=>h z.symm;simp[h']
def RO {b:Bool}(v:Int)(r:bO)(A:Hx):gO b (.int v) (zj r) A=.ok (.bl (if b then !decide (v∈r) else decide (v∈r))) A:=by
 unfold gO;show(if kH (.int v)&&(r.map W.int).all kH then R.ok (W.bl (if b then !gU (.int v) (r.map W.int) else gU (.int v) (r.map W.int))) A else .bad)=_;rw[AS,ah];rw[all_map];show(true&&r.all λ_=>true)=true;simp
def Kq (f:α->Bool)(l:List α)(A:Hx):kQ (l.map λx=>W.bl (f x)) A=.ok (.bl (l.all f)) A:=by
 show k9 (λks=>ks.all id) _ A=_;unfold k9;rw[JM];show R.ok (W.bl ((l.map f).all id)) A=_;rw[all_map]
 rfl
def Rn (d:qa t)(i:l.length<=100)(h:∀a∈l,a<t.length)(f:p<t.length)(A:Hx):ZK [zr t,zj ks,lw l,.int (p:Int)] A=.ok (.bl (jn t ks l p)) A:=by
 refine kf (A1:=[]) (by show((zr t).nr&&((zj ks).nr&&((lw l).nr&&true)))=true;rw[yZ,kF,KJ];rfl) rfl (qS ?_)
 unfold Rz;have e:=ZI (cap:=[0,1,3]) (A:=[]) (ρ:=[some (zr t),some (zj ks),some (lw l),some (.int (p:Int))]) (ws:=(nI l).map W.int) (m:=zJ) (me:=zi Jv (zi zI (zi zI zt zm) zU) zJ) (g:=λw=>match w with|.int v=>.bl (decide (at2 t v.toNat p∈ks))|w=>w) (zl rfl) (by rw[af,af];unfold zT;omega) (λw hw=>by
  obtain⟨v,c,rfl⟩:=b7.mp hw;obtain⟨a,H,rfl⟩:=b7.mp c;refine(zK ((zK ((zK (zl rfl) (zl rfl)).trans (Je (h a H))) (zl rfl)).trans (Yb ?_)) (zl rfl)).trans ?_
  ·rw[d.sq _ (yy (h a H))];exact f
  ·exact RO (b:=false) _ _ _)
 have em:(((nI l).map W.int).map λw=>match w with|.int v=>W.bl (decide (at2 t v.toNat p∈ks))|w=>w)=l.map λa=>W.bl (decide (at2 t a p∈ks)):=by
  rw[aL,aL];rfl
 rw[em]at e;exact qQ (jc ((jJ e).trans (Kq _ l [])))
def Ka {m m':Ev}{A2:Hx}{i j:Int}(h:m ρ A=.ok (.int i) A1)(h':m' ρ A1=.ok (.int j) A2)(hi:q9 i=true)(H:q9 j=true):yT m m' ρ A=.ok (yR i (j-i).toNat) A2:=by
 unfold yT;rw[h,zM,h',zM];dsimp only;rw[hi,H]
 rfl
def F9 (hm:m≠[])(A:Hx):zI (lw m) (.int (-1)) A=.ok (.int (la m:Int)) A:=by
 rcases eq_nil_or_concat m with rfl|⟨m',z,rfl⟩
 ·exact absurd rfl hm
 ·rw[concat_eq_append,Ks]
  unfold zI lw zj;show(match yL ((nI (m'++[z])).map W.int) (-1) with|some w=>R.ok w A|none=>R.bad)=_
  have e:(nI (m'++[z])).map W.int=(nI m').map W.int++[.int (z:Int)]:=by unfold nI;rw[aG,aG];rfl
  rw[e]
  have:yL ((nI m').map W.int++[W.int (z:Int)]) (-1)=some (.int (z:Int)):=by
   have H:(m'.length:Int)+1 ≥ 1:=by omega
   unfold yL wb;simp only[aw,af,ba];rw[aq (by omega),ah (by omega)]
   have h:((-1:Int)+((m'.length+1:Nat):Int)).toNat=((nI m').map W.int).length:=by rw[af,af];omega
   show((nI m').map W.int++[W.int (z:Int)])[_]? =_;rw[h];simp
  rw[this]
abbrev sE:Em:=yQ (yT (zi qL (zi zI zm (jq k6 qc)) qc) (mQ qR (qi zJ))) (zE 1) (zA ZK (zc zJ (zc zU (zc zm (zc zt zq))))) (zH (zi qL zm (qz (zc zt zq))))
def CC (h:m.length<=100):qL (lw m) (.tup [.int (p:Int)]) A=.ok (lw (m++[p])) A:=by
 have:=Sd (m:=nI m) (v:=(p:Int)) (A:=A) (by rw[af];exact h)
 unfold lw;rw[this];unfold nI;rw[aG]
 rfl
def BO {y:Option W}(g:qa t)(hm:m≠[])(o:∀a∈m,a<t.length)(s:m.length<=8)(K:acc.length<=50000):∃Y,sE [some (lw m),y,some (zr t),some (zj ks)] acc C=.ok ([some (lw m),Y,some (zr t),some (zj ks)],acc++(xt t ks m).map lw) C:=by
 have L:=g.n8;have u:=o _ (Xb hm);have r:=Ka (ρ:=[some (lw m),y,some (zr t),some (zj ks)]) (A:=C) (A1:=C) (A2:=C) (m:=zi qL (zi zI zm (jq k6 qc)) qc) (m':=mQ qR (qi zJ)) (i:=(la m:Int)+1) (j:=(t.length:Int)) ((zK ((zK (zl rfl) ((G7 qh).trans rfl)).trans (F9 hm C)) qh).trans rfl) (len_tab rfl) (by
  have:=yY (n:=la m+1) (by omega)
  rw[natCast_succ]at this;exact this) (yY (by omega))
 have z:((t.length:Int)-((la m:Int)+1)).toNat=t.length-(la m+1):=by omega
 rw[z]at r;obtain⟨q,b,M,e,⟨Y,h⟩,w,d⟩:=JU (j:=yR ((la m:Int)+1) (t.length-(la m+1))) (tw:=zE 1) (ifs:=zA ZK (zc zJ (zc zU (zc zm (zc zt zq))))) (em:=zH (zi qL zm (qz (zc zt zq)))) (N:=t.length-(la m+1))
  (I:=λi ρ b D=>(∃y,ρ=[some (lw m),y,some (zr t),some (zj ks)])/\D=C/\b=acc++(((((List.range i).map λi=>la m+1+i).filter (jn t ks m)).map λp=>m++[p]).map lw))
  (λi ρ b D hi ⟨⟨y,h⟩,v,d⟩=>by
   subst h v d;have J:((la m:Int)+1+(i:Int))=((la m+1+i:Nat):Int):=by omega
   have B:=Rn (ks:=ks) g (l:=m) (p:=la m+1+i) (by omega) o (by omega) D
   refine⟨.int ((la m+1+i:Nat):Int),[some (lw m),some (.int ((la m+1+i:Nat):Int)),some (zr t),some (zj ks)],(wD hi).trans (by rw[J]),rfl,?_⟩
   have E:=(zW (f:=ZK) (ρ:=[some (lw m),some (.int ((la m+1+i:Nat):Int)),some (zr t),some (zj ks)]) (A:=D) (a:=zc zJ (zc zU (zc zm (zc zt zq)))) (A1:=D) rfl).trans B;have c:=bC (jn t ks m) ((List.range i).map λi=>la m+1+i);rw[af,aF]at c;have x:(List.range (i+1)).map (λi=>la m+1+i)=(List.range i).map (λi=>la m+1+i)++[la m+1+i]:=by rw[bb,aG];rfl
   cases H:jn t ks m (la m+1+i) with
   |true=>
    rw[H]at E;refine .inl ⟨D,_,_,D,E,wV (y:=lw (m++[la m+1+i])) ((zK (zl rfl) (wX (zy (zl rfl) zP))).trans (CC (by omega))) ?_,⟨_,rfl⟩,rfl,?_⟩
    ·rw[aw,af,af]
     unfold zT;omega
    ·rw[x,filter_append,List.filter_cons_of_pos H,List.filter_nil,aG,aG,aO]
     rfl
   |false=>
    rw[H]at E;refine .inr ⟨D,E,⟨_,rfl⟩,rfl,?_⟩;rw[x,filter_append,List.filter_cons_of_neg (l:=[]) (by rw[H];simp),List.filter_nil,append_nil])
  (λρ b D _=>wA (by omega)) (t.length-(la m+1)) 0 [some (lw m),y,some (zr t),some (zj ks)] acc C (by omega) ⟨⟨_,rfl⟩,rfl,by simp⟩
 subst h w d;refine⟨Y,?_⟩;show(yT _ _ _ _).bind _=_;rw[r,zM];exact e
def Ss {m:Ev}(h:m ρ A=.ok (.ref n) A1)(H:A1[n]? =some (.lst ws)):QH m ρ A=.ok (.bl (!ws.isEmpty)) A1:=by
 unfold QH;rw[h,zM];dsimp only;rw[H]
def Bi (a:qa t){x2 x3:Option W}(f:A[p]? =some (.lst ((Lv t ks k).map lw))):qv (zN 2 [0,1] (zY zJ) (zE 0) zQ sE) [some (zr t),some (zj ks),some (.ref p),x3] A=.ok (.ref A.length) (A++[.lst ((Lv t ks (k+1)).map lw)]):=by
 have hlen:=Xj (ks:=ks) a.n8 k;have H:=Xj (ks:=ks) a.n8 (k+1);obtain⟨l,acc,C,e,_,o,c⟩:=wU (nl:=2) (cap:=[0,1]) (mi:=zY zJ) (tw:=zE 0) (ifs:=zQ) (em:=sE) (N:=(Lv t ks k).length) (ρ:=[some (zr t),some (zj ks),some (.ref p),x3]) (A:=A)
  (I:=λi ρ acc D=>(∃g Y,ρ=[g,Y,some (zr t),some (zj ks)])/\D=A/\acc=(((Lv t ks k).take i).flatMap (xt t ks)).map lw) (gZ (zl rfl) f) (by show((Lv t ks k).map lw).length=_;rw[af])
  (λi ρ acc D hi ⟨⟨g,Y,b⟩,d,c⟩=>by
   subst b d c;have h:(Lv t ks k)[i]? =some (Lv t ks k)[i]:=aa hi;obtain⟨g1,g2⟩:=Zd.mp (aK hi);have g3:=g2.len;have n:=FL (Lv t ks k) (xt t ks) i;have j:((Lv t ks k).flatMap (xt t ks)).length<=255:=H;obtain⟨q,e⟩:=BO (ks:=ks) (m:=(Lv t ks k)[i]) (y:=Y) (acc:=(((Lv t ks k).take i).flatMap (xt t ks)).map lw) (C:=D) a (by intro z;rw[z]at g1;cases g1) g2.lt (by have:=a.n8;omega) (by rw[af];omega)
   refine⟨lw (Lv t ks k)[i],[some (lw (Lv t ks k)[i]),Y,some (zr t),some (zj ks)],Qw f (by rw[ao,h];rfl),rfl,.inl ⟨D,_,_,D,rfl,e,⟨_,_,rfl⟩,rfl,?_⟩⟩
   rw[take_one h,bA,aG];simp)
  (λρ acc D ⟨_,d,_⟩=>by subst d;exact Qu f (by rw[af];exact aj _)) ⟨⟨_,_,rfl⟩,rfl,rfl⟩
 subst o c;rw[bw]at e;exact kY e
abbrev sB:Ex:=zp (z8 2 zU) (zp (z8 3 (qv (zN 2 [0,1] (zY zJ) (zE 0) zQ sE))) zw)
theorem RH (b:qa t):∀(d k f p:Nat)(x2:Option W)(A:Hx),k+d=t.length->d<f->Lv t ks k≠[]->A[p]? =some (.lst ((Lv t ks k).map lw))->∃K q P B,Lv t ks K≠[]/\Lv t ks (K+1)=[]/\k7 (QH zU) sB f [some (zr t),some (zj ks),x2,some (.ref p)] A=.ok (.nx [some (zr t),some (zj ks),some (.ref q),some (.ref P)]) B/\B[q]? =some (.lst ((Lv t ks K).map lw))
 |0,k,f,p,x2,A,a,hf,h,H=>by
  have:k=t.length:=by omega
  subst this;exact absurd Bg h
 |d+1,k,0,p,x2,A,a,hf,h,H=>by omega|d+1,k,1,p,x2,A,a,hf,h,H=>by omega|d+1,k,f+2,p,x2,A,a,hf,h,H=>by
  have E:QH zU [some (zr t),some (zj ks),x2,some (.ref p)] A=.ok (.bl true) A:=(Ss (zl rfl) H).trans (by
   cases c:Lv t ks k with
   |nil=>exact absurd c h|cons l L=>rfl)
  have e:sB [some (zr t),some (zj ks),x2,some (.ref p)] A=.ok (.nx [some (zr t),some (zj ks),some (.ref p),some (.ref A.length)]) (A++[.lst ((Lv t ks (k+1)).map lw)]):=
   (zG ((qB (zl rfl)).trans rfl)).trans ((zG ((qB (Bi (x2:=none) b H)).trans rfl)).trans qG)
  by_cases hn:Lv t ks (k+1)=[]
  ·refine⟨k,p,A.length,A++[.lst ((Lv t ks (k+1)).map lw)],h,hn,?_,yz H⟩
   have i:QH zU [some (zr t),some (zj ks),some (.ref p),some (.ref A.length)] (A++[.lst ((Lv t ks (k+1)).map lw)])=.ok (.bl false) (A++[.lst ((Lv t ks (k+1)).map lw)]):=(Ss (zl rfl) jx).trans (by rw[hn];rfl)
   rw[k7,E,zM];dsimp only;rw[e,zM];dsimp only;rw[k7,i,zM]
  ·obtain⟨K,q,P,B,g1,g2,g3,g⟩:=RH b d (k+1) (f+1) A.length (some (.ref p)) (A++[.lst ((Lv t ks (k+1)).map lw)]) (by omega) (by omega) hn jx
   refine⟨K,q,P,B,g1,g2,?_,g⟩;rw[k7,E,zM];dsimp only;rw[e,zM];exact g3
def TZ (h:qa t):∃k,Lv t ks k≠[]/\Lv t ks (k+1)=[]/\∀A:Hx,Jz [zr t,zj ks] A=.ok (.ref A.length) (A++[.lst ((Lv t ks k).map lw)]):=by
 have hm:=Qg (k:=(t.length:Int)) (len_tab (A:=[.lst []]) (ρ:=[some (zr t),some (zj ks),some (.ref 0),none]) (i:=0) rfl) (yY (by have:=h.n8;omega))
 rw[aE]at hm;have e:=kY (wR (cap:=[]) (me:=qz (zc zm zq)) (N:=t.length) (item:=λi=>.int (0+(i:Int))) (g:=λi=>lw [i]) hm rfl (by unfold zT;have:=h.n8;omega) (λi hi=>wD hi) (wA (by omega)) (λi hi=>(wX (zy (zl rfl) zP)).trans (by rw[zero_add];rfl)))
 have E:((List.range t.length).map λi=>lw [i])=(Lv t ks 0).map lw:=by
  show _=((List.range t.length).map λp=>[p]).map lw;rw[aL]
  rfl
 rw[E]at e;have H:Lv t ks 0≠[]:=by
  intro z;have b:=h.n1
  have:((List.range t.length).map λp=>[p]).length=0:=by
   have Z:((List.range t.length).map λp=>[p])=[]:=z;rw[Z]
   rfl
  rw[af,aF]at this;omega
 obtain⟨k,q,P,B,g1,g2,g3,a⟩:=RH (ks:=ks) h t.length 0 1000 1 (some (.ref 0)) ([.lst []]++[.lst ((Lv t ks 0).map lw)]) (by omega) (by have:=h.n8;omega) H rfl
 refine⟨k,g1,g2,λA=>JZ (k:=q) (A1:=B) (by show((zr t).nr&&((zj ks).nr&&true))=true;rw[yZ,kF];rfl) (qS ?_) a (R8 _)⟩
 unfold Vv;exact(zG ((qB (wB zP)).trans rfl)).trans ((zG ((qB e).trans rfl)).trans ((zG (m1:=J5 1000 _ _) g3).trans (qQ (jc (zl rfl)))))
variable {K:Nat}
def R7 (h:qa t)(A:Hx):Qa [zr t] A=.ok (.int (qu t)) A:=by
 refine kf (A1:=[]) (by show((zr t).nr&&true)=true;rw[yZ];rfl) rfl (qS ?_)
 unfold Ul;exact(zG (yH ((zW (zy (zl rfl) zP)).trans (QZ h [])))).trans (qQ (jc ((zW (zy (zl rfl) zP)).trans (Qm h []))))
def X6 (t:bN)(r:bO):qP [zr t,zj r]=true:=by show((zr t).nr&&((zj r).nr&&true))=true;rw[yZ,kF];rfl
def Yd (H:qa t)(i:qu t=(K:Int))(h:yq K ks):∃c,Mo t ks c/\∀A:Hx,Qr [zr t,zj ks] A=.ok (.int (c:Int)) A:=by
 obtain⟨k,d,j,e⟩:=TZ (ks:=ks) H;obtain⟨l,L,b⟩:∃l L,Lv t ks k=l::L:=List.exists_cons_of_ne_nil d;have g:l∈Lv t ks k:=by rw[b];exact av ..
 obtain⟨g1,g2⟩:=Zd.mp g;refine⟨k+1,PQ d j,λA=>kf (A1:=[]++[.lst ((Lv t ks k).map lw)]) (X6 t ks) rfl (qS ?_)⟩;unfold RR;refine(zG (yH ((zW (zy (zl rfl) zP)).trans (QZ H [])))).trans ((zG (yH ((zW (zy (zl rfl) (zy (zl rfl) zP))).trans (J7 H i h [])))).trans (qQ (jc ?_)));have E:=(zK ((zW (f:=Jz) (ρ:=[some (zr t),some (zj ks)]) (A:=[]) (a:=zc zm (zc zt zq)) (A1:=[]) rfl).trans (e [])) (qh (w:=.int 0))).trans (ZJ (w:=lw l) (s:=0) jx (by rw[b];rfl))
 refine(jJ (kD E (ws:=(nI l).map W.int) rfl)).trans ?_;unfold qR;rw[af,af,g1]
def MR (H:qa t)(b:qu t=(K:Int))(h:yq K ks):∃(c:Nat) (L:List (bS)),Mo t ks c/\(∀l∈L,jC t ks l/\l.length=c)/\L.length<=255/\∀A:Hx,YQ [zr t,zj ks] A=.ok (.ref A.length) (A++[.lst (L.map lw)]):=by
 obtain⟨k,f,d,e⟩:=TZ (ks:=ks) H;refine⟨k+1,Lv t ks k,PQ f d,λl a=>let g:=Zd.mp a;⟨g.2,g.1⟩,Xj H.n8 k,λA=>JZ (k:=0) (A1:=[]++[.lst ((Lv t ks k).map lw)]) (X6 t ks) (qS ?_) rfl (R8 _)⟩
 unfold UT;exact(zG (yH ((zW (zy (zl rfl) zP)).trans (QZ H [])))).trans ((zG (yH ((zW (zy (zl rfl) (zy (zl rfl) zP))).trans (J7 H b h [])))).trans (qQ (jc ((zW (zy (zl rfl) (zy (zl rfl) zP))).trans (e [])))))
def PX (d:qa t)(h:jC t ks l)(A:Hx):JD [zr t,lw l] A=.ok .non A:=by
 have g:=d.n8;have f:=h.len;have e:=rw_T (ws:=(nI l).map W.int) (lo:=0) (hi:=(t.length:Int)-1) (by rw[af,af];omega) (λx H=>by obtain⟨v,_,rfl⟩:=b7.mp H;exact RG v) A
 have hi:gg ((nI l).map W.int)=nI l:=by
  unfold gg;rw[aL];exact map_id _
 have b:((nI l).map W.int).all (Zu 0 ((t.length:Int)-1))=true:=cc.mpr λx H=>by
  obtain⟨v,c,rfl⟩:=b7.mp H;obtain⟨a,b,rfl⟩:=b7.mp c
  have:=h.lt a b
  show(decide (0<=(a:Int))&&decide ((a:Int)<=(t.length:Int)-1))=true;rw[ak,ag,ag];omega
 rw[hi,b,pw_ris (List.pairwise_map.mpr (h.up.imp λz=>by omega))]at e
 unfold JD WU;refine Kc (ρ:=[some (zr t),some (lw l)]) ?_;unfold VV;exact(zG ((js (wz (k:=true) ((zW (zy (zl rfl) (zy qh (zy ((zK (len_tab rfl) qh).trans rfl) zP)))).trans e))).trans qG)).trans qG
def DW {r:bO}:ym (r.map W.int) none (some (i:Int))=(r.take i).map W.int:=by
 unfold ym;have H:HT.qb (r.map W.int).length 0 none=0:=rfl;rw[H,HT.Rw,drop_zero,sub_zero,map_take]
 by_cases h:i<=(r.map W.int).length
 ·rw[Nat.min_eq_left h]
 ·rw[Nat.min_eq_right (by omega),bh (aj _),bh (by omega)]
def CA (H:qa t)(q:qu t=(K:Int))(n:yq K ks)(h:jC t ks l)(A:Hx):JO [zr t,zj ks,lw l] A=.ok (.bl true) A:=by
 have w:=H.n8;have v:=h.len;have b:((nI l).map W.int).length=l.length:=by rw[af,af]
 refine kf (A1:=[]) (by show((zr t).nr&&((zj ks).nr&&((lw l).nr&&true)))=true;rw[yZ,kF,KJ];rfl) rfl (qS ?_)
 unfold TL;refine(zG (yH ((zW (zy (zl rfl) zP)).trans (QZ H [])))).trans ((zG (yH ((zW (zy (zl rfl) (zy (zl rfl) zP))).trans (J7 H q n [])))).trans ((zG (yH ((zW (zy (zl rfl) (zy (zl rfl) zP))).trans (PX H h [])))).trans (qQ (jc ?_))));obtain⟨j,acc,C,e,_,u,c⟩:=wU (nl:=2) (cap:=[0,1,2]) (mi:=yA zJ) (tw:=jf 0 1) (ifs:=zQ) (em:=zH (zA ZK (zc zJ (zc zU (zc (gL ql gk (gc zm)) (zc zt zq)))))) (N:=l.length) (ρ:=[some (zr t),some (zj ks),some (lw l)]) (A:=[])
  (I:=λi ρ acc D=>(∃g Y,ρ=[g,Y,some (zr t),some (zj ks),some (lw l)])/\D=[]/\acc=(List.range i).map λ_=>W.bl true) (Qc (ws:=(nI l).map W.int) (zl rfl)) b
  (λi ρ acc D hi ⟨⟨g,Y,d⟩,s,c⟩=>by
   subst d s c;have f:(nI l).getD i 0=((l[i]:Nat):Int):=by
    rw[ab,ao,aa hi];rfl
   have hit:((nI l).map W.int)[i]? =some (.int ((l[i]:Nat):Int)):=by rw[int_at (by rw[af];exact hi),f]
   have r:=h.take (i+1);rw[take_succ hi]at r;have p:jn t ks (l.take i) l[i]=true:=Xf.mpr λo m=>(List.pairwise_append.mp r.fr).2.2 o m _ (cb.mpr rfl);refine⟨.tup [.int (i:Int),.int ((l[i]:Nat):Int)],[some (.int (i:Int)),some (.int ((l[i]:Nat):Int)),some (zr t),some (zj ks),some (lw l)],Qz hit,rfl,.inl ⟨[],_,_,[],rfl,wV (y:=.bl true) ?_ ?_,⟨_,_,rfl⟩,rfl,?_⟩⟩
   ·have E:gL ql gk (gc zm) [some (.int (i:Int)),some (.int ((l[i]:Nat):Int)),some (zr t),some (zj ks),some (lw l)] []=.ok (lw (l.take i)) []:=by
     show R.ok (W.tup (ym ((nI l).map W.int) none (some (i:Int)))) []=_;rw[DW];unfold lw zj nI;simp only[map_take]
    exact(zW (zy (zl rfl) (zy (zl rfl) (zy E (zy (zl rfl) zP))))).trans ((Rn H (by rw[a8];omega) (λa c=>h.lt a (List.mem_of_mem_take c)) (h.lt _ (aK hi)) []).trans (by rw[p]))
   ·rw[af,aF]
    unfold zT;omega
   ·rw[bb,aG]
    rfl)
  (λρ acc D _=>by have:=Qt (A:=D) (ws:=(nI l).map W.int);rw[b]at this ⊢;exact this) ⟨⟨_,_,rfl⟩,rfl,rfl⟩
 subst u c;refine(jJ e).trans ((Kq (λ_=>true) (List.range l.length) []).trans ?_);rw[show((List.range l.length).all λ_=>true)=true from by simp]
def S9 {m1:Ex}{m:Ev}{N:Nat}{z:R Fl}(hm:m ρ A=.ok (.tup ws) B)(h:ws.length=N)(e:yd ⟨λA i=>(z0 (.tup ws) A).map λws=>ws[i]?,ws.length⟩ (turn tw m1) N 0 ρ B=z):jA (zY m) tw m1 ρ A=z:=by
 subst h;exact(wq (g8 hm)).trans e
def yb (t:bN)(m l:bS):bS:=m.flatMap λa=>l.map λb=>(at2 t a b).toNat
noncomputable def cW (K:Nat)(P:bS):List W:=(List.range K).map λk=>W.int ((P.count k:Nat):Int)
def Bd {P:bS}{v:Nat}(H:v<K):(cW K P).set v (.int (((P.count v:Nat):Int)+1))=cW K (P++[v]):=by
 unfold cW;rw[Ro (g:=λk=>((P.count k:Nat):Int)) H];refine aY λj _=>?_;rw[count_append]
 by_cases h:j=v
 ·subst h
  rw[ah rfl];simp
 ·rw[aq h,List.count_singleton]
  have:(v==j)=false:=by simp;exactλz=>h z.symm
  rw[this];simp
def DQ {mo mi:Ev}{P:bS}{v r:Nat}(o:mo ρ C=.ok (.ref r) C)(hi:mi ρ C=.ok (.int (v:Int)) C)(H:C[r]? =some (.lst (cW K P)))(h:v<K):wG mo mi qc ρ C=.ok (.nx ρ) (C.set r (.lst (cW K (P++[v])))):=by
 unfold wG;rw[o,zM,hi,zM];dsimp only;rw[ah (by omega),H]
 dsimp only;have x:(cW K P)[(v:Int).toNat]? =some (.int ((P.count v:Nat):Int)):=by
  rw[aE];unfold cW;rw[ao,aT h]
  rfl
 rw[x];show R.bind (kO (.ref r) (.int (v:Int)) (.int (((P.count v:Nat):Int)+1)) C) _=_;rw[Ra H (by unfold cW;rw[af,aF];exact h),zM,Bd h]
def Ho (a:qa t)(p:qu t=(K:Int))(h:jC t ks l)(A:Hx):Y7 [zr t,lw l] A=.ok (.ref A.length) (A++[.lst (cW K (yb t l l))]):=by
 have w:=a.n8;have u:=km a;have v:=h.len;have d:((nI l).map W.int).length=l.length:=by rw[af,af]
 have hit:∀i (hi:i<l.length),((nI l).map W.int)[i]? =some (.int ((l[i]:Nat):Int)):=λi hi=>by
  rw[ao,ao,aa hi];rfl
 have s:zi qw (qW (zc qe zq)) (zA kA (zc zm zq)) [some (zr t),some (lw l),none,none,none] []=.ok (.ref 1) [.lst [.int 0],.lst (cW K [])]:=by
  refine(zK (wB (zy qh zP)) ((zW (zy (zl rfl) zP)).trans ((Qm a _).trans (by rw[p])))).trans ?_
  unfold qw;show(if q9 (K:Int)&&decide ([W.int 0].length * (K:Int).toNat<=zT) then R.ok (W.ref 1) [.lst [.int 0],.lst (List.replicate (K:Int).toNat [W.int 0]).flatten] else .bad)=_;rw[ah (by rw[yY (by omega),aE];simp;unfold zT;omega),aE,rep1]
  rfl
 obtain⟨n,C,e,Y,y,H,r⟩:=wk (j:=⟨λA i=>(z0 (lw l) A).map λws=>ws[i]?,((nI l).map W.int).length⟩) (st:=turn (zE 3) (zp (jA (zY zt) (zE 4) (zp (wG zJ (zi zI (zi zI zm zU) ql) qc) zw)) zw)) (N:=l.length)
  (I:=λi ρ D=>∃Y y,ρ=[some (zr t),some (lw l),some (.ref 1),Y,y]/\D=[.lst [.int 0],.lst (cW K (yb t (l.take i) l))])
  (λi ρ D hi ⟨Y,y,H,g⟩=>by
   subst H g;have c:=h.lt _ (aK hi);obtain⟨n,m,e,q,H,g⟩:=wk (j:=⟨λA i=>(z0 (lw l) A).map λws=>ws[i]?,((nI l).map W.int).length⟩) (st:=turn (zE 4) (zp (wG zJ (zi zI (zi zI zm zU) ql) qc) zw)) (N:=l.length)
    (I:=λj ρ m=>∃y,ρ=[some (zr t),some (lw l),some (.ref 1),some (.int ((l[i]:Nat):Int)),y]/\m=[.lst [.int 0],.lst (cW K (yb t (l.take i) l++(l.take j).map λb=>(at2 t l[i] b).toNat))])
    (λj ρ m o ⟨y,H,g⟩=>by
     subst H g;have f:=h.lt _ (aK o);obtain⟨v1,v2⟩:=Qp a p c f;have E:zi zI (zi zI zm zU) ql [some (zr t),some (lw l),some (.ref 1),some (.int ((l[i]:Nat):Int)),some (.int ((l[j]:Nat):Int))] [.lst [.int 0],.lst (cW K (yb t (l.take i) l++(l.take j).map λb=>(at2 t l[i] b).toNat))]=.ok (.int (((at2 t l[i] l[j]).toNat:Nat):Int)) [.lst [.int 0],.lst (cW K (yb t (l.take i) l++(l.take j).map λb=>(at2 t l[i] b).toNat))]:=
      (zK ((zK (zl rfl) (zl rfl)).trans (Je c)) (zl rfl)).trans ((Yb (by rw[a.sq _ (yy c)];exact f)).trans (by rw[v1];rfl))
     refine⟨.int ((l[j]:Nat):Int),_,_,?_,(kE (ρ1:=[some (zr t),some (lw l),some (.ref 1),some (.int ((l[i]:Nat):Int)),some (.int ((l[j]:Nat):Int))]) rfl).trans ((zG (DQ (zl rfl) E rfl v2)).trans qG),_,rfl,?_⟩
     ·show some (((nI l).map W.int)[j]?)=_
      rw[hit j o]
     ·rw[take_succ o,aG,aO]
      rfl)
    (λρ m _=>by show some (((nI l).map W.int)[l.length]?)=_;rw[aB (by omega)]) l.length 0 [some (zr t),some (lw l),some (.ref 1),some (.int ((l[i]:Nat):Int)),y] [.lst [.int 0],.lst (cW K (yb t (l.take i) l))] (by omega) ⟨_,rfl,by rw[take_zero,map_nil,append_nil]⟩
   subst H g;rw[bw]at e;have hf:jA (zY zt) (zE 4) (zp (wG zJ (zi zI (zi zI zm zU) ql) qc) zw) [some (zr t),some (lw l),some (.ref 1),some (.int ((l[i]:Nat):Int)),y] [.lst [.int 0],.lst (cW K (yb t (l.take i) l))]=_:=S9 (ws:=(nI l).map W.int) (zl rfl) d e;refine⟨.int ((l[i]:Nat):Int),_,_,?_,(kE (ρ1:=[some (zr t),some (lw l),some (.ref 1),some (.int ((l[i]:Nat):Int)),y]) rfl).trans ((zG hf).trans qG),_,_,rfl,?_⟩
   ·show some (((nI l).map W.int)[i]?)=_
    rw[hit i hi]
   ·rw[take_succ hi]
    unfold yb;rw[bA];simp)
  (λρ D _=>by show some (((nI l).map W.int)[l.length]?)=_;rw[aB (by omega)]) l.length 0 [some (zr t),some (lw l),some (.ref 1),none,none] [.lst [.int 0],.lst (cW K [])] (by omega) ⟨_,_,rfl,rfl⟩
 subst H r;rw[bw]at e;refine JZ (k:=1) (A1:=[.lst [.int 0],.lst (cW K (yb t l l))]) (by show((zr t).nr&&((lw l).nr&&true))=true;rw[yZ,KJ];rfl) (qS ?_) rfl (Jd (λ_=>rfl) _)
 unfold Si;refine(zG (yH ((zW (zy (zl rfl) zP)).trans (QZ a [])))).trans ((zG (yH ((zW (zy (zl rfl) (zy (zl rfl) zP))).trans (PX a h [])))).trans ((zG ((qB s).trans rfl)).trans ?_));have hf:jA (zY zt) (zE 3) (zp (jA (zY zt) (zE 4) (zp (wG zJ (zi zI (zi zI zm zU) ql) qc) zw)) zw) [some (zr t),some (lw l),some (.ref 1),none,none] [.lst [.int 0],.lst (cW K [])]=_:=S9 (ws:=(nI l).map W.int) (zl rfl) d e;exact(zG hf).trans (qQ (jc (zl rfl)))
end
noncomputable def gP (n k:Nat):List (bS):=
 if k=21 then [[0,1,2,3,4,5],[1,0,3,2,5,4],[2,3,4,5,0,1],[3,2,5,4,1,0],[4,5,0,1,2,3],[5,4,1,0,3,2]]
 else if k=22∨k=29∨k=32 then [[0,1,2,3,4,5],[1,2,0,4,5,3],[2,0,1,5,3,4],[3,4,5,0,1,2],[4,5,3,1,2,0],[5,3,4,2,0,1]]
 else if k=24 then [[0,1,2,3,4,5],[1,0,3,2,5,4],[2,4,0,5,1,3],[3,5,1,4,0,2],[4,2,5,0,3,1],[5,3,4,1,2,0]]
 else if k∈[4,9,15,23,25,30,33,8,11,19,20,26,28,31] then(List.range n).map λi=>(List.range n).map λa=>Nat.xor i a
 else(List.range n).map λi=>(List.range n).map λa=>(i+a)%n
noncomputable def gt (M:List (bS))(i a:Nat):Nat:=(M.getD i []).getD a 0
def XF (t:bN)(M:List (bS)):Bool:=((List.range t.length).all λi=>(List.range t.length).all λx=>decide (gt M i x<t.length)&&(List.range t.length).all λy=>decide (at2 t (gt M i x) (gt M i y)=at2 t x y))&&((List.range t.length).all λa=>(List.range t.length).all λb=>(List.range t.length).any λi=>gt M i a==b)
def EA:((List.range 34).all λk=>XF (kh (j9 k)) (gP (j9 k).length k))=true:=by decide +kernel
section
variable {ks:bO}{l:bS}{p q:Nat}
structure Rg (t:bN)(g φ:Nat->Nat->Nat):Prop where
 at_:∀a b,a<t.length->b<t.length->φ a b<t.length/\g (φ a b) a=b
 kd:∀i x y,i<t.length->x<t.length->y<t.length->at2 t (g i x) (g i y)=at2 t x y
def Aq {M:List (bS)}(h:XF t M=true):∃g φ,Rg t g φ:=by
 unfold XF at h;rw[ak]at h;obtain⟨p,o⟩:=h;refine⟨gt M,λa b=>((List.range t.length).find? λi=>gt M i a==b).getD 0,⟨λa b l f=>?_,λi x y hi d c=>?_⟩⟩
 ·have H:=cc.mp (cc.mp o a (b6.mpr l)) b (b6.mpr f)
  obtain⟨i,hi,e⟩:=List.any_eq_true.mp H;cases hf:(List.range t.length).find? λi=>gt M i a==b with
  |none=>exact absurd e (by have:=List.find?_eq_none.mp hf i hi;exact this)|some j=>
   have n:=List.find?_some hf;have m:=List.mem_of_find?_eq_some hf;exact⟨b6.mp m,by simpa using n⟩
 ·have H:=cc.mp (cc.mp p i (b6.mpr hi)) x (b6.mpr d)
  rw[ak]at H;exact of_decide_eq_true (cc.mp H.2 y (b6.mpr c))
def RX {β γ:Type}(f:α->β->γ)(l:List α)(L:List β):(l.flatMap λa=>L.map (f a)).length=l.length * L.length:=by
 induction l with
 |nil=>simp|cons a l i=>rw[flatMap_cons,aw,i,af,aS,Nat.succ_mul,add_comm]
def cK {g φ:Nat->Nat->Nat}(q:qa t)(r:Rg t g φ){P:Int->Prop}{l L:bS}(n1:l.Nodup)(B:∀a∈l,a<t.length)(f1:∀a∈l,∀b∈l,a≠b->P (at2 t a b))(N:L.Nodup)(j:∀a∈L,a<t.length)(f2:∀a∈L,∀b∈L,a≠b->¬P (at2 t a b)):l.length * L.length<=t.length:=by
 rw[<- RX φ l L];refine RQ ?_ λi hi=>?_
 ·refine List.pairwise_flatMap.mpr ⟨λa d=>List.pairwise_map.mpr (List.Pairwise.imp_of_mem ?_ N),List.Pairwise.imp_of_mem ?_ n1⟩
  ·intro b m f H h e
   have p:=(r.at_ a b (B a d) (j b f)).2;have o:=(r.at_ a m (B a d) (j m H)).2;rw[e]at p;exact h (p.symm.trans o)
  ·intro a A d c h x u y s e
   obtain⟨b,f,rfl⟩:=b7.mp u;obtain⟨m,H,rfl⟩:=b7.mp s;obtain⟨Q,p⟩:=r.at_ a b (B a d) (j b f);obtain⟨_,o⟩:=r.at_ A m (B A c) (j m H);rw[<- e]at o;have E:=r.kd _ a A Q (B a d) (B A c);rw[p,o]at E
   by_cases n:b=m
   ·subst n
    rw[(q.dg b b (j b f) (j b f)).mpr rfl]at E;exact h ((q.dg a A (B a d) (B A c)).mp E.symm)
   ·exact f2 b f m H n (by rw[E];exact f1 a d A c h)
 ·obtain⟨a,d,hi⟩:=List.mem_flatMap.mp hi
  obtain⟨b,f,rfl⟩:=b7.mp hi;exact(r.at_ a b (B a d) (j b f)).1
def jC.any (f:qa t)(h:jC t ks l){a b:Nat}(e:a∈l)(d:b∈l)(H:a≠b):at2 t a b∈ks:=by
 obtain⟨i,hi,rfl⟩:=bo e;obtain⟨j,c,rfl⟩:=bo d;have p:=List.pairwise_iff_getElem.mp h.fr;rcases Nat.lt_trichotomy i j with q|q|q
 ·exact p i j hi c q
 ·subst q;exact absurd rfl H
 ·rw[f.sy _ _ (h.lt _ e) (h.lt _ d)]
  exact p j i c hi q
def Il (h:Known t)(E:qa t){K:bO}{l L:bS}(n:jC t ks l)(m:jC t K L)(hd:∀v∈K,v∉ks):l.length * L.length<=t.length:=by
 obtain⟨i,p,o,hi,B,w,e⟩:=h;have hn:(kh (j9 i)).length=(j9 i).length:=by unfold kh;rw[af]
 obtain⟨g,φ,r⟩:=Aq (cc.mp EA i (b6.mpr hi));have t0:=(GK hi).1;generalize kh (j9 i)=u at*;have hlen:t.length=u.length:=by rw[e];exact(Gp t0 B w).2
 have I:o.length=u.length:=by rw[w.length_eq,aF]
 have s:∀a,a<t.length->o.getD a 0<u.length:=λa d=>by
  rw[ab,aa (by omega)]
  exact b6.mp (w.subset (aK _))
 have C:o.Nodup:=w.nodup_iff.mpr nodup_range;have x:∀a b,a<t.length->b<t.length->o.getD a 0=o.getD b 0->a=b:=λa b d j z=>by
  rw[ab,aa (by omega),ab,aa (by omega)]at z
  have B:=List.pairwise_iff_getElem.mp C;rcases Nat.lt_trichotomy a b with q|q|q
  ·exact absurd z (B a b (by omega) (by omega) q)
  ·exact q
  ·exact absurd z.symm (B b a (by omega) (by omega) q)
 have y:∀a b,a<t.length->b<t.length->at2 t a b=(qZ p).getD (at2 u (o.getD a 0) (o.getD b 0)).toNat 0:=λa b d j=>by
  rw[e];exact JV w (by omega) (by omega)
 have nd:∀l:bS,l.Nodup->(∀a∈l,a<t.length)->(l.map λa=>o.getD a 0).Nodup:=λl J j=>List.pairwise_map.mpr (List.Pairwise.imp_of_mem (λ {a b} d c f z=>f (x a b (j a d) (j b c) z)) J)
 have:=cK t0 r (P:=λv=>(qZ p).getD v.toNat 0∈ks) (nd l n.nd n.lt) (λa d=>by
   obtain⟨A,H,rfl⟩:=b7.mp d;exact s _ (n.lt _ H)) (λa d b j f=>by
   obtain⟨A,H,rfl⟩:=b7.mp d;obtain⟨D,c,rfl⟩:=b7.mp j;show(qZ p).getD _ 0∈ks;rw[<- y A D (n.lt _ H) (n.lt _ c)];exact n.any E H c λz=>f (by rw[z])) (nd L m.nd m.lt) (λa d=>by
   obtain⟨A,H,rfl⟩:=b7.mp d;exact s _ (m.lt _ H)) (λa d b j f z=>by
   obtain⟨A,H,rfl⟩:=b7.mp d;obtain⟨D,c,rfl⟩:=b7.mp j;have z:(qZ p).getD _ 0∈ks:=z;rw[<- y A D (m.lt _ H) (m.lt _ c)]at z;exact hd _ (m.any E H c λz=>f (by rw[z])) z)
 rw[af,af]at this;omega
end
end G
namespace Mi
open PySem L2 G
def Kr (n:Nat)(f g:Nat->Int):sm n (λi=>f i+g i)=sm n f+sm n g:=by
 induction n with
 |zero=>rfl|succ n I=>rw[Za,Za,Za,I];omega
def Xg {a:Nat}(H:a<n)(v:Int):sm n (λi=>if i=a then v else 0)=v:=by
 induction n with
 |zero=>omega|succ n I=>
  rw[Za]
  by_cases h:a=n
  ·subst h
   have:sm a (λi=>if i=a then v else 0)=sm a λ_=>0:=wW λi hi=>aq (by omega)
   rw[this,Q7,ah rfl];omega
  ·rw[I (by omega),aq (by omega)]
   omega
def DS {K a b:Nat}(c:a<K)(H:b<K)(f g:Nat->Int)(μ:Nat->Nat->Int):ds K (λi j=>f i * g j * gN μ a b (μ a b+1) i j)=ds K (λi j=>f i * g j * μ i j)+f a * g b:=by
 have e:∀i j,f i * g j * gN μ a b (μ a b+1) i j=f i * g j * μ i j+(if i=a then(if j=b then f a * g b else 0) else 0):=λi j=>by
  unfold gN
  by_cases h:i=a
  ·by_cases h':j=b
   ·subst h h'
    rw[ah ⟨rfl,rfl⟩,ah rfl,ah rfl,Int.mul_add,Int.mul_one]
   ·rw[aq (λz=>h' z.2),ah h,aq h',Int.add_zero]
  ·rw[aq (λz=>h z.1),aq h,Int.add_zero]
 rw[Y4 λi j _ _=>e i j];unfold ds
 have:∀i,sm K (λj=>f i * g j * μ i j+(if i=a then(if j=b then f a * g b else 0) else 0))=sm K (λj=>f i * g j * μ i j)+(if i=a then f a * g b else 0):=λi=>by
  rw[Kr]
  by_cases h:i=a
  ·rw[ah h]
   congr 1
   exact(wW λj _=>ah h).trans (Xg H (f a * g b))
  ·rw[aq h]
   congr 1
   exact(wW λj _=>aq h).trans (Q7 K)
 rw[wW λi _=>this i,Kr,Xg c]
end Mi
namespace G
open PySem L2 Mi
section
variable {x y:bO}{a b c K:Nat}{S:Nat->List (bO)}
noncomputable def mv (x:bO)(v:Int):Int:=x.getD v.toNat 0
def dt (t:bN)(x y:bO)(a b:Nat):Int:=sm t.length λc=>mv x (at2 t a c) * mv y (at2 t b c)
theorem RU (h:qa t)(H:qu t=(K:Int))(e:a<t.length)(d:b<t.length):∀n,n<=t.length->ds K (λi j=>x.getD i 0 * y.getD j 0 * shr t a b n i j)=sm n λc=>mv x (at2 t a c) * mv y (at2 t b c)
 |0,_=>by
  have:ds K (λi j=>x.getD i 0 * y.getD j 0 * shr t a b 0 i j)=ds K λ_ _=>0:=Y4 λi j _ _=>Int.mul_zero _
  rw[this];unfold ds;rw[wW λi _=>Q7 K,Q7]
  rfl
 |n+1,hn=>by
  rw[Za,<- RU h H e d n (by omega)]
  exact DS (Qp h H e (show n<t.length by omega)).2 (Qp h H d (show n<t.length by omega)).2 (λi=>x.getD i 0) (λj=>y.getD j 0) (shr t a b n)
def Bo (c:qa t)(d:qu t=(K:Int))(f:∀a b,a<t.length->b<t.length->yj t K a b=S (at2 t a b).toNat)(H:a<t.length)(h:b<t.length):mv (pv K S x y) (at2 t a b)=dt t x y a b:=by
 unfold mv;rw[Pw (Qp c d H h).2,<- f a b H h];unfold dt;rw[<- RU c d H h t.length (aj _)];exact Y4 λi j hi e=>by unfold yj;rw[Jb hi e]
end
noncomputable def sl (l:bS)(f:Nat->Int):Int:=(l.map f).sum
def Q9 (a:Nat)(l:bS)(f:Nat->Int):sl (a::l) f=f a+sl l f:=by unfold sl;rw[aQ,List.sum_cons]
def Gz {l:bS}{f g:Nat->Int}(h:∀a∈l,f a=g a):sl l f=sl l g:=by unfold sl;rw[aY h]
def Ph (l:bS)(f:Nat->Int)(v:Int):sl l (λa=>v * f a)=v * sl l f:=by
 induction l with
 |nil=>exact(Int.mul_zero v).symm|cons a l i=>rw[Q9,Q9,i,Int.mul_add]
def PL (l:bS)(n:Nat)(g:Nat->Nat->Int):sl l (λa=>sm n (g a))=sm n λc=>sl l λa=>g a c:=by
 induction l with
 |nil=>exact(Q7 n).symm|cons a l i=>
  rw[Q9,i,<- Kr];exact wW λc _=>(Q9 a l λa=>g a c).symm
def Au {f:Nat->Int}(h:∀i,i<n->0<=f i):0<=sm n f:=by
 induction n with
 |zero=>exact Int.le_refl _|succ n I=>
  rw[Za]
  have:=I λi hi=>h i (by omega)
  have:=h n (by omega)
  omega
def Pk (l:bS){f:Nat->Int}{v:Int}(h:∀a∈l,f a<=v):sl l f<=(l.length:Int) * v:=by
 induction l with
 |nil=>exact Int.le_of_eq (Int.zero_mul v).symm|cons a l i=>
  rw[Q9,aS,natCast_succ,Int.add_mul,one_mul]
  have:=i λb H=>h b (au _ H)
  have:=h a (av ..)
  omega
def Cb {l:bS}{f:Nat->Int}{v L:Int}{a:Nat}(hn:l.Nodup)(i:a∈l)(h0:f a=v)(h:∀b∈l,b≠a->f b<=-L):sl l f<=v-((l.length:Int)-1) * L:=by
 induction l with
 |nil=>cases i|cons b l I=>
  have H:=List.pairwise_cons.mp hn;rw[Q9,aS,natCast_succ];have e:((l.length:Int)+1-1) * L=(l.length:Int) * L:=by congr 1;omega
  rw[e]
  by_cases q:b=a
  ·subst q
   have j:=Pk l (f:=f) (v:=-L) λc d=>h c (au _ d) λz=>H.1 c d z.symm;rw[Int.mul_neg]at j;omega
  ·have g:a∈l:=by
    rcases b9.mp i with z|z
    ·exact absurd z.symm q
    ·exact z
   have m:=I H.2 g λc d=>h c (au _ d);have j:=h b (av ..) q;rw[Int.sub_mul,one_mul]at m;omega
section
variable {ks m:bO}{l:bS}{K:Nat}{S:Nat->List (bO)}
def T9 (e:qa t)(p:qu t=(K:Int))(o:HS t K S)(h:jC t ks l)(n:l≠[]){v:Int}(s:kx K S ks m=some v):(l.length:Int)<=v:=by
 unfold kx at s;generalize w:minD 0 (ks.map λk=>-((pv K S m m).getD k.toNat 0))=L at s
 by_cases j:L<=0
 ·rw[ah j]at s;cases s
 rw[aq j]at s;cases s;have g:∀k∈ks,(pv K S m m).getD k.toNat 0<=-L:=λk g=>by
  have H:-((pv K S m m).getD k.toNat 0)∈ks.map λk=>-((pv K S m m).getD k.toNat 0):=b7.mpr ⟨k,g,rfl⟩
  have:minD 0 (ks.map λk=>-((pv K S m m).getD k.toNat 0))<=-((pv K S m m).getD k.toNat 0):=by
   generalize ks.map (λk=>-((pv K S m m).getD k.toNat 0))=r at H;cases r with
   |nil=>cases H|cons b r=>exact GO r b _ H
  omega
 have Q:0<=sl l λa=>sl l λb=>mv (pv K S m m) (at2 t a b):=by
  have u:(sl l λa=>sl l λb=>mv (pv K S m m) (at2 t a b))=sm t.length λc=>(sl l λa=>mv m (at2 t a c)) * (sl l λa=>mv m (at2 t a c)):=by
   have E:∀a∈l,(sl l λb=>mv (pv K S m m) (at2 t a b))=sm t.length λc=>mv m (at2 t a c) * (sl l λb=>mv m (at2 t b c)):=λa d=>by
    rw[Gz λb i=>Bo e p o (h.lt a d) (h.lt b i)];unfold dt;rw[PL];exact wW λc _=>Ph l _ _
   rw[Gz E,PL];refine wW λc _=>?_;rw[<- Ph];exact Gz λa _=>Int.mul_comm _ _
  rw[u];refine Au λc _=>?_;generalize (sl l λa=>mv m (at2 t a c))=z;rcases Int.le_total 0 z with q|q
  ·exact Int.mul_nonneg q q
  ·exact Int.mul_nonneg_of_nonpos_of_nonpos q q
 have U:(sl l λa=>sl l λb=>mv (pv K S m m) (at2 t a b))<=(l.length:Int) * ((pv K S m m).getD 0 0-((l.length:Int)-1) * L):=Pk l λa d=>
  Cb (a:=a) h.nd d (by show(pv K S m m).getD (at2 t a a).toNat 0=_;rw[(e.dg a a (h.lt a d) (h.lt a d)).mpr rfl];rfl) λb i f=>g _ (h.any e d i λz=>f z.symm)
 generalize (pv K S m m).getD 0 0=P at U ⊢;have hn:0<(l.length:Int):=by
  have:=List.length_pos_iff.mpr n
  omega
 have y:0<=P-((l.length:Int)-1) * L:=by
  refine Int.le_of_not_gt λq=>?_
  have:=Int.mul_neg_of_pos_of_neg hn q
  omega
 have x:(l.length:Int)-1<=P/L:=(Int.le_ediv_iff_mul_le (by omega)).mpr (by omega)
 omega
variable {k q r:Nat}{C:Hx}{w:W}
def Ck (hm:Sl m)(g:m.length<=8){y:Option W}(n:acc.length<=1000):∃Y,yQ (zY zm) (zE 1) zQ (zH (jZ jR jR (jq k6 (z7 (.int 99))) zt (z7 (.int 99)))) [some (zj m),y] acc A=.ok ([some (zj m),Y],acc++m.map λ_=>W.bl true) A:=by
 have l:(m.map W.int).length=m.length:=af ..;obtain⟨c,a,o,e,⟨Y,h⟩,C,H⟩:=JU (j:=⟨λA i=>(z0 (.tup (m.map W.int)) A).map λws=>ws[i]?,(m.map W.int).length⟩) (tw:=zE 1) (ifs:=zQ) (em:=zH (jZ jR jR (jq k6 (z7 (.int 99))) zt (z7 (.int 99)))) (N:=m.length)
  (I:=λi ρ a D=>(∃y,ρ=[some (zj m),y])/\D=A/\a=acc++(m.take i).map λ_=>W.bl true)
  (λi ρ a D hi ⟨⟨y,h⟩,d,b⟩=>by
   subst h d b;have f:=hm _ (aK hi);refine⟨.int m[i],[some (zj m),some (.int m[i])],?_,rfl,.inl ⟨D,_,_,D,rfl,wV (y:=.bl true) ((GN (lo:=-99) (hi:=99) (v:=m[i]) ((G7 qh).trans rfl) (zl rfl) qh).trans ?_) ?_,⟨_,rfl⟩,rfl,?_⟩⟩
   ·show some ((m.map W.int)[i]?)=_
    rw[ao,aa hi]
    rfl
   ·rw[ay (by omega:(-99:Int)<=m[i]),ay (by omega:m[i]<=(99:Int))]
    rfl
   ·rw[aw,af,a8]
    unfold zT;omega
   ·rw[take_succ hi,aG,aO]
    rfl)
  (λρ a D _=>by show some ((m.map W.int)[m.length]?)=_;rw[aB (by omega)]) m.length 0 [some (zj m),y] acc A (by omega) ⟨⟨_,rfl⟩,rfl,by simp⟩
 subst h C H;rw[bw]at e;refine⟨Y,?_⟩;show(zY zm _ _).bind _=_;rw[g8 (ws:=m.map W.int) (zl rfl),zM];show je _ _ _ _ (m.map W.int).length 0 _ _ _=_;rw[show(m.map W.int).length=m.length from l]at e ⊢
 exact e
def G0 (m:bO):(W.tup [zj m]).nr=true:=by
 show qP [zj m]=true;show((zj m).nr&&true)=true;rw[kF]
 rfl
def C2 (b:qa t)(d:qu t=(K:Int))(l:m.length=K)(hm:Sl m)(A:Hx):WD [zr t,.tup [zj m]] A=.ok (.bl true) A:=by
 have p:=km b;refine kf (A1:=[]) (by show((zr t).nr&&((W.tup [zj m]).nr&&true))=true;rw[yZ,G0];rfl) rfl (qS ?_)
 unfold VG;have n:jZ jR jR qc (mQ qR (qi zt)) j5 [some (zr t),some (.tup [zj m])] []=.ok (.bl true) []:=(GN (lo:=1) (v:=1) (hi:=4) qh ((Kx (ws:=[zj m]) rfl)) qh).trans rfl;refine(zG ((js (A1:=[]) ((Zg (A1:=[]) (wz (k:=true) rfl)).trans (wz (k:=true) n))).trans qG)).trans ?_;have E:=ZI (cap:=[0]) (A:=[]) (ρ:=[some (zr t),some (.tup [zj m])]) (ws:=[zj m]) (m:=zt) (me:=zA QV (zc zm (zc (zA kA (zc zt zq)) zq))) (g:=λ_=>.bl true) (zl rfl) (by unfold zT;simp) (λw hw=>by
  rw[cb.mp hw];exact(zW (zy (zl rfl) (zy ((zW (zy (zl rfl) zP)).trans (Qm b [])) zP))).trans (by rw[d,<- l];exact Sj (by omega) []))
 refine(zG ((js (A1:=[]) (wz (k:=true) ((jJ E).trans (Kq (λ_=>true) [zj m] [])))).trans qG)).trans (qQ (jc ?_));obtain⟨c,acc,C,e,_,j,h⟩:=wU (nl:=2) (cap:=[]) (mi:=zY zt) (tw:=zE 0) (ifs:=zQ) (em:=yQ (zY zm) (zE 1) zQ (zH (jZ jR jR (jq k6 (z7 (.int 99))) zt (z7 (.int 99))))) (N:=1) (ρ:=[some (zr t),some (.tup [zj m])]) (A:=[])
  (I:=λi ρ acc D=>(∃a Y,ρ=[a,Y])/\D=[]/\acc=if i=0 then [] else m.map λ_=>W.bl true) (g8 (ws:=[zj m]) (zl rfl)) rfl
  (λi ρ acc D hi ⟨⟨a,Y,H⟩,f,h⟩=>by
   have:i=0:=by omega
   subst this H f;rw[ah rfl]at h;subst h;obtain⟨o,e⟩:=Ck (A:=[]) hm (by omega) (y:=Y) (acc:=[]) (by simp)
   exact⟨zj m,[some (zj m),Y],rfl,rfl,.inl ⟨[],_,_,[],rfl,e,⟨_,_,rfl⟩,rfl,rfl⟩⟩)
  (λρ acc D _=>rfl) ⟨⟨_,_,rfl⟩,rfl,rfl⟩
 subst j;rw[aq (by decide)]at h
 subst h;refine(jJ e).trans ((Kq (λ_=>true) m []).trans ?_);rw[show(m.all λ_=>true)=true from by simp]
def GU (h:qa t)(s:kZ t)(H:qu t=(K:Int))(b:HS t K S)(a:yq K ks)(l:m.length=K)(hm:Sl m)(A:Hx):ZF [zr t,zj ks,.tup [zj m]] A=.ok (.bl (kx K S ks m).isSome) A:=by
 have E:=Gm h H b ([]:Hx);have e:=GB h H b a l hm (A:=[]++[O.lst ((List.range K).map λk=>zr (S k))]) (r:=([]:Hx).length) jx;refine kf (A1:=[]++[O.lst ((List.range K).map λk=>zr (S k))]++[.lst [zj (pv K S m m)]]++[.lst ((pv K S m m).map W.int)]) (by show((zr t).nr&&((zj ks).nr&&((W.tup [zj m]).nr&&true)))=true;rw[yZ,kF,G0];rfl) rfl (qS ?_)
 unfold UL;refine(zG (yH ((zW (zy (zl rfl) zP)).trans (RN h s [])))).trans ((zG (yH ((zW (zy (zl rfl) (zy (zl rfl) zP))).trans (J7 h H a [])))).trans (qQ (jc ?_)));refine(kG ((zW (zy (zl rfl) (zy (zl rfl) zP))).trans (C2 h H l hm []))).trans ?_;refine(zK ((zW (zy ((zW (zy (zl rfl) zP)).trans E) (zy (zl rfl) (zy (zl rfl) zP)))).trans e) qh).trans ?_;cases kx K S ks m<;>rfl
def RA (h:qa t)(s:kZ t)(a:qu t=(K:Int))(H:HS t K S)(b:yq K ks)(l:m.length=K)(hm:Sl m){v:Int}(c:kx K S ks m=some v)(A:Hx):Qk [zr t,zj ks,.tup [zj m]] A=.ok (.int v) A:=by
 have E:=GU h s a H b l hm ([]:Hx);have d:=Gm h a H ([]:Hx);have e:=GB h a H b l hm (A:=[]++[O.lst ((List.range K).map λk=>zr (S k))]) (r:=([]:Hx).length) jx;rw[c]at E e;refine kf (A1:=[]++[O.lst ((List.range K).map λk=>zr (S k))]++[.lst [zj (pv K S m m)]]++[.lst ((pv K S m m).map W.int)]) (by show((zr t).nr&&((zj ks).nr&&((W.tup [zj m]).nr&&true)))=true;rw[yZ,kF,G0];rfl) rfl (qS ?_)
 unfold Rv;refine(zG ((js (A1:=[]) (wz (k:=true) ((zW (zy (zl rfl) (zy (zl rfl) (zy (zl rfl) zP)))).trans E))).trans qG)).trans (qQ (jc ?_));exact(zW (zy ((zW (zy (zl rfl) zP)).trans d) (zy (zl rfl) (zy (zl rfl) zP)))).trans e
theorem Tc:∀{L:bN}{o:Option (List Int×Int)},(∀c,o=some c->kx K S ks c.1=some c.2/\c.1.length=K/\Sl c.1)->(∀m∈L,m.length=K/\Sl m)->∀c,L.foldl (wO K S ks) o=some c->kx K S ks c.1=some c.2/\c.1.length=K/\Sl c.1
 |[],o,h,_,c,e=>h c e|m::L,o,h,a,c,e=>by
  refine Tc (L:=L) (o:=wO K S ks o m) (λC E=>?_) (λx b=>a x (au _ b)) c e;have hm:=a m (av ..);unfold wO at E;cases H:kx K S ks m with
  |none=>rw[H]at E;exact h C E|some v=>
   rw[H]at E;cases o with
   |none=>
    cases E;exact⟨H,hm⟩
   |some d=>
    dsimp only at E
    by_cases q:v<d.2
    ·rw[ah q]at E
     cases E;exact⟨H,hm⟩
    ·rw[aq q]at E
     cases E;exact h _ rfl
def C8 {c:List Int×Int}(e:Wd K S ks=some c):kx K S ks c.1=some c.2/\c.1.length=K/\Sl c.1:=
 Tc (L:=Ml K) (o:=none) (λc e=>by cases e) (λm hm=>let g:=Kk hm;⟨g.1,λv h=>by have:=g.2 v h;omega⟩) c e
variable {B:Hx}
theorem Rt:∀{P:bS},(∀v∈P,v<K)->sm K (λk=>((P.count k:Nat):Int))=(P.length:Int)
 |[],_=>Q7 K|v::P,h=>by
  have a:=Rt (P:=P) λx H=>h x (au _ H);have e:∀k,(((v::P).count k:Nat):Int)=((P.count k:Nat):Int)+(if k=v then 1 else 0):=λk=>by
   rw[List.count_cons]
   by_cases q:k=v
   ·subst q
    simp
   ·have:(v==k)=false:=by simp;exactλz=>q z.symm
    rw[this,aq q];simp
  rw[wW λk _=>e k,Kr,a,Xg (h v (av ..)),aS];omega
def CG (c:qa t)(f:qu t=(K:Int))(h:jC t ks l):∀v∈yb t l l,v<K:=λv H=>by
 obtain⟨a,e,H⟩:=List.mem_flatMap.mp H;obtain⟨b,d,rfl⟩:=b7.mp H;exact(Qp c f (h.lt a e) (h.lt b d)).2
def D6 (c:qa t)(h:jC t ks l){v:Nat}(j:1<=v)(i:(v:Int)∉ks):(yb t l l).count v=0:=List.count_eq_zero.mpr λH=>by
 obtain⟨a,f,H⟩:=List.mem_flatMap.mp H;obtain⟨b,d,e⟩:=b7.mp H;have g:=(w6 c (h.lt a f) (h.lt b d)).1
 by_cases q:a=b
 ·rw[(c.dg a b (h.lt a f) (h.lt b d)).mpr q]at e
  have:(0:Int).toNat=0:=rfl
  omega
 ·have:=h.any c f d q
  have E:at2 t a b=(v:Int):=by omega
  rw[E]at this;exact i this
theorem Sy {f:Nat->Nat}{a:Nat}:∀{l:bS},l.Nodup->(∀b∈l,f b=0↔b=a)->(l.map f).count 0=if a∈l then 1 else 0
 |[],_,_=>rfl|b::l,hn,h=>by
  have H:=List.pairwise_cons.mp hn;have i:=Sy (f:=f) (a:=a) H.2 λc e=>h c (au _ e);have d:=h b (av ..);rw[aQ,List.count_cons,i]
  by_cases q:b=a
  ·subst q
   have:b∉l:=λz=>H.1 b z rfl
   rw[aq this,d.mpr rfl];simp
  ·have m:f b≠0:=λz=>q (d.mp z)
   have j:(f b==0)=false:=by simp[m]
   rw[j];have g:a∈b::l↔a∈l:=by
    rw[mem_cons];exact⟨λz=>z.resolve_left λy=>q y.symm,.inr⟩
   simp only[g];simp
def Bm (d:qa t)(h:jC t ks l):(yb t l l).count 0=l.length:=by
 have:∀m:bS,(∀a∈m,a∈l)->(yb t m l).count 0=m.length:=λm=>by
  induction m with
  |nil=>intro _;rfl|cons a m i=>
   intro hm;have c:=hm a (av ..);show((l.map λb=>(at2 t a b).toNat)++yb t m l).count 0=_;rw[count_append,i λb H=>hm b (au _ H),Sy (a:=a) h.nd λb H=>?_,ah c,aS]
   ·omega
   ·have h0:=(w6 d (h.lt a c) (h.lt b H)).1
    constructor
    ·intro z
     exact((d.dg a b (h.lt a c) (h.lt b H)).mp (by omega)).symm
    ·intro z
     subst z;rw[(d.dg b b (h.lt b H) (h.lt b H)).mpr rfl]
     rfl
 exact this l λa c=>c
def LQ {ifs:Ev}{N:Nat}{it:Nat->W}(hm:mi ρ A=.ok j A)(f:j.len=N)(t:∀i,i<N->j.at_ A i=some (some (it i)))(H:j.at_ A N=some none)(hi:∀i,i<N->ifs (some (it i)::cap.map λi=>(ρ[i]?).join) A=.ok (.bl false) A):zN 1 cap mi (zE 0) ifs em ρ A=.ok [] A:=by
 obtain⟨a,acc,B,e,_,b,d⟩:=wU (nl:=1) (cap:=cap) (mi:=mi) (tw:=zE 0) (ifs:=ifs) (em:=em) (N:=N) (ρ:=ρ) (A:=A)
  (I:=λi a acc B=>(∃y,a=y::cap.map λi=>(ρ[i]?).join)/\B=A/\acc=[]) hm f
  (λi a acc B h ⟨⟨y,c⟩,b,d⟩=>by
   subst c b d;exact⟨it i,some (it i)::cap.map λi=>(ρ[i]?).join,t i h,rfl,.inr ⟨B,hi i h,⟨_,rfl⟩,rfl,rfl⟩⟩)
  (λa acc B ⟨_,b,_⟩=>by subst b;exact H) ⟨⟨none,rfl⟩,rfl,rfl⟩
 subst b d;exact e
def Ik {ifs:Ev}{lo:Int}{N:Nat}{q:Nat->Bool}(hm:mi ρ A=.ok (yR lo N) A)(f:N<=1000)(hi:∀i,i<N->ifs (some (.int (lo+i))::cap.map λi=>(ρ[i]?).join) A=.ok (.bl (q i)) A):zN 1 cap mi (zE 0) ifs (zH zm) ρ A=.ok (((List.range N).filter q).map λ(i:Nat)=>W.int (lo+i)) A:=by
 obtain⟨a,acc,B,e,_,d,c⟩:=wU (nl:=1) (cap:=cap) (mi:=mi) (tw:=zE 0) (ifs:=ifs) (em:=zH zm) (N:=N) (ρ:=ρ) (A:=A)
  (I:=λi a acc B=>(∃y,a=y::cap.map λi=>(ρ[i]?).join)/\B=A/\acc=((List.range i).filter q).map λ(i:Nat)=>W.int (lo+i)) hm rfl
  (λi a acc B h ⟨⟨y,b⟩,d,c⟩=>by
   subst b d c;have H:=hi i h;refine⟨_,some (.int (lo+i))::cap.map λi=>(ρ[i]?).join,wD h,rfl,?_⟩;cases p:q i with
   |true=>
    rw[p]at H;refine .inl ⟨B,_,_,B,H,wV (zl rfl) ?_,⟨_,rfl⟩,rfl,?_⟩
    ·rw[af]
     have:=bC q (List.range i)
     rw[aF]at this;unfold zT;omega
    ·rw[bb,filter_append,List.filter_cons_of_pos p,aG]
     rfl
   |false=>
    rw[p]at H;refine .inr ⟨B,H,⟨_,rfl⟩,rfl,?_⟩;rw[bb,filter_append,List.filter_cons_of_neg (l:=[]) (by rw[p];simp)]
    simp)
  (λa acc B _=>wA (by omega)) ⟨⟨none,rfl⟩,rfl,rfl⟩
 subst d c;exact e
def Ak:ym ws none (some (i:Int))=ws.take i:=by
 unfold ym;have H:HT.qb ws.length 0 none=0:=rfl;rw[H,HT.Rw,drop_zero,sub_zero]
 by_cases h:i<=ws.length
 ·rw[Nat.min_eq_left h]
 ·rw[Nat.min_eq_right (by omega),bh (aj _),bh (by omega)]
def BC:ym ws (some 1) none=ws.drop 1:=by
 unfold ym;cases ws with
 |nil=>rfl|cons v r=>
  have H:HT.qb (v::r).length 0 (some 1)=1:=by unfold HT.qb;simp
  have h:HT.qb (v::r).length (v::r).length none=(v::r).length:=rfl;rw[H,h];exact bh (by rw[bx];exact aj _)
noncomputable def os (K:Nat)(ks:bO):bO:=((List.range (K-1)).filter λi=>!decide ((1:Int)+(i:Nat)∈ks)).map λ(i:Nat)=>(1:Int)+i
noncomputable def al (K:Nat):bO:=(List.range (K-1)).map λ(i:Nat)=>(1:Int)+i
def G1 {v:Int}(h:v∈os K ks):1<=v/\v<(K:Int)/\v∉ks:=by
 obtain⟨i,hi,rfl⟩:=b7.mp h;obtain⟨a,H⟩:=List.mem_filter.mp hi
 have:=b6.mp a
 refine⟨by omega,by omega,?_⟩
 intro z;rw[ay z]at H;cases H
def AL (H:K<=8):yq K (os K ks):=⟨λk h=>let g:=G1 h;⟨g.1,g.2.1⟩,List.pairwise_map.mpr (List.Pairwise.imp (λz=>by omega) (List.Pairwise.filter _ bz)),by
 unfold os;rw[af]
 have:=bC (λi:Nat=>!decide ((1:Int)+(i:Nat)∈ks)) (List.range (K-1))
 rw[aF]at this;omega⟩
def cL (H:K<=8):yq K (al K):=⟨λk h=>by
 obtain⟨i,hi,rfl⟩:=b7.mp h
 have:=b6.mp hi
 omega,List.pairwise_map.mpr (List.Pairwise.imp (λz=>by omega) bz),by
 unfold al;rw[af,aF];omega⟩
def C1 (v:Int)(H:1<=v)(h:v<(K:Int)):v∈al K:=b7.mpr ⟨(v-1).toNat,b6.mpr (by omega),by omega⟩
def AJ (h:yq K ks):yq K (ks.drop 1):=⟨λk H=>h.lo k (List.mem_of_mem_drop H),h.up.sublist (List.drop_sublist 1 ks),by rw[bx];have:=h.len;omega⟩
variable {p c:Nat}
abbrev rB:Ex:=zp (z8 7 (zA Y7 (zc zt (zc jw zq)))) (zp (qy (jH (zi qj (mQ qR (qi jw)) qk) (jH (zi (jL true) (zA JO (zc zt (zc zJ (zc jw zq)))) zQ) (zi qj (mQ kN (qi yi)) (zi qw qk qk)))) yr zw) (zp (qy (jH (zi qj (qv (zN 1 [7] (zY ql) (zE 0) (zi qj (zi zI zt zm) qe) (zH zm))) (qW zq)) (zi qj (zi zI yi qe) qk)) yr zw) zw))
def Ye (i:Int)(A:Hx):qj (.int i) (.int i) A=.ok (.bl false) A:=by rw[Og,ay rfl];rfl
def Ag {x0 x3 x7 x8:Option W}(d:qa t)(u:qu t=(K:Int))(I:yq K ks)(h:jC t ks l)(r:l.length=c)(A:Hx):
  ∃Y B,rB [x0,some (zr t),some (zj ks),x3,some (zj (os K ks)),some (.int (c:Int)),some (lw l),x7,x8] A=.ok (.nx [x0,some (zr t),some (zj ks),x3,some (zj (os K ks)),some (.int (c:Int)),some (lw l),Y,x8]) B/\Ext A B:=by
 have Q:=km d;have n8:=d.n8;have D:=h.len;have e7:=Ho d u h A;generalize j:A++[O.lst (cW K (yb t l l))]=A1 at e7;have z:A1[A.length]? =some (.lst (cW K (yb t l l))):=by rw[<- j];exact jx
 have x1:Ext A A1:=⟨_,j.symm⟩;have s:cW K (yb t l l)=((List.range K).map λk=>(((yb t l l).count k:Nat):Int)).map W.int:=by
  unfold cW;rw[aL]
  rfl
 have f:∀v,v<K->(cW K (yb t l l))[v]? =some (.int (((yb t l l).count v:Nat):Int)):=λv o=>by
  unfold cW;rw[ao,aT o]
  rfl
 generalize H:[x0,some (zr t),some (zj ks),x3,some (zj (os K ks)),some (.int (c:Int)),some (lw l),some (.ref A.length),x8]=ρ;have v1:ρ[1]? =some (some (zr t)):=by rw[<- H];rfl
 have v2:ρ[2]? =some (some (zj ks)):=by rw[<- H];rfl
 have v4:ρ[4]? =some (some (zj (os K ks))):=by rw[<- H];rfl
 have m:ρ[5]? =some (some (.int (c:Int))):=by rw[<- H];rfl
 have v6:ρ[6]? =some (some (lw l)):=by rw[<- H];rfl
 have n:ρ[7]? =some (some (.ref A.length)):=by rw[<- H];rfl
 have J:mQ kN (qi yi) ρ A1=.ok (.int ((c:Int) * (c:Int))) A1:=by
  refine(jJ (kD (w:=.ref A.length) (ws:=cW K (yb t l l)) (zl n) (by unfold z0;dsimp only;rw[z]))).trans ?_
  rw[s,GJ]
  have:=Rt (CG d u h)
  unfold sm at this;rw[this];unfold yb;rw[RX (λa b=>(at2 t a b).toNat),r,Int.natCast_mul]
 have L:zi qw qk qk ρ A1=.ok (.int ((c:Int) * (c:Int))) A1:=(zK (zl m) (zl m)).trans (Qy (by omega) (by omega))
 have E:jH (zi qj (mQ qR (qi jw)) qk) (jH (zi (jL true) (zA JO (zc zt (zc zJ (zc jw zq)))) zQ) (zi qj (mQ kN (qi yi)) (zi qw qk qk))) ρ A1=.ok (.bl false) A1:=by
  refine(Zg (A1:=A1) ((zK (x:=.int (c:Int)) ((Kx (ws:=(nI l).map W.int) v6).trans (by rw[af,af,r])) (zl m)).trans (Ye _ _))).trans ?_
  refine(Zg (A1:=A1) ((zK ((zW (zy (zl v1) (zy (zl v2) (zy (zl v6) zP)))).trans (CA d u I h A1)) qh).trans rfl)).trans ?_;exact(zK J L).trans (Ye _ _)
 have M:zN 1 [7] (zY ql) (zE 0) (zi qj (zi zI zt zm) qe) (zH zm) ρ A1=.ok [] A1:=
  LQ (cap:=[7]) (N:=(os K ks).length) (it:=λi=>.int ((os K ks).getD i 0)) (g8 (ws:=(os K ks).map W.int) (zl v4)) (af ..) (λi hi=>by
   show some (((os K ks).map W.int)[i]?)=_;rw[int_at hi]) (by
   show some (((os K ks).map W.int)[(os K ks).length]?)=_;rw[aB (by rw[af];exact aj _)]) (λi hi=>by
   have hm:(os K ks).getD i 0∈os K ks:=by
    rw[ab,aa hi];exact aK hi
   obtain⟨g1,g2,g3⟩:=G1 hm;obtain⟨v,o⟩:=aU (show 0<=(os K ks).getD i 0 by omega)
   rw[o]at g1 g2 g3 ⊢;have P:([7].map λi=>(ρ[i]?).join)=[some (.ref A.length)]:=by
    show [(ρ[7]?).join]=_;rw[n]
    rfl
   rw[P];refine(zK ((zK (zl rfl) (zl rfl)).trans (ZJ z (f v (by omega)))) (qh (w:=.int 0))).trans ?_
   rw[D6 d h (by omega) g3]
   exact Ye 0 A1)
 have C:=(zK (g:=qj) (kY M) (wB zP)).trans (ne_nil (us:=[]) (p:=A1.length) (q:=(A1++[O.lst []]).length) (yz jx) jx λw hw=>by cases hw)
 generalize y:A1++[O.lst []]++[O.lst []]=A2 at C;have x2:Ext A1 A2:=⟨_,by rw[<- y,aO]⟩
 have e:jH (zi qj (qv (zN 1 [7] (zY ql) (zE 0) (zi qj (zi zI zt zm) qe) (zH zm))) (qW zq)) (zi qj (zi zI yi qe) qk) ρ A2.dropLast.dropLast=jH (zi qj (qv (zN 1 [7] (zY ql) (zE 0) (zi qj (zi zI zt zm) qe) (zH zm))) (qW zq)) (zi qj (zi zI yi qe) qk) ρ A2.dropLast.dropLast:=rfl;clear e;have e:jH (zi qj (qv (zN 1 [7] (zY ql) (zE 0) (zi qj (zi zI zt zm) qe) (zH zm))) (qW zq)) (zi qj (zi zI yi qe) qk) ρ A1=.ok (.bl false) A2:=by
  refine(Zg (A1:=A2) (C.trans rfl)).trans ?_;refine(zK ((zK (zl n) (qh (w:=.int 0))).trans (ZJ (x2.at z) (f 0 (by omega)))) (zl m)).trans ?_
  rw[Bm d h,r];exact Ye _ _
 refine⟨some (.ref A.length),A2,?_,x1.trans x2⟩;refine(zG (ρ1:=ρ) (A1:=A1) ((qB ((zW (zy (zl rfl) (zy (zl rfl) zP))).trans e7)).trans (by rw[<- H];rfl))).trans ?_
 refine(zG ((js E).trans qG)).trans ((zG ((js e).trans qG)).trans ?_);rw[H];exact qG
def FJ {r s:bO}(h:r.length+s.length<=100):qL (zj r) (zj s) A=.ok (zj (r++s)) A:=by
 unfold qL zj;dsimp only;rw[ah (by rw[af,af];unfold zT;omega),aG]
def Cg (s:jd 0 A)(D:1<=K)(z:K<=8)(v0:ρ[0]? =some (some (.ref 0)))(f:ρ[3]? =some (some (.int (K:Int)))):∃m B,zi qL (qz (zc (zi qL qc (zA jT (zc zm (zc j5 zq)))) zq)) (mQ j4 (zN 1 [0] (yT qc zU) (zE 0) zQ (zH (zi kq qe (zA jT (zc zt (zc j5 zq))))))) ρ A=.ok (zj m) B/\m.length=K/\Sl m/\jd 0 B:=by
 obtain⟨r,B,e,w,l,_⟩:=Kl (m:=4) s (by decide) (by decide)
 have p:qz (zc (zi qL qc (zA jT (zc zm (zc j5 zq)))) zq) ρ A=.ok (zj [1+(r:Int)]) B:=wX (zy ((zK qh ((zW (zy (zl v0) (zy qh zP))).trans e)).trans rfl) zP);have hm:=Ka (ρ:=ρ) (A:=B) (A1:=B) (A2:=B) (m:=qc) (m':=zU) (i:=1) (j:=(K:Int)) qh (zl f) (by decide) (yY (by omega))
 have o:((K:Int)-1).toNat=K-1:=by omega
 rw[o]at hm;have t:([0].map λi=>(ρ[i]?).join)=[some (.ref 0)]:=by
  show [(ρ[0]?).join]=_;rw[v0]
  rfl
 obtain⟨d,acc,C,E,_,⟨g,c,H,b⟩,S⟩:=wU (nl:=1) (cap:=[0]) (mi:=yT qc zU) (tw:=zE 0) (ifs:=zQ) (em:=zH (zi kq qe (zA jT (zc zt (zc j5 zq))))) (N:=K-1) (ρ:=ρ) (A:=B)
  (I:=λi ρ acc C=>(∃y,ρ=[y,some (.ref 0)])/\(∃s:bO,acc=s.map W.int/\s.length=i/\∀v∈s,-4<=v/\v<=4)/\jd 0 C) hm rfl
  (λi ρ acc C hi ⟨⟨y,a⟩,⟨s,c,H,b⟩,S⟩=>by
   subst a c;obtain⟨q,u,e,x,n,_⟩:=Kl (m:=4) S (by decide) (by decide)
   refine⟨_,_,wD hi,rfl,.inl ⟨C,_,_,u,rfl,wV (y:=.int (0-(q:Int))) ?_ (by rw[af];unfold zT;omega),⟨_,rfl⟩,⟨s++[0-(q:Int)],by rw[aG];rfl,by rw[aw,H];rfl,λv h=>by
    rcases cf.mp h with h|h
    ·exact b v h
    ·rw[cb.mp h];omega⟩,n.st⟩⟩
   exact(zK qh ((zW (zy (zl rfl) (zy qh zP))).trans e)).trans rfl)
  (λρ acc C _=>wA (by omega)) ⟨⟨none,by show none::([0].map λi=>(ρ[i]?).join)=_;rw[t]⟩,⟨[],rfl,rfl,λv h=>(by cases h)⟩,l.st⟩
 subst c;refine⟨[1+(r:Int)]++g,C,(zK p (gE E)).trans (FJ (by rw[H];simp;omega)),by rw[aw,H];simp;omega,λv h=>?_,S⟩
 rcases cf.mp h with h|h
 ·rw[cb.mp h];omega
 ·exact b v h
def HP {ma mb:Ev}(h:ma ρ A=.ok (.int 1) A)(h':mb ρ A=.ok (.int (K:Int)) A)(a:K<=8)(b:1<=K):J9 ma mb ρ A=.ok (zj (al K)) A:=by
 have H:((K:Int)-1).toNat=K-1:=by omega
 unfold J9;rw[h,zM,h',zM];dsimp only;rw[yY (by omega),H,ah (by rw[show q9 1=true by decide,ay (by unfold zT;omega)];rfl)]
 unfold zj al;rw[aL]
 rfl
def Du (s:jd 0 [o])(H:qa t)(kn:Known t)(d:qu t=(K:Int))(u:yq K ks):∃B,W2 [.ref 0,zr t,zj ks] [o]=.ok (.bl true) B/\jd 0 B:=by
 have kb:=km H;have n8:=H.n8;have st:=Us kn;obtain⟨S,hS⟩:=T8 H st K;obtain⟨c,mo,e5⟩:=Yd H d u;obtain⟨c1,mo1,e51⟩:=Yd H d (AL (ks:=ks) (K:=K) (by omega))
 obtain⟨c2,mo2,e52⟩:=Yd H d (cL (K:=K) (by omega))
 obtain⟨c3,mo3,e53⟩:=Yd H d (AJ u);obtain⟨c4,L,mo4,hL,hL2,e54⟩:=MR H d u;have hc4:=mo.uniq mo4;subst hc4;have h2:=mo2.all H (λv X h2=>C1 v X (by omega))
 subst h2;have h3:c3<=c:=mo.mono mo3 λv hv=>List.mem_of_mem_drop hv;obtain⟨l0,p,h⟩:=mo.ex;obtain⟨l1,P,n⟩:=mo1.ex;have hpr:=Il kn H p P λv hv=>(G1 hv).2.2;rw[h,n]at hpr;have hc8:c<=8:=by have:=p.len;omega
 have hc1:c1<=8:=by have:=P.len;omega
 have M:=Ka (ρ:=[some (.ref 0),some (zr t),some (zj ks),some (.int (K:Int)),none,none,none,none,none]) (A:=[o]) (A1:=[o]) (A2:=[o]) (m:=qc) (m':=zU) (i:=1) (j:=(K:Int)) qh (zl rfl) (by decide) (yY (by omega))
 have hk1:((K:Int)-1).toNat=K-1:=by omega
 rw[hk1]at M;have e4:=gE (Ik (cap:=[2]) (ifs:=zi Xh zm zt) (q:=λi=>!decide ((1:Int)+(i:Nat)∈ks)) M (by omega) (λi hi=>(zK (zl rfl) (zl rfl)).trans (RO (b:=true) _ ks [o])))
 have e4':W.tup (((List.range (K-1)).filter λi=>!decide ((1:Int)+(i:Nat)∈ks)).map λ(i:Nat)=>W.int (1+(i:Int)))=zj (os K ks):=by
  unfold zj os;rw[aL]
  rfl
 rw[e4']at e4;have eal:J9 qc zU [some (.ref 0),some (zr t),some (zj ks),some (.int (K:Int)),some (zj (os K ks)),some (.int (c:Int)),none,none,none] [o]=.ok (zj (al K)) [o]:=HP qh (zl rfl) (by omega) (by omega)
 have E:KD (zA YQ (zc zt (zc zJ zq))) gk (gc Yq) [some (.ref 0),some (zr t),some (zj ks),some (.int (K:Int)),some (zj (os K ks)),some (.int (c:Int)),none,none,none] [o]=.ok (.ref 2) ([o]++[.lst (L.map lw)]++[.lst ((L.take 6).map lw)]):=by
  unfold KD;rw[(zW (zy (zl rfl) (zy (zl rfl) zP))).trans (e54 [o]),zM];show R.ok (W.ref 2) ([o]++[O.lst (L.map lw)]++[O.lst (ym (L.map lw) none (some ((6:Nat):Int)))])=_;rw[Ak,map_take]
 generalize Q:[o]++[O.lst (L.map lw)]++[O.lst ((L.take 6).map lw)]=A1 at E;have x1:Ext [o] A1:=⟨_,by rw[<- Q,aO]⟩
 have r:A1[2]? =some (.lst ((L.take 6).map lw)):=by rw[<- Q];rfl
 have hL6:(L.take 6).length<=6:=by rw[a8];omega
 obtain⟨ρ',A2,eL,Y,y,l,xL⟩:=wk (j:=⟨λA i=>(z0 (.ref 2) A).map λws=>ws[i]?,((L.take 6).map lw).length⟩) (st:=turn (zE 6) rB) (N:=(L.take 6).length)
  (I:=λi ρ D=>∃Y y,ρ=[some (.ref 0),some (zr t),some (zj ks),some (.int (K:Int)),some (zj (os K ks)),some (.int (c:Int)),Y,y,none]/\Ext A1 D)
  (λi ρ D hi ⟨Y,y,l,U⟩=>by
   subst l;have J:(L.take 6)[i]? =some (L.take 6)[i]:=aa hi;obtain⟨g1,g2⟩:=hL _ (List.mem_of_mem_take (aK hi));obtain⟨y7',D',e,x'⟩:=Ag (x0:=some (.ref 0)) (x3:=some (.int (K:Int))) (x7:=y) (x8:=none) H d u g1 g2 D;exact⟨lw (L.take 6)[i],_,D',Qw (U.at r) (by rw[ao,J];rfl),(kE (ρ1:=[some (.ref 0),some (zr t),some (zj ks),some (.int (K:Int)),some (zj (os K ks)),some (.int (c:Int)),some (lw (L.take 6)[i]),y,none]) rfl).trans e,_,_,rfl,U.trans x'⟩)
  (λρ D ⟨_,_,_,U⟩=>Qu (U.at r) (by rw[af];exact aj _)) (L.take 6).length 0 [some (.ref 0),some (zr t),some (zj ks),some (.int (K:Int)),some (zj (os K ks)),some (.int (c:Int)),none,none,none] A1 (by omega) ⟨_,_,rfl,Ext.refl⟩
 subst l;have s2:jd 0 A2:=s.ext (x1.trans xL);obtain⟨m,T,e8,C,x,s3⟩:=Cg (K:=K) s2 (by omega) (by omega) (ρ:=[some (.ref 0),some (zr t),some (zj ks),some (.int (K:Int)),some (zj (os K ks)),some (.int (c:Int)),Y,y,none]) rfl rfl
 refine⟨T,qS ?_,s3⟩;unfold Uu;refine(zG (ρ1:=[some (.ref 0),some (zr t),some (zj ks),some (.int (K:Int)),none,none,none,none,none]) (A1:=[o]) ((qB ((zW (zy (zl rfl) zP)).trans ((R7 H [o]).trans (by rw[d])))).trans rfl)).trans ?_
 refine(zG (ρ1:=[some (.ref 0),some (zr t),some (zj ks),some (.int (K:Int)),some (zj (os K ks)),none,none,none,none]) (A1:=[o]) ((qB e4).trans rfl)).trans ?_;refine(zG (ρ1:=[some (.ref 0),some (zr t),some (zj ks),some (.int (K:Int)),some (zj (os K ks)),some (.int (c:Int)),none,none,none]) (A1:=[o]) ((qB ((zW (zy (zl rfl) (zy (zl rfl) zP))).trans (e5 [o]))).trans rfl)).trans ?_;refine(zG ((js (A1:=[o]) ?_).trans qG)).trans ?_
 ·refine(Zg (A1:=[o]) ((zK ((zK (zl rfl) ((zW (zy (zl rfl) (zy (zl rfl) zP))).trans (e51 [o]))).trans (Qy (by omega) (by omega))) (len_tab rfl)).trans ?_)).trans ?_
  ·show R.ok (W.bl (decide ((t.length:Int)<(c:Int) * (c1:Int)))) [o]=_
   rw[aC];rw[<- Int.natCast_mul];omega
  ·exact(zK ((zW (zy (zl rfl) (zy eal zP))).trans (e52 [o])) (len_tab rfl)).trans (Ye _ _)
 refine(zG (Rk E r (af ..) eL)).trans ?_;refine(zG ((js (A1:=A2) ?_).trans qG)).trans ?_
 ·have ec:gL zJ (gc qc) gk [some (.ref 0),some (zr t),some (zj ks),some (.int (K:Int)),some (zj (os K ks)),some (.int (c:Int)),Y,y,none] A2=.ok (zj (ks.drop 1)) A2:=by
   show R.ok (W.tup (ym (ks.map W.int) (some 1) none)) A2=_;rw[BC];unfold zj;rw[List.map_drop]
  refine(zK ((zW (zy (zl rfl) (zy ec zP))).trans (e53 A2)) (zl rfl)).trans ?_;show R.ok (W.bl (decide ((c:Int)<(c3:Int)))) A2=_;rw[aC (by omega)]
 refine(zG (ρ1:=[some (.ref 0),some (zr t),some (zj ks),some (.int (K:Int)),some (zj (os K ks)),some (.int (c:Int)),Y,y,some (zj m)]) (A1:=T) ((qB e8).trans rfl)).trans (qQ (jc ?_));have Z:=(zK (g:=jL true) ((zW (zy (zl (i:=1) (ρ:=[some (.ref 0),some (zr t),some (zj ks),some (.int (K:Int)),some (zj (os K ks)),some (.int (c:Int)),Y,y,some (zj m)]) rfl) (zy (zl (i:=2) rfl) (zy (wX (zy (zl (i:=8) rfl) zP)) zP)))).trans (GU H st d hS u C x T)) (qh (w:=.bl true)));cases f:kx K S ks m with
 |none=>
  rw[f]at Z;exact Pu (Z.trans rfl)
 |some v=>
  rw[f]at Z;refine(Zg (Z.trans rfl)).trans ((zK ((zW (zy (zl rfl) (zy (zl rfl) (zy (wX (zy (zl rfl) zP)) zP)))).trans (RA H st d hS u C x f T)) (zl rfl)).trans ?_);have hne:l0≠[]:=by
   intro z;have X:=mo.le [0] ⟨a0 _ _,λa ha=>by rw[cb.mp ha];exact H.n1,a0 _ _⟩
   rw[z]at h;rw[<- h]at X;exact absurd X (by decide)
  have:=T9 H d hS p hne f
  rw[h]at this;show R.ok (W.bl (decide ((c:Int)<=v))) T=_;rw[ay this]
def FV (s:jd n A)(g:qa t)(f:Known t)(m:qu t=(K:Int))(i:yq K ks):∃B,Z8 [.ref n,zr t,zj ks] A=.ok (.bl true) B/\Kn n A B:=by
 obtain⟨c,b,a,j,l⟩:=s;have hm:=gY a;obtain⟨A1,e,C,d,E,h,H⟩:=Du (o:=.lst [.int c,.bl b]) ⟨c,b,rfl,j,l⟩ g f m i;refine⟨A.set n (.lst [.int C,.bl d]),?_,⟨Kp.set,C,d,aM hm,h,H⟩⟩;unfold Z8;exact SH a (X6 t ks) e E rfl
end
section
variable {ks:bO}{B C:Hx}{k K:Nat}
def Dd (r:bO)(A:Hx):qj (zj r) (.tup []) A=.ok (.bl (!decide (r=[]))) A:=by
 show yV true _ _ A=_;unfold yV;rw[GD A 7 r];show R.ok (W.bl (!PyData.eqv (QF r) (.tuple []))) A=_;rw[QF,PyData.eqv]
 have:=YO r []
 rw[map_nil]at this;rw[this]
def HW (s:jd n A)(P:1<=K)(M:K<=8)(v2:ρ[2]? =some (some (.ref n)))(v4:ρ[4]? =some (some (.int (K:Int)))):∃ks B,mQ j4 (zN 1 [2] (yT qc ql) (zE 0) (zi jg (zA jT (zc zt (zc qY zq))) qc) (zH zm)) ρ A=.ok (zj ks) B/\yq K ks/\Kn n A B:=by
 have hm:=Ka (ρ:=ρ) (A:=A) (A1:=A) (A2:=A) (m:=qc) (m':=ql) (i:=1) (j:=(K:Int)) qh (zl v4) (by decide) (yY (by omega))
 have x:((K:Int)-1).toNat=K-1:=by omega
 rw[x]at hm;have J:([2].map λi=>(ρ[i]?).join)=[some (.ref n)]:=by
  show [(ρ[2]?).join]=_;rw[v2]
  rfl
 obtain⟨p,acc,C,D,_,⟨r,d,t,H,u⟩,c⟩:=wU (nl:=1) (cap:=[2]) (mi:=yT qc ql) (tw:=zE 0) (ifs:=zi jg (zA jT (zc zt (zc qY zq))) qc) (em:=zH zm) (N:=K-1) (ρ:=ρ) (A:=A)
  (I:=λi ρ acc C=>(∃y,ρ=[y,some (.ref n)])/\(∃r:bO,acc=r.map W.int/\r.length<=i/\(∀v∈r,1<=v/\v<1+(i:Int))/\r.Pairwise (· < ·))/\Kn n A C) hm rfl
  (λi ρ acc C hi ⟨⟨y,g⟩,⟨r,d,t,H,u⟩,c⟩=>by
   subst g d;obtain⟨q,f,e,L,o,_⟩:=Kl (m:=2) c.st (by decide) (by decide)
   have E:zi jg (zA jT (zc zt (zc qY zq))) qc [some (.int (1+(i:Int))),some (.ref n)] C=.ok (.bl (decide ((q:Int)=1))) f:=(zK ((zW (zy (zl rfl) (zy qh zP))).trans e) (qh (w:=.int 1))).trans (Jt _ _ _);refine⟨_,_,wD hi,rfl,?_⟩
   by_cases z:(q:Int)=1
   ·rw[ay z]at E
    refine .inl ⟨f,_,_,f,E,wV (zl rfl) (by rw[af];unfold zT;omega),⟨_,rfl⟩,⟨r++[1+(i:Int)],by rw[aG];rfl,by rw[aw];simp;omega,λv h=>?_,List.pairwise_append.mpr ⟨u,a0 _ _,λa d b l=>?_⟩⟩,c.trans o⟩
    ·rcases cf.mp h with h|h
     ·have:=H v h
      omega
     ·rw[cb.mp h]
      omega
    ·rw[cb.mp l]
     exact(H a d).2
   ·rw[aC z]at E
    refine .inr ⟨f,E,⟨_,rfl⟩,⟨r,rfl,by omega,λv h=>?_,u⟩,c.trans o⟩
    have:=H v h
    omega)
  (λρ acc C _=>wA (by omega)) ⟨⟨none,by show none::([2].map λi=>(ρ[i]?).join)=_;rw[J]⟩,⟨[],rfl,aj _,λv h=>(by cases h),List.Pairwise.nil⟩,⟨Kp.refl,s⟩⟩
 subst d;exact⟨r,C,gE D,⟨λv h=>by have:=H v h;omega,u,by omega⟩,c⟩
abbrev bM:Ex:=zp (z8 6 (zA QX (zc zU (zc qk zq)))) (zp (qy (jl (zi (jL true) jw yK) (zi (jL true) (zA ZF (zc zU (zc qk (zc (qz (zc jw zq)) zq)))) zQ)) yr zw) (zp (qy (jl (zi (jL true) jw yK) (zi yM (zA Qk (zc zU (zc qk (zc (qz (zc jw zq)) zq)))) (zA Qr (zc zU (zc qk zq))))) yr zw) zw))
def Bw {x0 x1 x2 x4 x6:Option W}(H:qa t)(st:kZ t)(b:qu t=(K:Int))(q:K<=4)(e:yq K ks)(g:ks≠[])(A:Hx):∃y,bM [x0,x1,x2,some (zr t),x4,some (zj ks),x6] A=.ok (.nx [x0,x1,x2,some (zr t),x4,some (zj ks),y]) A:=by
 obtain⟨S,f⟩:=T8 H st K;obtain⟨c,mo,r⟩:=Yd H b e;have E:=Cc H st b q f e g A;cases l:Wd K S ks with
 |none=>
  rw[l]at E;refine⟨some .non,(zG (ρ1:=[x0,x1,x2,some (zr t),x4,some (zj ks),some .non]) (A1:=A) ((qB ((zW (zy (zl rfl) (zy (zl rfl) zP))).trans E)).trans rfl)).trans ?_⟩;exact(zG ((js (Qs ((zK (zl rfl) qh).trans rfl))).trans qG)).trans ((zG ((js (Qs ((zK (zl rfl) qh).trans rfl))).trans qG)).trans qG)
 |some d=>
  rw[l]at E;obtain⟨g1,g2,g3⟩:=C8 l;have p:=GU H st b f e g2 g3 A;rw[g1]at p;have s:=RA H st b f e g2 g3 g1 A;obtain⟨L,j,h⟩:=mo.ex;have i:L≠[]:=by
   intro z;have m:=mo.le [0] ⟨a0 _ _,λa o=>by rw[cb.mp o];exact H.n1,a0 _ _⟩
   rw[z]at h;rw[<- h]at m;exact absurd m (by decide)
  have hle:=T9 H b f j i g1;rw[h]at hle;refine⟨some (zj d.1),(zG (ρ1:=[x0,x1,x2,some (zr t),x4,some (zj ks),some (zj d.1)]) (A1:=A) ((qB ((zW (zy (zl rfl) (zy (zl rfl) zP))).trans E)).trans rfl)).trans ?_⟩;have n:zi (jL true) jw yK [x0,x1,x2,some (zr t),x4,some (zj ks),some (zj d.1)] A=.ok (.bl true) A:=(zK (zl rfl) qh).trans rfl;refine(zG ((js ((kG n).trans ((zK ((zW (zy (zl rfl) (zy (zl rfl) (zy (wX (zy (zl rfl) zP)) zP)))).trans p) qh).trans rfl))).trans qG)).trans ?_;refine(zG ((js ((kG n).trans ((zK ((zW (zy (zl rfl) (zy (zl rfl) (zy (wX (zy (zl rfl) zP)) zP)))).trans s) ((zW (zy (zl rfl) (zy (zl rfl) zP))).trans (r A))).trans ?_))).trans qG)).trans qG;show R.ok (W.bl (decide (d.2<(c:Int)))) A=_;rw[aC (by omega)]
abbrev BL:Ex:=zp (z8 2 (zA QT (zc zm (zc zt zq)))) (zp (z8 3 (zA Z9 (zc zJ zq))) (zp (z8 4 (zA Qa (zc zU zq))) (zp (z8 5 (mQ j4 (zN 1 [2] (yT qc ql) (zE 0) (zi jg (zA jT (zc zt (zc qY zq))) qc) (zH zm)))) (zp (qy (yD (zA Z8 (zc zJ (zc zU (zc qk zq))))) yr zw) (zp (qy (jl (zi jg zt qe) (jl (zi qj qk (qz zq)) (zi yM ql Z3))) bM zw) zw)))))
def EO {x2 x3 x4 x5 x6:Option W}(h0:A[0]? =some (.ro (ns.map W.int))):∃r q p Y y B,BL [some (.ref 0),some (.int (k:Int)),x2,x3,x4,x5,x6] A=.ok (.nx [some (.ref 0),some (.int (k:Int)),r,q,p,Y,y]) B/\B[0]? =some (.ro (ns.map W.int)):=by
 obtain⟨o,d,s1⟩:=E7 h0 k;have hn:=gY h0;have m:(A++[o])[0]? =some (.ro (ns.map W.int)):=yz h0;generalize x:A++[o]=A1 at d s1 m;generalize A.length=n at d s1 hn;obtain⟨t,A2,I,H,f,i,_⟩:=Ej s1;have st:=Us f;have L:=km H;obtain⟨K,c⟩:=aU (show 0<=qu t by omega)
 obtain⟨ks,J,D,j,g⟩:=HW (K:=K) (ρ:=[some (.ref 0),some (.int (k:Int)),some (.ref n),some (zr t),some (.int (K:Int)),x5,x6]) i.st (by omega) (by omega) rfl rfl
 obtain⟨a,C,u⟩:=FV g.st H f c j;have s:=(i.trans g).trans u;have l:=s.kp.get m (by omega)
 have E:jl (zi jg zt qe) (jl (zi qj qk (qz zq)) (zi yM ql Z3)) [some (.ref 0),some (.int (k:Int)),some (.ref n),some (zr t),some (.int (K:Int)),some (zj ks),x6] a=.ok (.bl (decide ((k:Int)=0)&&((!decide (ks=[]))&&decide ((K:Int)<5)))) a:=
  Xy ((zK (zl rfl) (qh (w:=.int 0))).trans (Jt _ _ _)) (Xy ((zK (zl rfl) (wX zP)).trans (Dd ks a)) ((zK (zl rfl) (qh (w:=.int 5))).trans rfl))
 have head:∀{z},zp (qy (jl (zi jg zt qe) (jl (zi qj qk (qz zq)) (zi yM ql Z3))) bM zw) zw [some (.ref 0),some (.int (k:Int)),some (.ref n),some (zr t),some (.int (K:Int)),some (zj ks),x6] a=z->BL [some (.ref 0),some (.int (k:Int)),x2,x3,x4,x5,x6] A=z:=λ {z} v=>by
  refine(zG (ρ1:=[some (.ref 0),some (.int (k:Int)),some (.ref n),x3,x4,x5,x6]) (A1:=A1) ((qB ((zW (zy (zl rfl) (zy (zl rfl) zP))).trans d)).trans rfl)).trans ?_;refine(zG (ρ1:=[some (.ref 0),some (.int (k:Int)),some (.ref n),some (zr t),x4,x5,x6]) (A1:=A2) ((qB ((zW (zy (zl rfl) zP)).trans I)).trans rfl)).trans ?_;refine(zG (ρ1:=[some (.ref 0),some (.int (k:Int)),some (.ref n),some (zr t),some (.int (K:Int)),x5,x6]) (A1:=A2) ((qB ((zW (zy (zl rfl) zP)).trans ((R7 H A2).trans (by rw[c])))).trans rfl)).trans ?_
  refine(zG (ρ1:=[some (.ref 0),some (.int (k:Int)),some (.ref n),some (zr t),some (.int (K:Int)),some (zj ks),x6]) (A1:=J) ((qB D).trans rfl)).trans ?_;exact(zG ((js (A1:=a) (wz (k:=true) ((zW (zy (zl rfl) (zy (zl rfl) (zy (zl rfl) zP)))).trans C))).trans qG)).trans v
 cases h:(decide ((k:Int)=0)&&((!decide (ks=[]))&&decide ((K:Int)<5))) with
 |false=>
  rw[h]at E;exact⟨_,_,_,_,_,a,head ((zG ((js E).trans qG)).trans qG),l⟩
 |true=>
  rw[h]at E;rw[ak,ak]at h;have M:=of_decide_eq_true h.2.2;have b:ks≠[]:=λz=>by
   have:=h.2.1
   rw[ay z]at this;cases this
  obtain⟨y,e⟩:=Bw (x0:=some (.ref 0)) (x1:=some (.int (k:Int))) (x2:=some (.ref n)) (x4:=some (.int (K:Int))) (x6:=x6) H st c (by omega) j b a
  exact⟨_,_,_,_,_,a,head ((zG ((ZV E).trans e)).trans qG),l⟩
end
def Xw:Fn:=qH 7 (XA Z9 Z8 QT jT QX ZF Qa Qr Qk)
def HR:Pn Xw:=λns q=>by
 have s:z0 (.ref 0) [.ro (ns.map W.int)]=some (ns.map W.int):=rfl;have E:mQ qR (qi zm) [some (.ref 0),none,none,none,none,none,none] [.ro (ns.map W.int)]=.ok (.int ns.length) [.ro (ns.map W.int)]:=by
  rw[jJ (kD (w:=.ref 0) (A1:=[.ro (ns.map W.int)]) (zl rfl) s)];unfold qR;rw[af]
 have em:zi Xp qc (zi KL (mQ qR (qi zm)) jM) [some (.ref 0),none,none,none,none,none,none] [.ro (ns.map W.int)]=
   .ok (.int (if (if (3:Int)<ns.length then 3 else(ns.length:Int)) > 1 then(if (3:Int)<ns.length then 3 else(ns.length:Int)) else 1)) [.ro (ns.map W.int)]:=
  (zK (qh (w:=.int 1)) ((zK E (qh (w:=.int 3))).trans rfl)).trans rfl
 generalize l:(if (if (3:Int)<ns.length then 3 else(ns.length:Int)) > 1 then(if (3:Int)<ns.length then 3 else(ns.length:Int)) else 1)=v at em;have H:q9 v=true:=by
  have:0<=v/\v<1000:=by
   rw[<- l]
   split<;>split<;>omega
  obtain⟨k,rfl⟩:=aU this.1;exact Mr (by omega)
 obtain⟨g,B,e,_⟩:=wk (j:=yR 0 v.toNat) (st:=turn (zE 1) BL) (N:=v.toNat) (I:=λ_ ρ B=>B[0]? =some (.ro (ns.map W.int))/\∃f c b a Y y,ρ=[some (.ref 0),f,c,b,a,Y,y])
  (λi ρ B hi ⟨h0,f,c,b,a,Y,y,h⟩=>by
   subst h;obtain⟨p,o,n,Z,z,m,e,d⟩:=EO (k:=i) (x2:=c) (x3:=b) (x4:=a) (x5:=Y) (x6:=y) h0;refine⟨_,_,m,wD hi,(kE (ρ1:=[some (.ref 0),some (.int (i:Int)),c,b,a,Y,y]) ?_).trans e,d,_,_,_,_,_,_,rfl⟩;rw[zero_add];rfl)
  (λρ B _=>wA (by omega)) v.toNat 0 [some (.ref 0),none,none,none,none,none,none] [.ro (ns.map W.int)] (by omega) ⟨rfl,_,_,_,_,_,_,rfl⟩
 refine⟨B,qS ?_⟩;unfold XA;exact(zG ((wq (Qg em H)).trans e)).trans (qQ (jc qh))
section
variable {K:Frag}
def D0 (Z:Zz K h mg){f:Addr}(F:gT K "law" "law" KI f fd):yC P w K mg base wM 10 f fd ["_law_script"] (Zt K 1 Xw):=
 o_law (k:=9) Z.B F (N8 Z).up (N7 Z).up (N9 Z).up (gv Z).up (MX Z).up (W8 Z).up (Uq Z).up (J6 Z).up (SY Z).up
def all_mk {l:PySem.W.OpenLaw}{b:Addr}(X:K.In h)(Gl:h.Ns mainGlobals mg)(H:mg "law"=some (.ref b))(T:Tx K):
  ∃fd:FuncData,(∀(s:Shared)(v:Value),BindsTo s fd ⟨[v],[]⟩ [("_law_script",v)])/\∀base:Heap,K.In base->base.Ns mainGlobals mg->yC l.prog w K mg base wM 10 b fd ["_law_script"] (Zt K 1 Xw):=by
 obtain⟨f,fd,F,a⟩:=T.Ar;have e:=H.symm.trans (aV X Gl a);cases e;obtain⟨i,g,kV,doc,pm,an,c,ct,o,rfl,L,d⟩:=id F.ex;exact⟨_,λs v=>.of_eq rfl,λbase j nb=>D0 (zz X Gl T) F⟩
end
end G
namespace PySem.W.Fast
def tw11153052869013990140:Nat:=0
def tw6102842091564173653:Nat:=0
def tw5071740352695324715:Nat:=0
def tw16966425397346206165:Nat:=0
def tw12905401143141821416:Nat:=0
def tw2612084910682314448:Nat:=0
def tw14535034617025939083:Nat:=0
def tw3310026427159055375:Nat:=0
def tw8994716929054729234:Nat:=0
def tw6878357648108438837:Nat:=0
def tw5277530509046759616:Nat:=0
def tw2168398476449187975:Nat:=0
def tw10444544262120636554:Nat:=0
def tw12035610326367636836:Nat:=0
def tw15276047214577792197:Nat:=0
def tw10979987965678416586:Nat:=0
def tw8947514636744545282:Nat:=0
def tw9368348666311842024:Nat:=0
def tw5643306262935222566:Nat:=0
def tw6212171203827926370:Nat:=0
def tw8412813851786860979:Nat:=0
def tw13483056698296021769:Nat:=0
def tw8418275328834668327:Nat:=0
def tw16876093270916028828:Nat:=0
def tw4093471413064679327:Nat:=0
def tw13290610097360747258:Nat:=0
end PySem.W.Fast
open PySem PySem.W PyProof.Rows
set_option maxRecDepth 100000 in
set_option maxHeartbeats 0 in
theorem PySem.Challenge.cw_nearkinds_k53_whole_lots_holds : PySem.Challenge.rw_nearkinds_k53_whole_lots.Holds := by
 w_on;o_law;k_head;(case hw=>w_witness2)
 k_fill
 refine Mi.BJ (l:=PySem.Challenge.rw_nearkinds_k53_whole_lots) (k:=10) (x := "_law_script") G.HR rfl rfl ⟨rfl,by decide,by decide⟩ (λw h Y=>PySem.W.kIn_of Y) ?F
 case F=>
  intro w mg fa h KX Gl hmg;have T:G.Tx (L2.Ou KX):=by
   dsimp only [L2.Ou]
   apply G.Tx.mk<;>first | (refine' Mi.BX ?a ?l ?c ?k;(case a=>k_is);(case l=>k_is);(case c=>k_is);(case k=>k_is)) | (refine' Mi.BH ?a;(case a=>k_is)) | k_is|kernel_rfl
  exact G.all_mk KX Gl hmg T
